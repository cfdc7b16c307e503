import PyProof.Rows.All
import Wide.All
import OpenK.AllK
import Wide.FinOn
import HandS.ForMost
import HandS.Wide
import HandS.IsInst
import HandS.More
import HandS.TupAny
import HandS.Codes
import PySem.Challenge.RW_evenstrand_k02_lengths_and_thicknesses
set_option Elab.async false
set_option linter.all false
set_option maxRecDepth 100000
set_option maxHeartbeats 4000000
namespace My
open PySem PySem.Spec PyProof.Rows L2
/-! ### the text -/
def topS (i : Nat) : Stmt := PySem.Challenge.pw_evenstrand_k02_lengths_and_thicknesses.main.body.getD i (.Pass ⟨0, 0, 0, 0⟩)
abbrev s_length_of : Stmt := topS 1
abbrev N_length_of : List Str := ["wisp", "thickness", "long"]
abbrev P_length_of : List Str := ["wisp"]
theorem sc_length_of : FnScope N_length_of P_length_of (defScope s_length_of) := ⟨rfl, rfl, rfl, by decide +kernel, rfl, by decide +kernel, by decide +kernel⟩
abbrev s_weight_of : Stmt := topS 2
abbrev N_weight_of : List Str := ["wisp", "thickness", "long"]
abbrev P_weight_of : List Str := ["wisp"]
theorem sc_weight_of : FnScope N_weight_of P_weight_of (defScope s_weight_of) := ⟨rfl, rfl, rfl, by decide +kernel, rfl, by decide +kernel, by decide +kernel⟩
abbrev s_thick_at : Stmt := topS 3
abbrev N_thick_at : List Str := ["wisp", "k", "thickness", "long"]
abbrev P_thick_at : List Str := ["wisp", "k"]
theorem sc_thick_at : FnScope N_thick_at P_thick_at (defScope s_thick_at) := ⟨rfl, rfl, rfl, by decide +kernel, rfl, by decide +kernel, by decide +kernel⟩
abbrev s__law_blend : Stmt := topS 5
abbrev N__law_blend : List Str := ["_law_number", "_law_turn", "_law_seed", "_law_once"]
abbrev P__law_blend : List Str := ["_law_number", "_law_turn"]
theorem sc__law_blend : FnScope N__law_blend P__law_blend (defScope s__law_blend) := ⟨rfl, rfl, rfl, by decide +kernel, rfl, by decide +kernel, by decide +kernel⟩
abbrev s__law_pot : Stmt := topS 6
abbrev N__law_pot : List Str := ["_law_script"]
abbrev P__law_pot : List Str := ["_law_script"]
theorem sc__law_pot : FnScope N__law_pot P__law_pot (defScope s__law_pot) := ⟨rfl, rfl, rfl, by decide +kernel, rfl, by decide +kernel, by decide +kernel⟩
abbrev s__law_draw : Stmt := topS 7
abbrev N__law_draw : List Str := ["_law_pot_here", "_law_many", "_law_cell", "_law_digit"]
abbrev P__law_draw : List Str := ["_law_pot_here", "_law_many"]
theorem sc__law_draw : FnScope N__law_draw P__law_draw (defScope s__law_draw) := ⟨rfl, rfl, rfl, by decide +kernel, rfl, by decide +kernel, by decide +kernel⟩
abbrev s__law_great : Stmt := topS 8
abbrev N__law_great : List Str := ["_law_pot_here", "_law_way", "_law_number", "_law_turn"]
abbrev P__law_great : List Str := ["_law_pot_here"]
theorem sc__law_great : FnScope N__law_great P__law_great (defScope s__law_great) := ⟨rfl, rfl, rfl, by decide +kernel, rfl, by decide +kernel, by decide +kernel⟩
abbrev s__law_wisp : Stmt := topS 9
abbrev N__law_wisp : List Str := ["_law_pot_here", "_law_most", "_law_small", "_law_many", "_law_steps", "_law_strong_here", "_law_turn", "_law_more"]
abbrev P__law_wisp : List Str := ["_law_pot_here", "_law_most", "_law_small"]
theorem sc__law_wisp : FnScope N__law_wisp P__law_wisp (defScope s__law_wisp) := ⟨rfl, rfl, rfl, by decide +kernel, rfl, by decide +kernel, by decide +kernel⟩
abbrev s__law_whole : Stmt := topS 10
abbrev N__law_whole : List Str := ["_law_thing"]
abbrev P__law_whole : List Str := ["_law_thing"]
theorem sc__law_whole : FnScope N__law_whole P__law_whole (defScope s__law_whole) := ⟨rfl, rfl, rfl, by decide +kernel, rfl, by decide +kernel, by decide +kernel⟩
abbrev s__law_table : Stmt := topS 11
abbrev N__law_table : List Str := ["_law_wisp_here", "_law_found", "_law_begin", "_law_strong_here", "_law_long"]
abbrev P__law_table : List Str := ["_law_wisp_here"]
theorem sc__law_table : FnScope N__law_table P__law_table (defScope s__law_table) := ⟨rfl, rfl, rfl, by decide +kernel, rfl, by decide +kernel, by decide +kernel⟩
abbrev s__law_spots : Stmt := topS 12
abbrev N__law_spots : List Str := ["_law_pot_here", "_law_wisp_here", "_law_found", "_law_begin", "_law_end", "_law_strong_here"]
abbrev P__law_spots : List Str := ["_law_pot_here", "_law_wisp_here"]
theorem sc__law_spots : FnScope N__law_spots P__law_spots (defScope s__law_spots) := ⟨rfl, rfl, rfl, by decide +kernel, rfl, by decide +kernel, by decide +kernel⟩
abbrev s__law_strong : Stmt := topS 13
abbrev N__law_strong : List Str := ["_law_wisp_here", "_law_k", "_law_begin", "_law_end", "_law_strong_here"]
abbrev P__law_strong : List Str := ["_law_wisp_here", "_law_k"]
theorem sc__law_strong : FnScope N__law_strong P__law_strong (defScope s__law_strong) := ⟨rfl, rfl, rfl, by decide +kernel, rfl, by decide +kernel, by decide +kernel⟩
abbrev s__law_right : Stmt := topS 14
abbrev N__law_right : List Str := ["_law_pot_here", "_law_wisp_here", "_law_small", "_law_long", "_law_weight", "_law_last", "_law_due", "_law_k", "_law_found", "_law_begin", "_law_end", "_law_strong_here"]
abbrev P__law_right : List Str := ["_law_pot_here", "_law_wisp_here", "_law_small"]
theorem sc__law_right : FnScope N__law_right P__law_right (defScope s__law_right) := ⟨rfl, rfl, rfl, by decide +kernel, rfl, by decide +kernel, by decide +kernel⟩
abbrev s_law : Stmt := topS 15
abbrev N_law : List Str := ["_law_script", "_law_pot_here", "_law_turn", "_law_small", "_law_wisps", "_law_wisp_here"]
abbrev P_law : List Str := ["_law_script"]
theorem sc_law : FnScope N_law P_law (defScope s_law) := ⟨rfl, rfl, rfl, by decide +kernel, rfl, by decide +kernel, by decide +kernel⟩
/-! ### the names that are still the built-in ones -/
structure Bi (mg : Str → Option Value) : Prop where
  m_len : mg "len" = none
  m_sum : mg "sum" = none
  m_abs : mg "abs" = none
  m_isinstance : mg "isinstance" = none
  m_max : mg "max" = none
  m_min : mg "min" = none
  m_tuple : mg "tuple" = none
  m_list : mg "list" = none
  m_int : mg "int" = none
  m_bool : mg "bool" = none
  m_range : mg "range" = none
  m_enumerate : mg "enumerate" = none
/-! ### a def as its callers use it -/
structure Cal (P : Program) (w : World) (K : PySem.W.Frag) (mg : Str → Option Value) (base : Heap) (x : Str) (ps : List Str) (k : Nat) (sp : Sp) (f : Addr) (fd : FuncData) : Prop where
  G : FnOk P w K mg base CX0 k f fd ps sp
  g : mg x = some (.ref f)
  kp : PySem.W.keepIn K (.ref f) = true
  b : Binds K fd ps []
/-! ### heaps -/
def Keep (p l : Addr) (H H' : Hp) : Prop := ∀ a o, a ≠ p → a ≠ l → H a = some o → H' a = some o
theorem Keep.refl {p l : Addr} {H : Hp} : Keep p l H H := fun _ _ _ _ h => h
theorem Keep.trans {p l : Addr} {H H1 H2 : Hp} (a : Keep p l H H1) (b : Keep p l H1 H2) : Keep p l H H2 := fun c o n1 n2 h => b c o n1 n2 (a c o n1 n2 h)
theorem Keep.new {p l : Addr} {H H1 : Hp} {a : Addr} {o : HO} (k : Keep p l H H1) (h : H1 a = none) : Keep p l H (upd H1 a o) := fun c u n1 n2 e => by
  have e1 := k c u n1 n2 e
  rw [upd_ne (ne_of_none e1 h)]
  exact e1
theorem Keep.own {p l : Addr} {H H1 : Hp} {o : HO} (k : Keep p l H H1) : Keep p l H (upd H1 p o) := fun c u n1 n2 e => by
  rw [upd_ne n1]
  exact k c u n1 n2 e
theorem Keep.own2 {p l : Addr} {H H1 : Hp} {o : HO} (k : Keep p l H H1) : Keep p l H (upd H1 l o) := fun c u n1 n2 e => by
  rw [upd_ne n2]
  exact k c u n1 n2 e
/-- an object that was not there at H may change -/
theorem Keep.mine {p l a : Addr} {H H1 : Hp} {o : HO} (k : Keep p l H H1) (h : H a = none) : Keep p l H (upd H1 a o) := fun c u n1 n2 e => by
  rw [upd_ne (ne_of_none e h)]
  exact k c u n1 n2 e
def Tups (H H' : Hp) : Prop := ∀ a xs, H a = some (.tup xs) → H' a = some (.tup xs)
theorem Tups.refl {H : Hp} : Tups H H := fun _ _ h => h
theorem Tups.trans {H H1 H2 : Hp} (a : Tups H H1) (b : Tups H1 H2) : Tups H H2 := fun c xs h => b c xs (a c xs h)
theorem Tups.new {H : Hp} {a : Addr} {o : HO} (h : H a = none) : Tups H (upd H a o) := fun c xs e => by
  rw [upd_ne (ne_of_none e h)]
  exact e
theorem Tups.ls {H : Hp} {a : Addr} {xs : List V} {o : HO} (h : H a = some (.lst xs)) : Tups H (upd H a o) := fun c ys e => by
  have n : c ≠ a := ne_of e h (by intro z; cases z)
  rw [upd_ne n]
  exact e
theorem Tups.same {H H' : Hp} (h : Same H H') : Tups H H' := fun a xs e => h a _ e
/-- the pot: the cells that are left, the great number at hand, the seed, how many were drawn -/
def Pot (H : Hp) (p l : Addr) (T : Nat) : Prop := ∃ (ns : List Int) (c m : Int) (t : Nat), H p = some (.lst [.ref l, .int c, .int m, .int (t : Int)]) ∧ H l = some (.lst (ns.map V.int)) ∧ 0 ≤ c ∧ t ≤ T ∧ ns.length ≤ 63
theorem Pot.ne {H : Hp} {p l : Addr} {T : Nat} (h : Pot H p l T) : p ≠ l := by
  obtain ⟨ns, c, m, t, h1, h2, _⟩ := h
  intro e
  rw [e, h2] at h1
  cases ns with
  | nil => exact absurd h1 (by intro z; cases z)
  | cons n r => exact absurd h1 (by intro z; cases z)
theorem Pot.mono {H : Hp} {p l : Addr} {T U : Nat} (h : Pot H p l T) (e : T ≤ U) : Pot H p l U := by
  obtain ⟨ns, c, m, t, h1, h2, h3, h4, h5⟩ := h
  exact ⟨ns, c, m, t, h1, h2, h3, Nat.le_trans h4 e, h5⟩
theorem Pot.new {H : Hp} {p l a : Addr} {T : Nat} {o : HO} (h : Pot H p l T) (n : H a = none) : Pot (upd H a o) p l T := by
  obtain ⟨ns, c, m, t, h1, h2, h3⟩ := h
  exact ⟨ns, c, m, t, by rw [upd_ne (ne_of_none h1 n)]; exact h1, by rw [upd_ne (ne_of_none h2 n)]; exact h2, h3⟩
theorem Pot.other {H : Hp} {p l a : Addr} {T : Nat} {o : HO} (h : Pot H p l T) (n1 : a ≠ p) (n2 : a ≠ l) : Pot (upd H a o) p l T := by
  obtain ⟨ns, c, m, t, h1, h2, h3⟩ := h
  exact ⟨ns, c, m, t, by rw [upd_ne n1.symm]; exact h1, by rw [upd_ne n2.symm]; exact h2, h3⟩
theorem Pot.notP {H : Hp} {p l a : Addr} {T : Nat} {xs : List V} (h : Pot H p l T) (e : H a = some (.tup xs)) : a ≠ p ∧ a ≠ l := by
  obtain ⟨ns, c, m, t, h1, h2, h3⟩ := h
  exact ⟨ne_of e h1 (by intro z; cases z), ne_of e h2 (by intro z; cases z)⟩
theorem Pot.fresh {H : Hp} {p l a : Addr} {T : Nat} (h : Pot H p l T) (e : H a = none) : a ≠ p ∧ a ≠ l := by
  obtain ⟨ns, c, m, t, h1, h2, h3⟩ := h
  exact ⟨(ne_of_none h1 e).symm, (ne_of_none h2 e).symm⟩
theorem Keep.tups {p l : Addr} {H H' : Hp} {T : Nat} (k : Keep p l H H') (h : Pot H p l T) : Tups H H' := fun a xs e => by
  obtain ⟨n1, n2⟩ := h.notP e
  exact k a _ n1 n2 e
/-! ### what is drawn -/
def spBlend : Sp := fun vs H Q _ => ∃ (n : Int) (t : Int), vs = [.int n, .int t] ∧ 0 ≤ t ∧ t < 2 ^ 62 ∧ ∀ r, Q (.int r) H
def spDraw : Sp := fun vs H Q _ => ∃ (p l : Addr) (T : Nat) (many : Int), vs = [.ref p, .int many] ∧ Pot H p l T ∧ T < 2 ^ 40 ∧ CDivW 0 many ∧
  ∀ d H', 0 ≤ d → d < many → Pot H' p l (T + 1) → Keep p l H H' → Q (.int d) H'
def spGreat : Sp := fun vs H Q _ => ∃ (p l : Addr) (T : Nat), vs = [.ref p] ∧ Pot H p l T ∧ T < 2 ^ 39 ∧
  ∀ d H', 0 ≤ d → d < 2 ^ 122 → Pot H' p l (T + 5) → Keep p l H H' → Q (.int d) H'
/-! ### tuples at addresses -/
def TupsAt (H : Hp) (as : List Addr) (xss : List (List V)) : Prop := as.length = xss.length ∧ ∀ (i : Nat) (a : Addr), as[i]? = some a → ∃ xs, xss[i]? = some xs ∧ H a = some (.tup xs)
theorem TupsAt.nil {H : Hp} : TupsAt H [] [] := ⟨rfl, fun i a h => by simp at h⟩
theorem TupsAt.mono {H H' : Hp} {as : List Addr} {xss : List (List V)} (h : TupsAt H as xss) (t : Tups H H') : TupsAt H' as xss := ⟨h.1, fun i a e => by
  obtain ⟨xs, h1, h2⟩ := h.2 i a e
  exact ⟨xs, h1, t a xs h2⟩⟩
theorem TupsAt.cons {H : Hp} {as : List Addr} {xss : List (List V)} {a : Addr} {xs : List V} (h : TupsAt H as xss) (e : H a = some (.tup xs)) : TupsAt H (a :: as) (xs :: xss) := by
  refine ⟨by simp [h.1], fun i b hb => ?_⟩
  cases i with
  | zero =>
    have : a = b := Option.some.inj hb
    subst this
    exact ⟨xs, rfl, e⟩
  | succ j => exact h.2 j b hb
theorem TupsAt.snoc {H : Hp} {as : List Addr} {xss : List (List V)} {a : Addr} {xs : List V} (h : TupsAt H as xss) (e : H a = some (.tup xs)) : TupsAt H (as ++ [a]) (xss ++ [xs]) := by
  refine ⟨by simp [h.1], fun i b hb => ?_⟩
  by_cases hi : i < as.length
  · rw [List.getElem?_append_left hi] at hb
    obtain ⟨ys, h1, h2⟩ := h.2 i b hb
    exact ⟨ys, by rw [List.getElem?_append_left (by rw [← h.1]; exact hi)]; exact h1, h2⟩
  · rw [List.getElem?_append_right (by omega)] at hb
    have hz : i - as.length = 0 := by
      cases hk : i - as.length with
      | zero => rfl
      | succ n =>
        rw [hk] at hb
        simp at hb
    rw [hz] at hb
    have : a = b := Option.some.inj hb
    subst this
    refine ⟨xs, ?_, e⟩
    rw [List.getElem?_append_right (by rw [← h.1]; omega), ← h.1, hz]
    rfl
theorem TupsAt.get {H : Hp} {as : List Addr} {xss : List (List V)} (h : TupsAt H as xss) {i : Nat} {v : V} (e : (as.map V.ref)[i]? = some v) : ∃ a xs, v = .ref a ∧ as[i]? = some a ∧ xss[i]? = some xs ∧ H a = some (.tup xs) := by
  rw [List.getElem?_map] at e
  cases q : as[i]? with
  | none =>
    rw [q] at e
    cases e
  | some a =>
    rw [q] at e
    have e' : V.ref a = v := Option.some.inj e
    obtain ⟨xs, h1, h2⟩ := h.2 i a q
    exact ⟨a, xs, e'.symm, rfl, h1, h2⟩
/-! ### wisps -/
abbrev stepV (p : Int × Int) : List V := [.int p.1, .int p.2]
def WispAt (H : Hp) (a : Addr) (s : Int) (ps : List (Int × Int)) : Prop := ∃ (st : Addr) (as : List Addr), H a = some (.tup [.int s, .ref st]) ∧ H st = some (.tup (as.map V.ref)) ∧ TupsAt H as (ps.map stepV)
theorem WispAt.mono {H H' : Hp} {a : Addr} {s : Int} {ps : List (Int × Int)} (h : WispAt H a s ps) (t : Tups H H') : WispAt H' a s ps := by
  obtain ⟨st, as, h1, h2, h3⟩ := h
  exact ⟨st, as, t _ _ h1, t _ _ h2, h3.mono t⟩
theorem step_get {H : Hp} {as : List Addr} {ps : List (Int × Int)} (h : TupsAt H as (ps.map stepV)) {i : Nat} {v : V} (e : (as.map V.ref)[i]? = some v) : ∃ a t g, v = .ref a ∧ ps[i]? = some (t, g) ∧ H a = some (.tup [.int t, .int g]) := by
  obtain ⟨a, xs, h1, _, h2, h3⟩ := h.get e
  rw [List.getElem?_map] at h2
  cases q : ps[i]? with
  | none =>
    rw [q] at h2
    cases h2
  | some p =>
    rw [q] at h2
    have e' : stepV p = xs := Option.some.inj h2
    subst e'
    exact ⟨a, p.1, p.2, h1, rfl, h3⟩
def Good (ps : List (Int × Int)) : Prop := 1 ≤ ps.length ∧ ps.length ≤ 10 ∧ ∀ p ∈ ps, 1 ≤ p.1 ∧ p.1 < 2 ^ 200 ∧ 1 ≤ p.2 ∧ p.2 < 2 ^ 200
def Falls (ps : List (Int × Int)) : Prop := ps.Pairwise (fun a b => b.1 < a.1)
def Small (ps : List (Int × Int)) : Prop := ∀ p ∈ ps, p.1 ≤ 1000 ∧ p.2 ≤ 3
def spPot (K : PySem.W.Frag) : Sp := fun vs H Q _ => ∃ (a : Addr) (ns : List Int), vs = [.ref a] ∧ SqL K H a (ns.map V.int) ∧ ns.length ≤ 63 ∧
  ∀ H' p l, Same H H' → H p = none → H l = none → Pot H' p l 0 → Q (.ref p) H'
def spWisp : Sp := fun vs H Q _ => ∃ (p l : Addr) (T : Nat) (most : Int) (small : Bool), vs = [.ref p, .int most, .bl small] ∧ Pot H p l T ∧ T < 2 ^ 38 ∧ 3 ≤ most ∧ most ≤ 10 ∧
  ∀ H' a s ps, Pot H' p l (T + 150) → Keep p l H H' → WispAt H' a s ps → 0 ≤ s → s ≤ 1 → Good ps → (ps.length : Int) ≤ most → Falls ps → (small = true → Small ps) → H a = none → Q (.ref a) H'
def spWhole : Sp := fun vs H Q _ => ∃ i : Int, vs = [.int i] ∧ Q (.bl true) H
theorem Keep.free {p l a : Addr} {H H' : Hp} {T : Nat} (k : Keep p l H H') (hp : Pot H' p l T) (h : H' a = none) : H a = none := by
  obtain ⟨n1, n2⟩ := hp.fresh h
  cases q : H a with
  | none => rfl
  | some o =>
    rw [k a o n1 n2 q] at h
    cases h
/-! ### the mirrors -/
def longs (ps : List (Int × Int)) : Int := (ps.map (·.2)).sum
def weigh (ps : List (Int × Int)) : Int := (ps.map fun p => p.1 * p.2).sum
def thickAt : List (Int × Int) → Int → Int
  | [], _ => 0
  | (t, g) :: r, k => if k < g then t else thickAt r (k - g)
abbrev rowV (t : Int × Int × Int) : List V := [.int t.1, .int t.2.1, .int t.2.2]
def tableOf : Int → List (Int × Int) → List (Int × Int × Int)
  | _, [] => []
  | b, (t, g) :: r => (b, b + g, t) :: tableOf (b + g) r
def inRow (k : Int) (t : Int × Int × Int) : Bool := decide (t.1 ≤ k) && decide (k < t.2.1)
def strongOf (k : Int) (ts : List (Int × Int × Int)) : Int := ((ts.filter (inRow k)).map (·.2.2)).sum
theorem longs_nonneg : ∀ {ps : List (Int × Int)}, (∀ p ∈ ps, 1 ≤ p.2) → 0 ≤ longs ps
  | [], _ => by decide
  | p :: r, h => by
    have h1 := h p (by simp)
    have h2 := longs_nonneg (ps := r) fun x hx => h x (by simp [hx])
    unfold longs at *
    rw [List.map_cons, List.sum_cons]
    omega
theorem longs_cons {p : Int × Int} {r : List (Int × Int)} : longs (p :: r) = p.2 + longs r := by
  unfold longs
  rw [List.map_cons, List.sum_cons]
theorem weigh_cons {p : Int × Int} {r : List (Int × Int)} : weigh (p :: r) = p.1 * p.2 + weigh r := by
  unfold weigh
  rw [List.map_cons, List.sum_cons]
theorem table_len : ∀ (ps : List (Int × Int)) (b : Int), (tableOf b ps).length = ps.length
  | [], _ => rfl
  | (t, g) :: r, b => by
    show (tableOf (b + g) r).length + 1 = r.length + 1
    rw [table_len r]
theorem table_get : ∀ (ps : List (Int × Int)) (b : Int) (i : Nat) (t g : Int), ps[i]? = some (t, g) → (tableOf b ps)[i]? = some (b + longs (ps.take i), b + longs (ps.take (i + 1)), t)
  | [], _, _, _, _, h => by simp at h
  | (t', g') :: r, b, 0, t, g, h => by
    have e := Option.some.inj h
    obtain ⟨rfl, rfl⟩ := Prod.mk.inj e
    show some (b, b + g', t') = some (b + longs [], b + longs [(t', g')], t')
    unfold longs
    simp
  | (t', g') :: r, b, i + 1, t, g, h => by
    show (tableOf (b + g') r)[i]? = some (b + longs ((t', g') :: r.take i), b + longs ((t', g') :: r.take (i + 1)), t)
    rw [table_get r (b + g') i t g h, longs_cons, longs_cons]
    simp only [Int.add_assoc]
theorem strong_cons {k : Int} {t : Int × Int × Int} {ts : List (Int × Int × Int)} : strongOf k (t :: ts) = (if inRow k t = true then t.2.2 else 0) + strongOf k ts := by
  unfold strongOf
  rw [List.filter_cons]
  split
  · rw [List.map_cons, List.sum_cons]
  · rw [Int.zero_add]
theorem strong_table : ∀ (ps : List (Int × Int)) (b k : Int), (∀ p ∈ ps, 1 ≤ p.2) → strongOf k (tableOf b ps) = if k < b then 0 else thickAt ps (k - b)
  | [], b, k, _ => by
    show (0 : Int) = if k < b then 0 else 0
    split <;> rfl
  | (t, g) :: r, b, k, h => by
    have hg : 1 ≤ g := h (t, g) (by simp)
    have ih := strong_table r (b + g) k fun x hx => h x (by simp [hx])
    show strongOf k ((b, b + g, t) :: tableOf (b + g) r) = if k < b then 0 else if k - b < g then t else thickAt r (k - b - g)
    rw [strong_cons, ih]
    have e : k - b - g = k - (b + g) := by omega
    rw [e]
    by_cases h1 : k < b
    · rw [if_pos h1, if_pos (show k < b + g by omega), if_neg]
      · rfl
      · intro z
        have := (Bool.and_eq_true_iff.mp z).1
        have := of_decide_eq_true this
        simp only at this
        omega
    · by_cases h2 : k - b < g
      · rw [if_neg h1, if_pos h2, if_pos (show k < b + g by omega), if_pos]
        · show t + 0 = t
          omega
        · exact Bool.and_eq_true_iff.mpr ⟨decide_eq_true (show b ≤ k by omega), decide_eq_true (show k < b + g by omega)⟩
      · rw [if_neg h1, if_neg h2, if_neg (show ¬ k < b + g by omega), if_neg]
        · omega
        · intro z
          have := of_decide_eq_true (Bool.and_eq_true_iff.mp z).2
          simp only at this
          omega
def dueOf (ts : List (Int × Int × Int)) : Int := (ts.map fun t => (t.2.1 - t.1) * t.2.2).sum
theorem due_table : ∀ (ps : List (Int × Int)) (b : Int), dueOf (tableOf b ps) = weigh ps
  | [], _ => rfl
  | (t, g) :: r, b => by
    have ih := due_table r (b + g)
    show ((b, b + g, t) :: tableOf (b + g) r |>.map fun t => (t.2.1 - t.1) * t.2.2).sum = weigh ((t, g) :: r)
    rw [weigh_cons, List.map_cons, List.sum_cons, ← ih]
    show (b + g - b) * t + dueOf _ = t * g + dueOf _
    rw [show b + g - b = g by omega, Int.mul_comm]
def sumTo (n : Nat) (f : Int → Int) : Int := ((List.range n).map fun (i : Nat) => f (i : Int)).sum
theorem sumTo_succ (n : Nat) (f : Int → Int) : sumTo (n + 1) f = sumTo n f + f n := by
  unfold sumTo
  rw [List.range_succ, List.map_append, List.sum_append]
  simp
theorem sumTo_const (t : Int) : ∀ n : Nat, sumTo n (fun _ => t) = n * t
  | 0 => by simp [sumTo]
  | n + 1 => by
    rw [sumTo_succ, sumTo_const t n, Int.natCast_add, Int.add_mul]
    simp
theorem sumTo_add (f : Int → Int) (n : Nat) : ∀ m : Nat, sumTo (n + m) f = sumTo n f + sumTo m (fun k => f (n + k))
  | 0 => by simp [sumTo]
  | m + 1 => by
    rw [← Nat.add_assoc, sumTo_succ, sumTo_succ, sumTo_add f n m, Int.natCast_add, Int.add_assoc]
theorem sumTo_congr {f g : Int → Int} : ∀ n : Nat, (∀ i : Nat, i < n → f i = g i) → sumTo n f = sumTo n g
  | 0, _ => rfl
  | n + 1, h => by
    rw [sumTo_succ, sumTo_succ, sumTo_congr n (fun i hi => h i (by omega)), h n (by omega)]
theorem sumTo_thick : ∀ (ps : List (Int × Int)) (n : Nat), (∀ p ∈ ps, 1 ≤ p.2) → longs ps ≤ n → sumTo n (thickAt ps) = weigh ps
  | [], n, _, _ => by
    rw [show thickAt [] = fun _ => 0 from funext fun _ => rfl, sumTo_const]
    simp [weigh]
  | (t, g) :: r, n, h, hl => by
    have hg : 1 ≤ g := h (t, g) (by simp)
    rw [longs_cons] at hl
    have hl : g + longs r ≤ n := hl
    have h0 := longs_nonneg (ps := r) fun x hx => h x (by simp [hx])
    obtain ⟨G, rfl⟩ : ∃ G : Nat, g = G := ⟨g.toNat, by omega⟩
    obtain ⟨m, rfl⟩ : ∃ m : Nat, n = G + m := ⟨n - G, by omega⟩
    rw [sumTo_add, weigh_cons]
    have ih := sumTo_thick r m (fun x hx => h x (by simp [hx])) (by omega)
    have e1 : sumTo G (thickAt ((t, (G : Int)) :: r)) = G * t := by
      rw [← sumTo_const t G]
      refine sumTo_congr G fun i hi => ?_
      show (if (i : Int) < G then t else _) = t
      rw [if_pos (by omega)]
    have e2 : sumTo m (fun k => thickAt ((t, (G : Int)) :: r) (G + k)) = sumTo m (thickAt r) := by
      refine sumTo_congr m fun i _ => ?_
      show (if (G : Int) + i < G then t else thickAt r ((G : Int) + i - G)) = thickAt r i
      rw [if_neg (by omega), show (G : Int) + i - G = i by omega]
    rw [e1, e2, ih, Int.mul_comm]
theorem take_map_succ {α β : Type} {l : List α} {i : Nat} {x : α} (f : α → β) (h : l[i]? = some x) : (l.take (i + 1)).map f = (l.take i).map f ++ [f x] := by
  rw [List.take_add_one, h, List.map_append]
  rfl
theorem longs_take {ps : List (Int × Int)} {i : Nat} {t g : Int} (h : ps[i]? = some (t, g)) : longs (ps.take (i + 1)) = longs (ps.take i) + g := by
  unfold longs
  rw [take_map_succ _ h, List.sum_append]
  simp
theorem Same.wisp {H H' : Hp} {a : Addr} {s : Int} {ps : List (Int × Int)} (e : Same H H') (h : WispAt H a s ps) : WispAt H' a s ps := h.mono (Tups.same e)
theorem same_new {H H1 : Hp} {p : Addr} {o : HO} (k : Same H H1) (h : H1 p = none) : Same H (upd H1 p o) := fun b x e => by
  have e1 := k b x e
  rw [upd_ne (ne_of_none e1 h)]
  exact e1
theorem same_mine {H H1 : Hp} {p : Addr} {o : HO} (k : Same H H1) (h : H p = none) : Same H (upd H1 p o) := fun b x e => by
  rw [upd_ne (ne_of_none e h)]
  exact k b x e
theorem Same.free' {H H' : Hp} (e : Same H H') {l : Addr} (h : H' l = none) : H l = none := Same.free e h
theorem mul_ok {ps : List (Int × Int)} (h : Good ps) {i : Nat} {t g : Int} (e : ps[i]? = some (t, g)) : CMulW t g := by
  obtain ⟨_, _, h3⟩ := h
  have := h3 (t, g) (List.mem_of_getElem? e)
  refine wide_mul (a := 200) (b := 200) ?_ ?_ (by decide) (by decide) (by decide)
  · have h1 : t < 2 ^ 200 := this.2.1
    have h0 : 1 ≤ t := this.1
    have h2 : (t.natAbs : Int) = t := by omega
    have h3 : (t.natAbs : Int) < ((2 ^ 200 : Nat) : Int) := by rw [h2]; exact h1
    exact Int.ofNat_lt.mp h3
  · have h1 : g < 2 ^ 200 := this.2.2.2
    have h0 : 1 ≤ g := this.2.2.1
    have h2 : (g.natAbs : Int) = g := by omega
    have h3 : (g.natAbs : Int) < ((2 ^ 200 : Nat) : Int) := by rw [h2]; exact h1
    exact Int.ofNat_lt.mp h3
def spLen : Sp := fun vs H Q _ => ∃ (a : Addr) (s : Int) (ps : List (Int × Int)), vs = [.ref a] ∧ WispAt H a s ps ∧ Good ps ∧ ∀ H', Same H H' → Q (.int (longs ps)) H'
def spWeight : Sp := fun vs H Q _ => ∃ (a : Addr) (s : Int) (ps : List (Int × Int)), vs = [.ref a] ∧ WispAt H a s ps ∧ Good ps ∧ ∀ H', Same H H' → Q (.int (weigh ps)) H'
def spThick : Sp := fun vs H Q _ => ∃ (a : Addr) (s : Int) (ps : List (Int × Int)) (k : Int), vs = [.ref a, .int k] ∧ WispAt H a s ps ∧ Q (.int (thickAt ps k)) H
def TableAt (H : Hp) (o : Addr) (ts : List (Int × Int × Int)) : Prop := ∃ as, H o = some (.lst (as.map V.ref)) ∧ TupsAt H as (ts.map rowV)
def spTable : Sp := fun vs H Q _ => ∃ (a : Addr) (s : Int) (ps : List (Int × Int)), vs = [.ref a] ∧ WispAt H a s ps ∧ ps.length ≤ 10 ∧ ∀ H' o, Same H H' → H o = none → TableAt H' o (tableOf 0 ps) → Q (.ref o) H'
def spStrong : Sp := fun vs H Q _ => ∃ (a : Addr) (s : Int) (ps : List (Int × Int)) (k : Int), vs = [.ref a, .int k] ∧ WispAt H a s ps ∧ Good ps ∧ 0 ≤ k ∧ ∀ H', Same H H' → Q (.int (thickAt ps k)) H'
def spSpots : Sp := fun vs H Q _ => ∃ (p l : Addr) (T : Nat) (a : Addr) (s : Int) (ps : List (Int × Int)), vs = [.ref p, .ref a] ∧ Pot H p l T ∧ T < 2 ^ 38 ∧ WispAt H a s ps ∧ Good ps ∧
  ∀ (H' : Hp) (o : Addr) (ns : List Int), Pot H' p l (T + 10) → Keep p l H H' → H o = none → H' o = some (.lst (ns.map V.int)) → (∀ n ∈ ns, (0 : Int) ≤ n) → ns.length ≤ 100 → Q (.ref o) H'
theorem row_get {H : Hp} {as : List Addr} {ts : List (Int × Int × Int)} (h : TupsAt H as (ts.map rowV)) {i : Nat} {v : V} (e : (as.map V.ref)[i]? = some v) : ∃ a b c d, v = .ref a ∧ ts[i]? = some (b, c, d) ∧ H a = some (.tup [.int b, .int c, .int d]) := by
  obtain ⟨a, xs, h1, _, h2, h3⟩ := h.get e
  rw [List.getElem?_map] at h2
  cases q : ts[i]? with
  | none =>
    rw [q] at h2
    cases h2
  | some p =>
    rw [q] at h2
    have e' : rowV p = xs := Option.some.inj h2
    subst e'
    exact ⟨a, p.1, p.2.1, p.2.2, h1, rfl, h3⟩
theorem yesIte {σ : L2.St} {H : Hp} {A B : Hp → Prop} (h : A H) : tYes σ H (fun b H3 => if b = true then A H3 else B H3) := by
  show if true = true then A H else B H
  rw [if_pos rfl]
  exact h
def spRight : Sp := fun vs H Q _ => ∃ (p l : Addr) (T : Nat) (a : Addr) (s : Int) (ps : List (Int × Int)) (small : Bool), vs = [.ref p, .ref a, .bl small] ∧ Pot H p l T ∧ T < 2 ^ 37 ∧ WispAt H a s ps ∧ Good ps ∧ (small = true → Small ps) ∧
  ∀ (H' : Hp), Pot H' p l (T + 15) → Keep p l H H' → Q (.bl true) H'
theorem Pot.same {H H' : Hp} {p l : Addr} {T : Nat} (h : Pot H p l T) (e : Same H H') : Pot H' p l T := by
  obtain ⟨ns, c, m, t, h1, h2, h3⟩ := h
  exact ⟨ns, c, m, t, e _ _ h1, e _ _ h2, h3⟩
theorem Same.keep {p l : Addr} {H H' : Hp} (e : Same H H') : Keep p l H H' := fun c o _ _ h => e c o h
theorem WispAt.keep {p l : Addr} {H H' : Hp} {T : Nat} {a : Addr} {s : Int} {ps : List (Int × Int)} (h : WispAt H a s ps) (k : Keep p l H H') (hp : Pot H p l T) : WispAt H' a s ps := h.mono (k.tups hp)
theorem longs_small : ∀ {ps : List (Int × Int)}, Small ps → longs ps ≤ 3 * ps.length
  | [], _ => by decide
  | p :: r, h => by
    have h1 := h p (by simp)
    have h2 := longs_small (ps := r) fun x hx => h x (by simp [hx])
    rw [longs_cons, List.length_cons]
    omega
theorem table_last : ∀ (ps : List (Int × Int)) (b : Int), ps ≠ [] → ∃ b' t, (tableOf b ps).getLast? = some (b', b + longs ps, t)
  | [], _, h => absurd rfl h
  | [(t, g)], b, _ => ⟨b, t, by
    show some (b, b + g, t) = some (b, b + longs [(t, g)], t)
    rw [longs_cons]
    show some (b, b + g, t) = some (b, b + (g + 0), t)
    rw [Int.add_zero]⟩
  | (t, g) :: x :: r, b, _ => by
    obtain ⟨b', t', h⟩ := table_last (x :: r) (b + g) (by simp)
    refine ⟨b', t', ?_⟩
    have e : tableOf b ((t, g) :: x :: r) = (b, b + g, t) :: tableOf (b + g) (x :: r) := rfl
    have e2 : ∃ y ys, tableOf (b + g) (x :: r) = y :: ys := ⟨_, _, rfl⟩
    obtain ⟨y, ys, e2⟩ := e2
    rw [e, e2, List.getLast?_cons_cons, ← e2, h, longs_cons (p := (t, g)), Int.add_assoc]
theorem mulw_symm {i j : Int} (h : CMulW i j) : CMulW j i := by
  unfold CMulW at *
  omega
theorem iteNT {A B : Prop} (h : B) : if (!true) = true then A else B := by
  rw [if_neg (by decide)]
  exact h
def spLaw (K : PySem.W.Frag) : Sp := fun vs H Q _ => ∃ (a : Addr) (ns : List Int), vs = [.ref a] ∧ SqL K H a (ns.map V.int) ∧ ns.length ≤ 63 ∧ ∀ H', Q (.bl true) H'
section
variable {P : Program} {w : World} {K : PySem.W.Frag} {mg : Str → Option Value} {base : Heap}
theorem ok__law_blend {f : Addr} {fd : FuncData} {k : Nat} (F : Fun K "_law_blend" "_law_blend" s__law_blend f fd) : FnOk P w K mg base CX0 (k + 1) f fd P__law_blend spBlend := by
  refine F.ok sc__law_blend (fun vs H Q E h => ?_) (fun cdv A outer s H vs Q E hr h => ?_)
  · obtain ⟨n, t, rfl, _⟩ := h
    rfl
  · obtain ⟨n, t, rfl, h0, h1, q⟩ := h
    refine ⟨_, (pss_cons (ps_set (i := 2) sc__law_blend.nd rfl (.inl rfl) (pe_op op_add (pe_op op_add (pe_op op_add (pe_op op_mod (pv 0) pe_int) (pe_op op_mul (pe_op op_mul pe_int (pv 1)) (pv 1))) (pe_op op_mul pe_int (pv 1))) pe_int))
    (pss_cons (ps_set (i := 3) sc__law_blend.nd rfl (.inl rfl) (pe_op op_mod (pe_op op_mul (pv 2) pe_int) pe_int))
    (pss_one (ps_ret (pe_op op_mod (pe_op op_add (pe_op op_mul (pv 3) (pe_op op_add (pe_op op_mod (pv 3) pe_int) (pe_op op_mul pe_int (pv 1)))) (pe_op op_fdiv (pv 3) pe_int)) pe_int))))), ?_⟩
    have b1 : -(2 ^ 64) < t ∧ t < 2 ^ 64 := ⟨by omega, by omega⟩
    have b2 : ∀ x : Int, -(2 ^ 64) < x % 2305843009213693921 ∧ x % 2305843009213693921 < 2 ^ 64 := fun x => ⟨by omega, by omega⟩
    refine ⟨_, rfl, _, _, rfl, rfl, (by show (0 : Int) < 2305843009213693951; decide), _, rfl, _, _, rfl, rfl, .inl ⟨by decide, by decide⟩, _, rfl, _, _, rfl, rfl, .inr b1, _, _, rfl, rfl, _, rfl, _, _, rfl, rfl, .inl ⟨by decide, by decide⟩, _, _, rfl, rfl, _, _, rfl, rfl, ?_⟩
    refine ⟨_, rfl, _, _, rfl, rfl, .inr ⟨by decide, by decide⟩, _, _, rfl, rfl, (by show (0 : Int) < 2305843009213693921; decide), ?_⟩
    refine ⟨_, rfl, _, rfl, _, _, rfl, rfl, (by show (0 : Int) < 1000003; decide), _, rfl, _, _, rfl, rfl, .inl ⟨by decide, by decide⟩, _, _, rfl, rfl, _, _, rfl, rfl, .inl (b2 _), _, rfl, _, _, rfl, rfl, ⟨by decide, by decide⟩, _, _, rfl, rfl, _, _, rfl, rfl, (by show (0 : Int) < 2305843009213693907; decide), q _⟩
theorem dpInts (H : Hp) : ∀ ns : List Int, DpAll K H (ns.map V.int) (ns.map PyData.int)
  | [] => .nil
  | n :: r => .cons (.int n) (dpInts H r)
theorem shInts (ns : List Int) : SeqAt.shaped (.list (ns.map PyData.int)) = true := by
  have h1 : PyData.canLayAll0 (ns.map PyData.int) = true := by
    induction ns with
    | nil => rfl
    | cons n r ih => exact (Bool.and_eq_true_iff.mpr ⟨rfl, ih⟩)
  have h2 : PyData.depthAll (ns.map PyData.int) = 0 := by
    clear h1
    induction ns with
    | nil => rfl
    | cons n r ih =>
      show max 0 (PyData.depthAll (r.map PyData.int)) = 0
      rw [ih]
      rfl
  refine Bool.and_eq_true_iff.mpr ⟨h1, decide_eq_true ?_⟩
  show PyData.depthAll (ns.map PyData.int) + 1 ≤ 64
  rw [h2]
  decide
theorem ok__law_draw {f fB : Addr} {fd fdB : FuncData} (F : Fun K "_law_draw" "_law_draw" s__law_draw f fd) (bi : Bi mg) (C__law_blend : Cal P w K mg base "_law_blend" P__law_blend 1 spBlend fB fdB) : FnOk P w K mg base CX0 2 f fd P__law_draw spDraw := by
  refine F.ok sc__law_draw (fun vs H Q E h => ?_) (fun cdv A outer s H vs Q E hr h => ?_)
  · obtain ⟨p, l, T, many, rfl, _⟩ := h
    rfl
  · obtain ⟨p, l, T, many, rfl, hp, hT, m0, q⟩ := h
    have hu64 := hr.units
    refine ⟨_, (pss_cons (ps_asg (pe_op op_add (pe_ix ix_list (pv 0) pe_int (fun _ _ => rfl)) pe_int) (pg_sub (pv 0) pe_int set_list))
    (C8.pss_cut (ps_if (pw_and (pt_cmpR op_eq (pe_ix ix_list (pv 0) pe_int (fun _ _ => rfl)) pe_int (nomark _)) (pw_and1 (pt_cmpR (op_neD hu64) (pe_ix ix_list (pv 0) pe_int (fun _ _ => rfl)) (pe_lst pa_nil) (nomark _)))).pt
      (pss_cons (ps_set (i := 2) sc__law_draw.nd rfl (.inl rfl) (pe_bm PySem.F.plainAttrs_list PySem.F.slot_list_pop PySem.F.type_list_pop mt_popAt (pe_ix ix_list (pv 0) pe_int (fun _ _ => rfl)) (pa_cons pe_int pa_nil)))
        (pss_cons (ps_asg (pe_call (C__law_blend.G.mono (by decide)) hr (by rfl) C__law_blend.g C__law_blend.kp C__law_blend.b .nil pass0 (pa_cons (pe_op op_add (pe_ix ix_list (pv 0) pe_int (fun _ _ => rfl)) (pv 2)) (pa_cons (pe_callB call_len_seq (by rfl) bi.m_len (by decide +kernel) (pa_cons (pe_ix ix_list (pv 0) pe_int (fun _ _ => rfl)) pa_nil)) pa_nil))) (pg_sub (pv 0) pe_int set_list))
        (pss_one (ps_if (pt_cmpR op_ge (pe_callB call_abs (by rfl) bi.m_abs (by decide +kernel) (pa_cons (pv 2) pa_nil)) (pe_op op_pow pe_int pe_int) (nomark _))
          (pss_one (ps_asg (pe_callB call_abs (by rfl) bi.m_abs (by decide +kernel) (pa_cons (pv 2) pa_nil)) (pg_sub (pv 0) pe_int set_list)))
          pss_nil))))
      pss_nil)
    (pss_cons (ps_if (pt_cmpR op_gt (pe_ix ix_list (pv 0) pe_int (fun _ _ => rfl)) pe_int (nomark _))
      (pss_cons (ps_set (i := 3) sc__law_draw.nd rfl (.inl rfl) (pe_op op_mod (pe_ix ix_list (pv 0) pe_int (fun _ _ => rfl)) (pv 1)))
        (pss_cons (ps_asg (pe_op op_fdivW (pe_ix ix_list (pv 0) pe_int (fun _ _ => rfl)) (pv 1)) (pg_sub (pv 0) pe_int set_list))
        (pss_one (ps_ret (pv 3)))))
      pss_nil)
    (pss_one (ps_ret (pe_op op_mod (pe_op op_fdiv (pe_call (C__law_blend.G.mono (by decide)) hr (by rfl) C__law_blend.g C__law_blend.kp C__law_blend.b .nil pass0 (pa_cons (pe_ix ix_list (pv 0) pe_int (fun _ _ => rfl)) (pa_cons (pe_ix ix_list (pv 0) pe_int (fun _ _ => rfl)) pa_nil))) pe_int) (pv 1))))))), ?_⟩
    have hne := hp.ne
    obtain ⟨ns, c, m, t, ep, el, c0, tT, hn⟩ := hp
    -- pot[3] = pot[3] + 1
    refine ⟨_, rfl, p, _, 3, _, rfl, rfl, SqL.of ep, atI_nat (j := 3) rfl, _, _, rfl, rfl, _, rfl, p, _, 3, 3, rfl, rfl, ep, rfl, ?_⟩
    have ep1 : upd H p (.lst [.ref l, .int c, .int m, .int ((t : Int) + 1)]) p = some (.lst [.ref l, .int c, .int m, .int ((t : Int) + 1)]) := upd_same
    have el1 : upd H p (.lst [.ref l, .int c, .int m, .int ((t : Int) + 1)]) l = some (.lst (ns.map V.int)) := by rw [upd_ne hne.symm]; exact el
    have k1 : Keep p l H (upd H p (.lst [.ref l, .int c, .int m, .int ((t : Int) + 1)])) := Keep.refl.own
    show C8.tCut _ _ _ _ (upd H p (.lst [.ref l, .int c, .int m, .int ((t : Int) + 1)]))
    generalize upd H p (.lst [.ref l, .int c, .int m, .int ((t : Int) + 1)]) = H1 at ep1 el1 k1
    -- the middle
    refine ⟨fun σ' H' => ∃ (x2 x3 : Option V) (ns' : List Int) (c' m' : Int), σ' = [some (.ref p), some (.int many), x2, x3] ∧ H' p = some (.lst [.ref l, .int c', .int m', .int ((t : Int) + 1)]) ∧ H' l = some (.lst (ns'.map V.int)) ∧ 0 ≤ c' ∧ ns'.length ≤ 63 ∧ Keep p l H H', ?_, fun σ' H' hm => ?_⟩
    · refine ⟨_, rfl, p, _, 1, _, rfl, rfl, SqL.of ep1, atI_nat (j := 1) rfl, rfl, _, rfl, ite2 (fun e => ?_) (fun e => ?_)⟩
      · refine ⟨_, rfl, p, _, 0, _, rfl, rfl, SqL.of ep1, atI_nat (j := 0) rfl, Nat.zero_le _, fun z nz => ?_⟩
        have elz : upd H1 z (.lst []) l = some (.lst (ns.map V.int)) := by
          rw [upd_ne (ne_of_none el1 nz)]
          exact el1
        have epz : upd H1 z (.lst []) p = some (.lst [.ref l, .int c, .int m, .int ((t : Int) + 1)]) := by
          rw [upd_ne (ne_of_none ep1 nz)]
          exact ep1
        have k2 : Keep p l H (upd H1 z (.lst [])) := k1.new nz
        refine ⟨_, _, .lst (SqL.of elz) (dpInts _ ns), .lst (SqL.of upd_same) .nil, shInts ns, rfl, _, rfl, ite2 (fun e2 => ?_) (fun e2 => ?_)⟩
        · show tSeq _ _ _ _ (upd H1 z (.lst []))
          generalize upd H1 z (.lst []) = H2 at elz epz k2
          cases ns with
          | nil => exact absurd e2 (by decide)
          | cons n r =>
            -- cell = pot[0].pop(0)
            refine ⟨_, rfl, p, _, 0, _, rfl, rfl, SqL.of epz, atI_nat (j := 0) rfl, Or.inl ⟨rfl, _, SqL.of elz⟩, l, _, 0, 0, .int n, rfl, rfl, elz, by decide, by decide, ?_, rfl, ?_⟩
            · show seqIndex? 0 ((r.map V.int).length + 1) = some 0
              unfold seqIndex?
              simp
            have elz2 : upd H2 l (.lst (r.map V.int)) l = some (.lst (r.map V.int)) := upd_same
            have epz2 : upd H2 l (.lst (r.map V.int)) p = some (.lst [.ref l, .int c, .int m, .int ((t : Int) + 1)]) := by
              rw [upd_ne hne]
              exact epz
            have k3 : Keep p l H (upd H2 l (.lst (r.map V.int))) := k2.own2
            show tSeq _ _ _ _ (upd H2 l (.lst (r.map V.int)))
            generalize upd H2 l (.lst (r.map V.int)) = H3 at elz2 epz2 k3
            have hr63 : r.length ≤ 63 := Nat.le_trans (Nat.le_succ _) hn
            -- pot[2] = blend(pot[2] + cell, len(pot[0]))
            refine ⟨_, rfl, p, _, 2, _, rfl, rfl, SqL.of epz2, atI_nat (j := 2) rfl, _, rfl, _, _, rfl, rfl, _, rfl, p, _, 0, _, rfl, rfl, SqL.of epz2, atI_nat (j := 0) rfl, l, _, rfl, .inl (SqL.of elz2), _, _, rfl, ?_, ?_, fun m2 => ?_⟩
            · omega
            · rw [List.length_map]
              omega
            refine ⟨_, rfl, p, _, 2, 2, rfl, rfl, epz2, rfl, ?_⟩
            have ep4 : upd H3 p (.lst [.ref l, .int c, .int m2, .int ((t : Int) + 1)]) p = some (.lst [.ref l, .int c, .int m2, .int ((t : Int) + 1)]) := upd_same
            have el4 : upd H3 p (.lst [.ref l, .int c, .int m2, .int ((t : Int) + 1)]) l = some (.lst (r.map V.int)) := by
              rw [upd_ne hne.symm]
              exact elz2
            have k4 : Keep p l H (upd H3 p (.lst [.ref l, .int c, .int m2, .int ((t : Int) + 1)])) := k3.own
            refine ⟨_, rfl, n, rfl, _, _, rfl, rfl, ⟨by decide, by decide, by decide⟩, _, _, rfl, rfl, _, rfl, ite2 (fun e3 => ?_) (fun e3 => ?_)⟩
            · refine ⟨_, rfl, n, rfl, _, rfl, p, _, 1, 1, rfl, rfl, ep4, rfl, ?_⟩
              refine ⟨_, _, r, (if n < 0 then -n else n), m2, rfl, upd_same, ?_, ?_, hr63, k4.own⟩
              · rw [upd_ne hne.symm]
                exact el4
              · split <;> omega
            · exact ⟨_, _, r, c, m2, rfl, ep4, el4, c0, hr63, k4⟩
        · exact ⟨_, _, ns, c, m, rfl, epz, elz, c0, hn, k2⟩
      · exact ⟨_, _, ns, c, m, rfl, ep1, el1, c0, hn, k1⟩
    · obtain ⟨x2, x3, ns', c', m', rfl, ep', el', c0', hn', k'⟩ := hm
      have pt : ∀ c2 : Int, 0 ≤ c2 → Pot (upd H' p (.lst [.ref l, .int c2, .int m', .int ((t : Int) + 1)])) p l (T + 1) := fun c2 h2 =>
        ⟨ns', c2, m', t + 1, upd_same, by rw [upd_ne hne.symm]; exact el', h2, by omega, hn'⟩
      refine ⟨_, rfl, p, _, 1, _, rfl, rfl, SqL.of ep', atI_nat (j := 1) rfl, _, _, rfl, rfl, _, rfl, ite2 (fun e => ?_) (fun e => ?_)⟩
      · refine ⟨_, rfl, p, _, 1, _, rfl, rfl, SqL.of ep', atI_nat (j := 1) rfl, _, rfl, _, _, rfl, rfl, m0.1, ?_⟩
        refine ⟨_, rfl, p, _, 1, _, rfl, rfl, SqL.of ep', atI_nat (j := 1) rfl, _, rfl, _, _, rfl, rfl, m0, _, rfl, p, _, 1, 1, rfl, rfl, ep', rfl, ?_⟩
        exact ⟨_, rfl, q _ _ (Int.emod_nonneg _ (Int.ne_of_gt m0.1)) (Int.emod_lt_of_pos _ m0.1) (pt _ (Int.ediv_nonneg c0' (Int.le_of_lt m0.1))) k'.own⟩
      · refine ⟨_, rfl, p, _, 2, _, rfl, rfl, SqL.of ep', atI_nat (j := 2) rfl, _, rfl, p, _, 3, _, rfl, rfl, SqL.of ep', atI_nat (j := 3) rfl, _, _, rfl, by omega, by omega, fun r => ?_⟩
        refine ⟨_, _, rfl, rfl, ⟨by decide, by decide⟩, _, rfl, _, _, rfl, rfl, m0.1, ?_⟩
        exact q _ _ (Int.emod_nonneg _ (Int.ne_of_gt m0.1)) (Int.emod_lt_of_pos _ m0.1) ⟨ns', c', m', t + 1, ep', el', c0', by omega, hn'⟩ k'
theorem ok__law_great {f fB : Addr} {fd fdB : FuncData} (F : Fun K "_law_great" "_law_great" s__law_great f fd) (bi : Bi mg) (C__law_draw : Cal P w K mg base "_law_draw" P__law_draw 2 spDraw fB fdB) : FnOk P w K mg base CX0 3 f fd P__law_great spGreat := by
  refine F.ok sc__law_great (fun vs H Q E h => ?_) (fun cdv A outer s H vs Q E hr h => ?_)
  · obtain ⟨p, l, T, rfl, _⟩ := h
    rfl
  · obtain ⟨p, l, T, rfl, hp, hT, q⟩ := h
    refine ⟨_, (pss_cons (ps_set (i := 1) sc__law_great.nd rfl (.inl rfl) (pe_call (C__law_draw.G.mono (by decide)) hr (by rfl) C__law_draw.g C__law_draw.kp C__law_draw.b .nil pass0 (pa_cons (pv 0) (pa_cons pe_int pa_nil))))
    (pss_cons (ps_set (i := 2) sc__law_great.nd rfl (.inl rfl) (pe_call (C__law_draw.G.mono (by decide)) hr (by rfl) C__law_draw.g C__law_draw.kp C__law_draw.b .nil pass0 (pa_cons (pv 0) (pa_cons (pe_ix ix_list (pe_lst (pa_cons pe_int (pa_cons pe_int (pa_cons pe_int (pa_cons pe_int pa_nil))))) (pv 1) (fun _ _ => rfl)) pa_nil))))
    (C8.pss_cut (ps_if (pt_cmpR op_eq (pv 1) pe_int (nomark _))
      (pss_one (ps_for PassesOwn.never rfl (pi_range1 rfl bi.m_range (pa_cons pe_int pa_nil)) (pg_name (i := 3) sc__law_great.nd rfl (.inl rfl))
          (pss_one (ps_set (i := 2) sc__law_great.nd rfl (.inl rfl) (pe_op op_add (pe_op op_mul (pv 2) (pe_op op_pow pe_int pe_int)) (pe_call (C__law_draw.G.mono (by decide)) hr (by rfl) C__law_draw.g C__law_draw.kp C__law_draw.b .nil pass0 (pa_cons (pv 0) (pa_cons (pe_op op_pow pe_int pe_int) pa_nil))))))))
      pss_nil)
    (pss_one (ps_ret (pv 2)))))), ?_⟩
    refine ⟨_, rfl, p, l, T, 4, rfl, hp, by omega, ⟨by decide, by decide⟩, fun way H1 w0 w1 hp1 k1 => ?_⟩
    refine ⟨_, rfl, by decide, fun z nz => ?_⟩
    have hq : ∀ b : Int, 0 < b → b ≤ 1000 → CDivW 0 b := fun b h0 h1 => wide_div (b := 10) h0 (by omega) (by decide) (by decide)
    have ix : ∃ b : Int, 0 < b ∧ b ≤ 1000 ∧ (way = 1 → b = 3) ∧ atI [V.int 3, V.int 3, V.int 12, V.int 1000] way = some (.int b) := by
      have hw : way = 0 ∨ way = 1 ∨ way = 2 ∨ way = 3 := by omega
      rcases hw with rfl | rfl | rfl | rfl
      · exact ⟨3, by decide, by decide, by decide, rfl⟩
      · exact ⟨3, by decide, by decide, by decide, rfl⟩
      · exact ⟨12, by decide, by decide, by decide, rfl⟩
      · exact ⟨1000, by decide, by decide, by decide, rfl⟩
    obtain ⟨b, b0, b1, b2, eb⟩ := ix
    refine ⟨_, rfl, z, _, way, _, rfl, rfl, SqL.of upd_same, eb, p, l, T + 1, b, rfl, hp1.new nz, by omega, hq b b0 b1, fun d H2 d0 d1 hp2 k2 => ?_⟩
    have k02 : Keep p l H H2 := (k1.new nz).trans k2
    refine ⟨fun σ' H' => ∃ (n : Int) (x3 : Option V), σ' = [some (.ref p), some (.int way), some (.int n), x3] ∧ 0 ≤ n ∧ n < 2 ^ 122 ∧ Pot H' p l (T + 5) ∧ Keep p l H H', ?_, fun σ' H' hm => ?_⟩
    · refine ⟨_, rfl, rfl, _, rfl, ite2 (fun e => ?_) (fun e => ?_)⟩
      · have ew : way = 1 := V.int.inj (of_decide_eq_true e)
        have eb3 := b2 ew
        refine ⟨3, rfl, by decide, by decide, for_range (n := 3) (fun i σ' H' => ∃ (n : Int) (x3 : Option V), σ' = [some (.ref p), some (.int way), some (.int n), x3] ∧ 0 ≤ n ∧ n < 3 * 1000000000000 ^ i ∧ Pot H' p l (T + 2 + i) ∧ Keep p l H H') ⟨d, _, rfl, d0, by rw [eb3] at d1; simpa using d1, hp2, k02⟩ (fun i σ' H' hi hm => ?_) (fun σ' H' hm => ?_)⟩
        · obtain ⟨n, x3, rfl, n0, n1, hpi, ki⟩ := hm
          refine ⟨_, rfl, _, _, rfl, rfl, ⟨by decide, by decide, by decide⟩, _, _, rfl, rfl, .inr ⟨by decide, by decide⟩, ?_⟩
          refine ⟨_, rfl, _, _, rfl, rfl, ⟨by decide, by decide, by decide⟩, p, l, T + 2 + i, _, rfl, hpi, by omega, ⟨by decide, by decide⟩, fun d2 H3 e0 e1 hp3 k3 => ?_⟩
          refine ⟨_, _, rfl, rfl, ?_⟩
          refine ⟨_, _, rfl, ?_, ?_, hp3, ki.trans k3⟩
          · show 0 ≤ n * 10 ^ 12 + d2
            have : 0 ≤ n * 10 ^ 12 := Int.mul_nonneg n0 (by decide)
            omega
          · have e12 : (10 : Int) ^ (12 : Int).toNat = 1000000000000 := by decide
            have e1' : d2 < 10 ^ (12 : Int).toNat := e1
            show n * 10 ^ (12 : Int).toNat + d2 < 3 * 1000000000000 ^ (i + 1)
            rw [e12] at e1'
            rw [e12, Int.pow_succ]
            generalize (1000000000000 : Int) ^ i = y at n1
            omega
        · obtain ⟨n, x3, rfl, n0, n1, hpi, ki⟩ := hm
          exact ⟨n, x3, rfl, n0, Int.lt_trans n1 (by decide), hpi, ki⟩
      · exact ⟨d, _, rfl, d0, Int.lt_trans d1 (Int.lt_of_le_of_lt b1 (by decide)), hp2.mono (by omega), k02⟩
    · obtain ⟨n, x3, rfl, n0, n1, hpi, ki⟩ := hm
      exact ⟨_, rfl, q _ _ n0 n1 hpi ki⟩
theorem ok__law_pot {f : Addr} {fd : FuncData} {k : Nat} (F : Fun K "_law_pot" "_law_pot" s__law_pot f fd) (bi : Bi mg) : FnOk P w K mg base CX0 (k + 1) f fd P__law_pot (spPot K) := by
  refine F.ok sc__law_pot (fun vs H Q E h => ?_) (fun cdv A outer s H vs Q E hr h => ?_)
  · obtain ⟨a, ns, rfl, _⟩ := h
    rfl
  · obtain ⟨a, ns, rfl, hS, hn, q⟩ := h
    refine ⟨_, (pss_one (ps_ret (pe_lst (pa_cons (pe_callTy call_list_of (by rfl) bi.m_list (by decide +kernel) (pa_cons (pv 0) pa_nil)) (pa_cons pe_int (pa_cons pe_int (pa_cons pe_int pa_nil))))))), ?_⟩
    refine ⟨_, rfl, a, _, rfl, .inl hS, fun l nl => ?_⟩
    refine ⟨(by show 4 ≤ sizeLine; decide), fun p np => ?_⟩
    have hpl : l ≠ p := fun e => by
      rw [← e, upd_same] at np
      cases np
    have np' : H p = none := by
      rw [upd_ne hpl.symm] at np
      exact np
    refine q _ p l (fun b o e => ?_) np' nl ⟨ns, 0, 3, 0, upd_same, ?_, by decide, Nat.le_refl _, hn⟩
    · rw [upd_ne (ne_of_none e np'), upd_ne (ne_of_none e nl)]
      exact e
    · rw [upd_ne hpl, upd_same]
theorem ok__law_whole {f : Addr} {fd : FuncData} {k : Nat} (F : Fun K "_law_whole" "_law_whole" s__law_whole f fd) (bi : Bi mg) : FnOk P w K mg base CX0 (k + 1) f fd P__law_whole spWhole := by
  refine F.ok sc__law_whole (fun vs H Q E h => ?_) (fun cdv A outer s H vs Q E hr h => ?_)
  · obtain ⟨i, rfl, _⟩ := h
    rfl
  · obtain ⟨i, rfl, q⟩ := h
    refine ⟨_, (pss_one (ps_ret (pe_and (pe_callB call_isi (by rfl) bi.m_isinstance (by decide +kernel) (pa_cons (pv 0) (pa_cons (pe_bltn (v := .ty "int") rfl bi.m_int (by decide +kernel) rfl) pa_nil))) (pe_one (pe_not (pe_callB call_isi (by rfl) bi.m_isinstance (by decide +kernel) (pa_cons (pv 0) (pa_cons (pe_bltn (v := .ty "bool") rfl bi.m_bool (by decide +kernel) rfl) pa_nil)))))))), ?_⟩
    refine ⟨_, rfl, _, _, _, _, true, rfl, ClsV.ty "int", .base (.int i), kit_ty (by decide +kernel), true, rfl, iteT ?_⟩
    exact ⟨_, rfl, _, _, _, _, false, rfl, ClsV.ty "bool", .base (.int i), kit_ty (by decide +kernel), false, rfl, q⟩
theorem ok__law_wisp {f fB fG : Addr} {fd fdB fdG : FuncData} (F : Fun K "_law_wisp" "_law_wisp" s__law_wisp f fd) (bi : Bi mg) (C__law_draw : Cal P w K mg base "_law_draw" P__law_draw 2 spDraw fB fdB) (C__law_great : Cal P w K mg base "_law_great" P__law_great 3 spGreat fG fdG) : FnOk P w K mg base CX0 4 f fd P__law_wisp spWisp := by
  refine F.ok sc__law_wisp (fun vs H Q E h => ?_) (fun cdv A outer s H vs Q E hr h => ?_)
  · obtain ⟨p, l, T, most, small, rfl, _⟩ := h
    rfl
  · obtain ⟨p, l, T, most, small, rfl, hp, hT, m3, m10, q⟩ := h
    refine ⟨_, (pss_cons (ps_set (i := 3) sc__law_wisp.nd rfl (.inl rfl) (pe_ix ix_list (pe_lst (pa_cons (pe_op op_add pe_int (pe_call (C__law_draw.G.mono (by decide)) hr (by rfl) C__law_draw.g C__law_draw.kp C__law_draw.b .nil pass0 (pa_cons (pv 0) (pa_cons (pv 1) pa_nil)))) (pa_cons (pv 1) (pa_cons pe_int (pa_cons (pe_op op_add pe_int (pe_call (C__law_draw.G.mono (by decide)) hr (by rfl) C__law_draw.g C__law_draw.kp C__law_draw.b .nil pass0 (pa_cons (pv 0) (pa_cons pe_int pa_nil)))) pa_nil))))) (pe_call (C__law_draw.G.mono (by decide)) hr (by rfl) C__law_draw.g C__law_draw.kp C__law_draw.b .nil pass0 (pa_cons (pv 0) (pa_cons pe_int pa_nil))) (fun _ _ => rfl)))
    (pss_cons (ps_par (i := 4) (j := 5) rfl sc__law_wisp.nd rfl rfl (by decide) rfl rfl (pa_cons (pe_lst pa_nil) (pa_cons pe_int pa_nil)) rfl)
    (pss_cons (ps_for PassesOwn.never rfl (pi_range1 rfl bi.m_range (pa_cons (pe_callB (call_min2 rfl) (by rfl) bi.m_min (by decide +kernel) (pa_cons (pv 3) (pa_cons (pv 1) pa_nil))) pa_nil)) (pg_name (i := 6) sc__law_wisp.nd rfl (.inl rfl))
      (pss_cons (ps_set (i := 7) sc__law_wisp.nd rfl (.inl rfl) (pe_lst (pa_cons (pe_call (C__law_draw.G.mono (by decide)) hr (by rfl) C__law_draw.g C__law_draw.kp C__law_draw.b .nil pass0 (pa_cons (pv 0) (pa_cons pe_int pa_nil))) (pa_cons (pe_call (C__law_draw.G.mono (by decide)) hr (by rfl) C__law_draw.g C__law_draw.kp C__law_draw.b .nil pass0 (pa_cons (pv 0) (pa_cons pe_int pa_nil))) pa_nil))))
        (C8.pss_cut (ps_if (pt_not (pt_val (pv 2)))
          (pss_one (ps_set (i := 7) sc__law_wisp.nd rfl (.inl rfl) (pe_lst (pa_cons (pe_call (C__law_great.G.mono (by decide)) hr (by rfl) C__law_great.g C__law_great.kp C__law_great.b .nil pass0 (pa_cons (pv 0) pa_nil)) (pa_cons (pe_call (C__law_great.G.mono (by decide)) hr (by rfl) C__law_great.g C__law_great.kp C__law_great.b .nil pass0 (pa_cons (pv 0) pa_nil)) pa_nil)))))
          pss_nil)
        (pss_cons (ps_set (i := 5) sc__law_wisp.nd rfl (.inl rfl) (pe_op op_add (pe_op op_add (pv 5) pe_int) (pe_ix ix_list (pv 7) pe_int (fun _ _ => rfl))))
        (pss_one (ps_expr (pe_bm PySem.F.plainAttrs_list PySem.F.slot_list_insert PySem.F.type_list_insert mt_insert (pv 4) (pa_cons pe_int (pa_cons (pe_tup (pa_cons (pv 5) (pa_cons (pe_op op_add pe_int (pe_ix ix_list (pv 7) pe_int (fun _ _ => rfl))) pa_nil))) pa_nil)))))))))
    (pss_one (ps_ret (pe_tup (pa_cons (pe_call (C__law_draw.G.mono (by decide)) hr (by rfl) C__law_draw.g C__law_draw.kp C__law_draw.b .nil pass0 (pa_cons (pv 0) (pa_cons pe_int pa_nil))) (pa_cons (pe_callTy call_tuple_of (by rfl) bi.m_tuple (by decide +kernel) (pa_cons (pv 4) pa_nil)) pa_nil)))))))), ?_⟩
    have hq : ∀ b : Int, 0 < b → b ≤ 1000 → CDivW 0 b := fun b h0 h1 => wide_div (b := 10) h0 (by omega) (by decide) (by decide)
    refine ⟨_, rfl, _, rfl, p, l, T, most, rfl, hp, by omega, hq _ (by omega) (by omega), fun d1 H1 d10 d11 hp1 k1 => ?_⟩
    refine ⟨_, _, rfl, rfl, _, rfl, _, rfl, p, l, T + 1, 3, rfl, hp1, by omega, hq _ (by omega) (by omega), fun d2 H2 d20 d21 hp2 k2 => ?_⟩
    refine ⟨_, _, rfl, rfl, (by show 4 ≤ sizeLine; decide), fun z nz => ?_⟩
    refine ⟨_, rfl, p, l, T + 2, 4, rfl, hp2.new nz, by omega, hq _ (by omega) (by omega), fun d3 H3 d30 d31 hp3 k3 => ?_⟩
    have kz : Keep p l H2 H3 := (Keep.refl.new nz).trans k3
    have k03 : Keep p l H H3 := (k1.trans k2).trans kz
    obtain ⟨nz1, nz2⟩ := hp2.fresh nz
    have ez : H3 z = some (.lst [.int (1 + d1), .int most, .int 1, .int (1 + d2)]) := k3 z _ nz1 nz2 upd_same
    have ix : ∃ b : Int, 1 ≤ b ∧ b ≤ most ∧ atI [V.int (1 + d1), V.int most, V.int 1, V.int (1 + d2)] d3 = some (.int b) := by
      have hw : d3 = 0 ∨ d3 = 1 ∨ d3 = 2 ∨ d3 = 3 := by omega
      rcases hw with rfl | rfl | rfl | rfl
      · exact ⟨1 + d1, by omega, by omega, rfl⟩
      · exact ⟨most, by omega, by omega, rfl⟩
      · exact ⟨1, by omega, by omega, rfl⟩
      · exact ⟨1 + d2, by omega, by omega, rfl⟩
    obtain ⟨b, b1, b2, eb⟩ := ix
    refine ⟨z, _, d3, _, rfl, rfl, SqL.of ez, eb, ?_⟩
    -- steps, strong = [], 0
    refine ⟨Nat.zero_le _, fun S nS => ?_⟩
    have nSH : H S = none := k03.free hp3 nS
    obtain ⟨nSp, nSl⟩ := hp3.fresh nS
    refine ⟨_, _, rfl, ?_⟩
    have hmin : (if most < b then most else b) = b := by
      rw [if_neg (by omega)]
    refine ⟨_, rfl, _, rfl, _, _, rfl, (if most < b then most else b), rfl, by omega, by omega, ?_⟩
    rw [hmin]
    have PB : (2 : Int) ^ 122 + 1 ≤ 2 ^ 123 := by decide
    refine for_range (n := b.toNat) (fun i σ' H' => ∃ (x6 x7 : Option V) (as : List Addr) (ps : List (Int × Int)) (st : Int), σ' = [some (.ref p), some (.int most), some (.bl small), some (.int b), some (.ref S), some (.int st), x6, x7] ∧ ps.length = i ∧ H' S = some (.lst (as.map V.ref)) ∧ TupsAt H' as (ps.map stepV) ∧ Pot H' p l (T + 3 + 12 * i) ∧ Keep p l H H' ∧ Falls ps ∧ (∀ x ∈ ps, 1 ≤ x.1 ∧ x.1 ≤ st ∧ 1 ≤ x.2 ∧ x.2 ≤ 2 ^ 123) ∧ 0 ≤ st ∧ st ≤ i * 2 ^ 123 ∧ (small = true → (∀ x ∈ ps, x.2 ≤ 3) ∧ st ≤ 3 * i))
      ⟨_, _, [], [], 0, rfl, rfl, upd_same, TupsAt.nil, hp3.new nS, k03.new nS, List.Pairwise.nil, (fun x hx => by simp at hx), by decide, by decide, fun _ => ⟨(fun x hx => by simp at hx), by decide⟩⟩ (fun i σ' H' hi hm => ?_) (fun σ' H' hm => ?_)
    · obtain ⟨x6, x7, as, ps, st, rfl, hl, eS, tu, hpi, ki, fa, bo, st0, st1, sm⟩ := hm
      -- more = [draw, draw]
      refine ⟨_, rfl, p, l, T + 3 + 12 * i, 3, rfl, hpi, by omega, hq _ (by omega) (by omega), fun e1 H4 e10 e11 hp4 k4 => ?_⟩
      refine ⟨_, rfl, p, l, T + 3 + 12 * i + 1, 3, rfl, hp4, by omega, hq _ (by omega) (by omega), fun e2 H5 e20 e21 hp5 k5 => ?_⟩
      refine ⟨(by show 2 ≤ sizeLine; decide), fun M nM => ?_⟩
      have eS5 : H5 S = some (.lst (as.map V.ref)) := k5 _ _ nSp nSl (k4 _ _ nSp nSl eS)
      have tu5 : TupsAt H5 as (ps.map stepV) := (tu.mono (k4.tups hpi)).mono (k5.tups hp4)
      have nMS : S ≠ M := ne_of_none eS5 nM
      have kM : Keep p l H (upd H5 M (.lst [.int e1, .int e2])) := ((ki.trans k4).trans k5).new nM
      have eS6 : upd H5 M (.lst [.int e1, .int e2]) S = some (.lst (as.map V.ref)) := by
        rw [upd_ne nMS]
        exact eS5
      have tu6 : TupsAt (upd H5 M (.lst [.int e1, .int e2])) as (ps.map stepV) := tu5.mono (Tups.new nM)
      have hp6 : Pot (upd H5 M (.lst [.int e1, .int e2])) p l (T + 3 + 12 * i + 2) := hp5.new nM
      refine ⟨fun σ' H' => ∃ (M : Addr) (x6 : Option V) (a1 a2 : Int), σ' = [some (.ref p), some (.int most), some (.bl small), some (.int b), some (.ref S), some (.int st), x6, some (.ref M)] ∧ H' M = some (.lst [.int a1, .int a2]) ∧ 0 ≤ a1 ∧ a1 < 2 ^ 122 ∧ 0 ≤ a2 ∧ a2 < 2 ^ 122 ∧ (small = true → a1 ≤ 2 ∧ a2 ≤ 2) ∧ H' S = some (.lst (as.map V.ref)) ∧ TupsAt H' as (ps.map stepV) ∧ Pot H' p l (T + 3 + 12 * i + 12) ∧ Keep p l H H', ?_, fun σ' H' hm => ?_⟩
      · refine ⟨_, rfl, small, rfl, ?_⟩
        cases small with
        | true => exact ⟨M, _, e1, e2, rfl, upd_same, e10, by omega, e20, by omega, fun _ => ⟨by omega, by omega⟩, eS6, tu6, hp6.mono (by omega), kM⟩
        | false =>
          refine ⟨_, rfl, p, l, T + 3 + 12 * i + 2, rfl, hp6, by omega, fun g1 H7 g10 g11 hp7 k7 => ?_⟩
          refine ⟨_, rfl, p, l, T + 3 + 12 * i + 2 + 5, rfl, hp7, by omega, fun g2 H8 g20 g21 hp8 k8 => ?_⟩
          refine ⟨(by show 2 ≤ sizeLine; decide), fun M2 nM2 => ?_⟩
          have eS8 : H8 S = some (.lst (as.map V.ref)) := k8 _ _ nSp nSl (k7 _ _ nSp nSl eS6)
          refine ⟨M2, _, g1, g2, rfl, upd_same, g10, g11, g20, g21, (fun h => by cases h), ?_, ?_, hp8.new nM2, ((kM.trans k7).trans k8).new nM2⟩
          · rw [upd_ne (ne_of_none eS8 nM2)]
            exact eS8
          · exact (((tu6.mono (k7.tups hp6)).mono (k8.tups hp7)).mono (Tups.new nM2))
      · obtain ⟨M, x6, a1, a2, rfl, eM, a10, a11, a20, a21, asm, eS9, tu9, hp9, k9⟩ := hm
        refine ⟨_, rfl, _, _, rfl, rfl, _, rfl, M, _, 0, _, rfl, rfl, SqL.of eM, atI_nat (j := 0) rfl, _, _, rfl, rfl, ?_⟩
        refine ⟨_, rfl, .inl ⟨rfl, _, SqL.of eS9⟩, _, rfl, _, rfl, M, _, 1, _, rfl, rfl, SqL.of eM, atI_nat (j := 1) rfl, _, _, rfl, rfl, (by show 2 ≤ sizeLine; decide), fun t nt => ?_⟩
        have nSt : S ≠ t := ne_of_none eS9 nt
        have eS10 : upd H' t (.tup [.int (st + 1 + a1), .int (1 + a2)]) S = some (.lst (as.map V.ref)) := by
          rw [upd_ne nSt]
          exact eS9
        have lenas : as.length = i := by
          have := tu.1
          rw [List.length_map, hl] at this
          exact this
        refine ⟨S, _, 0, _, rfl, rfl, eS10, ?_, by decide, by decide, ?_⟩
        · rw [List.length_map]
          exact small1000 (by omega)
        have tu10 : TupsAt (upd H' t (.tup [.int (st + 1 + a1), .int (1 + a2)])) (t :: as) (((st + 1 + a1, 1 + a2) :: ps).map stepV) := (tu9.mono (Tups.new nt)).cons upd_same
        refine ⟨_, _, t :: as, (st + 1 + a1, 1 + a2) :: ps, st + 1 + a1, rfl, by simp [hl], upd_same, tu10.mono (Tups.ls eS10), ((hp9.new nt).other nSp nSl).mono (by omega), (k9.new nt).mine nSH, ?_, ?_, by omega, ?_, fun h => ⟨?_, ?_⟩⟩
        · refine List.Pairwise.cons (fun x hx => ?_) fa
          have := bo x hx
          show x.1 < st + 1 + a1
          omega
        · intro x hx
          rcases List.mem_cons.mp hx with rfl | hx
          · refine ⟨?_, ?_, ?_, ?_⟩
            · show 1 ≤ st + 1 + a1
              omega
            · exact Int.le_refl _
            · show 1 ≤ 1 + a2
              omega
            · show 1 + a2 ≤ 2 ^ 123
              omega
          · have := bo x hx
            omega
        · have : ((i + 1 : Nat) : Int) * 2 ^ 123 = (i : Int) * 2 ^ 123 + 2 ^ 123 := by
            rw [Int.natCast_add, Int.add_mul]
            simp
          rw [this]
          omega
        · intro x hx
          obtain ⟨s1, s2⟩ := sm h
          obtain ⟨s3, s4⟩ := asm h
          rcases List.mem_cons.mp hx with rfl | hx
          · show 1 + a2 ≤ 3
            omega
          · exact s1 x hx
        · obtain ⟨s1, s2⟩ := sm h
          obtain ⟨s3, s4⟩ := asm h
          omega
    · obtain ⟨x6, x7, as, ps, st, rfl, hl, eS, tu, hpi, ki, fa, bo, st0, st1, sm⟩ := hm
      refine ⟨_, rfl, p, l, T + 3 + 12 * b.toNat, 2, rfl, hpi, by omega, hq _ (by omega) (by omega), fun so H4 so0 so1 hp4 k4 => ?_⟩
      have eS4 : H4 S = some (.lst (as.map V.ref)) := k4 _ _ nSp nSl eS
      refine ⟨_, rfl, S, _, rfl, .inl ⟨SqL.of eS4, fun U nU => ?_⟩⟩
      refine ⟨(by show 2 ≤ sizeLine; decide), fun W nW => ?_⟩
      have nWU : U ≠ W := fun e => by
        rw [← e, upd_same] at nW
        cases nW
      have nW4 : H4 W = none := by
        rw [upd_ne nWU.symm] at nW
        exact nW
      have k5 : Keep p l H (upd (upd H4 U (.tup (as.map V.ref))) W (.tup [.int so, .ref U])) := ((ki.trans k4).new nU).new nW
      have tu4 : TupsAt (upd (upd H4 U (.tup (as.map V.ref))) W (.tup [.int so, .ref U])) as (ps.map stepV) := ((tu.mono (k4.tups hpi)).mono (Tups.new nU)).mono (Tups.new nW)
      have hb : (b.toNat : Int) = b := Int.toNat_of_nonneg (by omega)
      refine q _ W so ps (((hp4.new nU).new nW).mono (by omega)) k5 ⟨U, as, upd_same, ?_, tu4⟩ so0 (by omega) ⟨by omega, by omega, fun x hx => ?_⟩ (by omega) fa (fun h => ?_) ((ki.trans k4).free hp4 nW4)
      · rw [upd_ne nWU, upd_same]
      · have h1 := bo x hx
        have h2 : (2 : Int) ^ 123 * 10 < 2 ^ 200 := by decide
        have h3 : (b.toNat : Int) * 2 ^ 123 ≤ 10 * 2 ^ 123 := Int.mul_le_mul_of_nonneg_right (by omega) (by decide)
        have h4 : (2 : Int) ^ 123 < 2 ^ 200 := by decide
        generalize (2 : Int) ^ 123 = y at *
        generalize (2 : Int) ^ 200 = y' at *
        omega
      · obtain ⟨s1, s2⟩ := sm h
        intro x hx
        have h1 := bo x hx
        exact ⟨by omega, s1 x hx⟩
theorem ok_length_of {f : Addr} {fd : FuncData} {k : Nat} (F : Fun K "length_of" "length_of" s_length_of f fd) (bi : Bi mg) : FnOk P w K mg base CX0 (k + 1) f fd P_length_of spLen := by
  refine F.ok sc_length_of (fun vs H Q E h => ?_) (fun cdv A outer s H vs Q E hr h => ?_)
  · obtain ⟨a, so, ps, rfl, _⟩ := h
    rfl
  · obtain ⟨a, so, ps, rfl, ⟨st, as, ea, es, tu⟩, gd, q⟩ := h
    refine ⟨_, (pss_one (ps_ret (pe_callB (cr_sum rfl) (by rfl) bi.m_sum (by decide +kernel) (pa_cons (pe_lc (own := [("thickness", 1), ("long", 2)]) (g := (gTup K 2 (gCons (gName 1) (gCons (gName 2) gNil)))) (tt := tYes) rfl sc_length_of.nd (pi_tup (pe_ix ix_tup (pv 0) pe_int (fun _ _ => rfl))) (blkOk_by (N := N_length_of) (sc := defScope s_length_of) (by decide +kernel)) (fun _ _ _ _ _ => (pg_tup rfl (pgs_cons (pg_name (i := 1) sc_length_of.nd rfl (.inl rfl) (.inr rfl)) (pgs_cons (pg_name (i := 2) sc_length_of.nd rfl (.inl rfl) (.inr rfl)) pgs_nil)))) (fun _ _ _ _ _ => pts_nil) (fun _ _ _ _ _ => (pv 2))) pa_nil)))), ?_⟩
    refine ⟨_, rfl, a, _, 1, _, rfl, rfl, SqT.of ea, atI_nat (j := 1) rfl, st, rfl, ⟨_, SqT.of es⟩, fun D nD => ?_⟩
    have hlen : as.length = ps.length := by
      have := tu.1
      rw [List.length_map] at this
      exact this
    refine lc_tup (xs := as.map V.ref) (fun i H' => Same H H' ∧ H' D = some (.lst ((ps.take i).map fun p => V.int p.2))) ⟨same_new (Same.refl H) nD, upd_same⟩ (fun i H' hi hm => SqT.of (hm.1 _ _ es)) (fun i x H' hx hm => ?_) (fun H' hm => ?_)
    · obtain ⟨sm, eD⟩ := hm
      obtain ⟨b, t, g, rfl, ep, eb⟩ := step_get tu hx
      refine ⟨b, _, rfl, SqT.of (sm _ _ eb), rfl, _, _, rfl, _, _, rfl, rfl, rfl, yesIte ?_⟩
      refine ⟨_, rfl, _, eD, ?_, same_mine sm nD, ?_⟩
      · rw [List.length_map, List.length_take]
        exact small1000 (by have := gd.2.1; omega)
      · rw [upd_same, take_map_succ _ ep]
    · obtain ⟨sm, eD⟩ := hm
      refine ⟨D, ps.map (fun p : Int × Int => p.2), rfl, SqL.of ?_, q _ sm⟩
      rw [eD, List.length_map, hlen, List.take_length, List.map_map]
      rfl
theorem ok_weight_of {f : Addr} {fd : FuncData} {k : Nat} (F : Fun K "weight_of" "weight_of" s_weight_of f fd) (bi : Bi mg) : FnOk P w K mg base CX0 (k + 1) f fd P_weight_of spWeight := by
  refine F.ok sc_weight_of (fun vs H Q E h => ?_) (fun cdv A outer s H vs Q E hr h => ?_)
  · obtain ⟨a, so, ps, rfl, _⟩ := h
    rfl
  · obtain ⟨a, so, ps, rfl, ⟨st, as, ea, es, tu⟩, gd, q⟩ := h
    refine ⟨_, (pss_one (ps_ret (pe_callB (cr_sum rfl) (by rfl) bi.m_sum (by decide +kernel) (pa_cons (pe_lc (own := [("thickness", 1), ("long", 2)]) (g := (gTup K 2 (gCons (gName 1) (gCons (gName 2) gNil)))) (tt := tYes) rfl sc_weight_of.nd (pi_tup (pe_ix ix_tup (pv 0) pe_int (fun _ _ => rfl))) (blkOk_by (N := N_weight_of) (sc := defScope s_weight_of) (by decide +kernel)) (fun _ _ _ _ _ => (pg_tup rfl (pgs_cons (pg_name (i := 1) sc_weight_of.nd rfl (.inl rfl) (.inr rfl)) (pgs_cons (pg_name (i := 2) sc_weight_of.nd rfl (.inl rfl) (.inr rfl)) pgs_nil)))) (fun _ _ _ _ _ => pts_nil) (fun _ _ _ _ _ => (pe_op op_mulW (pv 1) (pv 2)))) pa_nil)))), ?_⟩
    refine ⟨_, rfl, a, _, 1, _, rfl, rfl, SqT.of ea, atI_nat (j := 1) rfl, st, rfl, ⟨_, SqT.of es⟩, fun D nD => ?_⟩
    have hlen : as.length = ps.length := by
      have := tu.1
      rw [List.length_map] at this
      exact this
    refine lc_tup (xs := as.map V.ref) (fun i H' => Same H H' ∧ H' D = some (.lst ((ps.take i).map fun p => V.int (p.1 * p.2)))) ⟨same_new (Same.refl H) nD, upd_same⟩ (fun i H' hi hm => SqT.of (hm.1 _ _ es)) (fun i x H' hx hm => ?_) (fun H' hm => ?_)
    · obtain ⟨sm, eD⟩ := hm
      obtain ⟨b, t, g, rfl, ep, eb⟩ := step_get tu hx
      refine ⟨b, _, rfl, SqT.of (sm _ _ eb), rfl, _, _, rfl, _, _, rfl, rfl, rfl, yesIte ?_⟩
      refine ⟨_, rfl, _, rfl, _, _, rfl, rfl, mul_ok gd ep, _, eD, ?_, same_mine sm nD, ?_⟩
      · rw [List.length_map, List.length_take]
        exact small1000 (by have := gd.2.1; omega)
      · rw [upd_same, take_map_succ _ ep]
    · obtain ⟨sm, eD⟩ := hm
      refine ⟨D, ps.map (fun p : Int × Int => p.1 * p.2), rfl, SqL.of ?_, q _ sm⟩
      rw [eD, List.length_map, hlen, List.take_length, List.map_map]
      rfl
theorem ok_thick_at {f : Addr} {fd : FuncData} {k : Nat} (F : Fun K "thick_at" "thick_at" s_thick_at f fd) (bi : Bi mg) : FnOk P w K mg base CX0 (k + 1) f fd P_thick_at spThick := by
  refine F.ok sc_thick_at (fun vs H Q E h => ?_) (fun cdv A outer s H vs Q E hr h => ?_)
  · obtain ⟨a, so, ps, k, rfl, _⟩ := h
    rfl
  · obtain ⟨a, so, ps, k, rfl, ⟨st, as, ea, es, tu⟩, q⟩ := h
    refine ⟨_, (pss_cons (ps_for PassesOwn.never rfl (pi_tup (pe_ix ix_tup (pv 0) pe_int (fun _ _ => rfl))) (pg_tup rfl (pgs_cons (pg_name (i := 2) sc_thick_at.nd rfl (.inl rfl)) (pgs_cons (pg_name (i := 3) sc_thick_at.nd rfl (.inl rfl)) pgs_nil)))
      (pss_cons (ps_if (pt_cmpR op_lt (pv 1) (pv 3) (nomark _))
          (pss_one (ps_ret (pv 2)))
          pss_nil)
        (pss_one (ps_aug (i := 1) sc_thick_at.nd rfl (.inl rfl) (pv 3) ip_sub))))
    (pss_one (ps_ret pe_int))), ?_⟩
    have hlen : as.length = ps.length := by
      have := tu.1
      rw [List.length_map] at this
      exact this
    refine ⟨_, rfl, a, _, 1, _, rfl, rfl, SqT.of ea, atI_nat (j := 1) rfl, st, rfl, ⟨_, SqT.of es⟩, for_tup (xs := as.map V.ref) (fun i σ' H' => ∃ (x2 x3 : Option V) (kk : Int), σ' = [some (.ref a), some (.int kk), x2, x3] ∧ H' = H ∧ thickAt (ps.drop i) kk = thickAt ps k) ⟨_, _, k, rfl, rfl, rfl⟩ (fun i σ' H' hi hm => ?_) (fun i x σ' H' hx hm => ?_) (fun σ' H' hm => ?_)⟩
    · obtain ⟨x2, x3, kk, rfl, rfl, _⟩ := hm
      exact SqT.of es
    · obtain ⟨x2, x3, kk, rfl, rfl, et⟩ := hm
      obtain ⟨b, t, g, rfl, ep, eb⟩ := step_get tu hx
      refine ⟨b, _, rfl, SqT.of eb, rfl, _, _, rfl, _, _, rfl, rfl, ?_⟩
      have hd : ps.drop i = (t, g) :: ps.drop (i + 1) := by
        obtain ⟨hi, e⟩ := List.getElem?_eq_some_iff.mp ep
        rw [List.drop_eq_getElem_cons hi, e]
      rw [hd] at et
      have et : (if kk < g then t else thickAt (ps.drop (i + 1)) (kk - g)) = thickAt ps k := et
      refine ⟨_, rfl, _, rfl, _, _, rfl, rfl, _, rfl, ite2 (fun e => ?_) (fun e => ?_)⟩
      · rw [if_pos (of_decide_eq_true e)] at et
        rw [← et] at q
        exact ⟨_, rfl, q⟩
      · rw [if_neg (fun z => e (decide_eq_true z))] at et
        exact ⟨_, rfl, _, rfl, _, _, rfl, rfl, _, _, _, rfl, rfl, et⟩
    · obtain ⟨x2, x3, kk, rfl, rfl, et⟩ := hm
      rw [List.length_map, hlen, List.drop_length] at et
      rw [← et] at q
      exact q
theorem ok__law_table {f : Addr} {fd : FuncData} {k : Nat} (F : Fun K "_law_table" "_law_table" s__law_table f fd) (bi : Bi mg) : FnOk P w K mg base CX0 (k + 1) f fd P__law_table spTable := by
  refine F.ok sc__law_table (fun vs H Q E h => ?_) (fun cdv A outer s H vs Q E hr h => ?_)
  · obtain ⟨a, so, ps, rfl, _⟩ := h
    rfl
  · obtain ⟨a, so, ps, rfl, ⟨st, as, ea, es, tu⟩, gd, q⟩ := h
    refine ⟨_, (pss_cons (ps_par (i := 1) (j := 2) rfl sc__law_table.nd rfl rfl (by decide) rfl rfl (pa_cons (pe_lst pa_nil) (pa_cons pe_int pa_nil)) rfl)
    (pss_cons (ps_for PassesOwn.never rfl (pi_tup (pe_ix ix_tup (pv 0) pe_int (fun _ _ => rfl))) (pg_tup rfl (pgs_cons (pg_name (i := 3) sc__law_table.nd rfl (.inl rfl)) (pgs_cons (pg_name (i := 4) sc__law_table.nd rfl (.inl rfl)) pgs_nil)))
      (pss_cons (ps_expr (pe_bm PySem.F.plainAttrs_list PySem.F.slot_list_append PySem.F.type_list_append mt_append (pv 1) (pa_cons (pe_tup (pa_cons (pv 2) (pa_cons (pe_op op_add (pv 2) (pv 4)) (pa_cons (pv 3) pa_nil)))) pa_nil)))
        (pss_one (ps_set (i := 2) sc__law_table.nd rfl (.inl rfl) (pe_op op_add (pv 2) (pv 4))))))
    (pss_one (ps_ret (pv 1))))), ?_⟩
    have hlen : as.length = ps.length := by
      have := tu.1
      rw [List.length_map] at this
      exact this
    refine ⟨Nat.zero_le _, fun o no => ⟨_, _, rfl, ?_⟩⟩
    have ea' : upd H o (.lst []) a = some (.tup [.int so, .ref st]) := same_new (Same.refl H) no _ _ ea
    have es' : upd H o (.lst []) st = some (.tup (as.map V.ref)) := same_new (Same.refl H) no _ _ es
    refine ⟨_, rfl, a, _, 1, _, rfl, rfl, SqT.of ea', atI_nat (j := 1) rfl, st, rfl, ⟨_, SqT.of es'⟩, for_tup (xs := as.map V.ref) (fun i σ' H' => ∃ (x3 x4 : Option V) (bs : List Addr), σ' = [some (.ref a), some (.ref o), some (.int (0 + longs (ps.take i))), x3, x4] ∧ Same H H' ∧ H' o = some (.lst (bs.map V.ref)) ∧ TupsAt H' bs (((tableOf 0 ps).take i).map rowV)) ⟨_, _, [], rfl, same_new (Same.refl H) no, upd_same, TupsAt.nil⟩ (fun i σ' H' hi hm => ?_) (fun i x σ' H' hx hm => ?_) (fun σ' H' hm => ?_)⟩
    · obtain ⟨x2, x3, bs, rfl, sm, _⟩ := hm
      exact SqT.of (sm _ _ es)
    · obtain ⟨x2, x3, bs, rfl, sm, eo, tb⟩ := hm
      obtain ⟨b, t, g, rfl, ep, eb⟩ := step_get tu hx
      refine ⟨b, _, rfl, SqT.of (sm _ _ eb), rfl, _, _, rfl, _, _, rfl, rfl, ?_⟩
      refine ⟨_, rfl, .inl ⟨rfl, _, SqL.of eo⟩, _, rfl, _, rfl, _, rfl, _, _, rfl, rfl, _, rfl, (by show 3 ≤ sizeLine; decide), fun z nz => ?_⟩
      have eo' : upd H' z (.tup [.int (0 + longs (ps.take i)), .int (0 + longs (ps.take i) + g), .int t]) o = some (.lst (bs.map V.ref)) := by
        rw [upd_ne (ne_of_none eo nz)]
        exact eo
      have hbl : bs.length ≤ 10 := by
        have := tb.1
        rw [List.length_map, List.length_take, table_len] at this
        omega
      refine ⟨o, _, _, rfl, rfl, eo', ?_, ?_⟩
      · rw [List.length_map]
        exact small1000 (by omega)
      refine ⟨_, rfl, _, rfl, _, _, rfl, rfl, ?_⟩
      refine ⟨some (.int t), some (.int g), bs ++ [z], ?_, same_mine (same_new sm nz) no, ?_, ?_⟩
      · rw [longs_take ep, ← Int.add_assoc]
        rfl
      · rw [upd_same, List.map_append]
        rfl
      · rw [take_map_succ _ (table_get ps 0 i t g ep), longs_take ep, ← Int.add_assoc]
        exact ((tb.mono (Tups.new nz)).snoc upd_same).mono (Tups.ls eo')
    · obtain ⟨x2, x3, bs, rfl, sm, eo, tb⟩ := hm
      rw [List.length_map, hlen, ← table_len ps 0, List.take_length] at tb
      exact ⟨_, rfl, q _ o sm no ⟨bs, eo, tb⟩⟩
theorem ok__law_strong {f fT : Addr} {fd fdT : FuncData} (F : Fun K "_law_strong" "_law_strong" s__law_strong f fd) (bi : Bi mg) (C__law_table : Cal P w K mg base "_law_table" P__law_table 1 spTable fT fdT) : FnOk P w K mg base CX0 2 f fd P__law_strong spStrong := by
  refine F.ok sc__law_strong (fun vs H Q E h => ?_) (fun cdv A outer s H vs Q E hr h => ?_)
  · obtain ⟨a, so, ps, k, rfl, _⟩ := h
    rfl
  · obtain ⟨a, so, ps, k, rfl, hw, gd, k0, q⟩ := h
    refine ⟨_, (pss_one (ps_ret (pe_callB (cr_sum rfl) (by rfl) bi.m_sum (by decide +kernel) (pa_cons (pe_lc (own := [("_law_begin", 2), ("_law_end", 3), ("_law_strong_here", 4)]) (g := (gTup K 3 (gCons (gName 2) (gCons (gName 3) (gCons (gName 4) gNil))))) rfl sc__law_strong.nd (pi_list (pe_call (C__law_table.G.mono (by decide)) hr (by rfl) C__law_table.g C__law_table.kp C__law_table.b .nil pass0 (pa_cons (pv 0) pa_nil))) (blkOk_by (N := N__law_strong) (sc := defScope s__law_strong) (by decide +kernel)) (fun _ _ _ _ _ => (pg_tup rfl (pgs_cons (pg_name (i := 2) sc__law_strong.nd rfl (.inl rfl) (.inr rfl)) (pgs_cons (pg_name (i := 3) sc__law_strong.nd rfl (.inl rfl) (.inr rfl)) (pgs_cons (pg_name (i := 4) sc__law_strong.nd rfl (.inl rfl) (.inr rfl)) pgs_nil))))) (fun _ _ _ _ _ => (pts_one (pt_chain op_le op_lt (pv 2) (pv 1) (pv 3)))) (fun _ _ _ _ _ => (pv 4))) pa_nil)))), ?_⟩
    refine ⟨_, rfl, a, so, ps, rfl, hw, gd.2.1, fun H1 o sm no ⟨as, eo, tu⟩ => ?_⟩
    refine ⟨o, rfl, ⟨_, SqL.of eo⟩, fun D nD => ?_⟩
    have hlen : as.length = (tableOf 0 ps).length := by
      have := tu.1
      rw [List.length_map] at this
      exact this
    refine lc_list (xs := as.map V.ref) (fun i H' => Same H1 H' ∧ H' D = some (.lst ((((tableOf 0 ps).take i).filter (inRow k)).map fun t => V.int t.2.2))) ⟨same_new (Same.refl H1) nD, upd_same⟩ (fun i H' hi hm => SqL.of (hm.1 _ _ eo)) (fun i x H' hx hm => ?_) (fun H' hm => ?_)
    · obtain ⟨sm1, eD⟩ := hm
      obtain ⟨z, b, c, d, rfl, et, ez⟩ := row_get tu hx
      have hf : ((tableOf 0 ps).take (i + 1)).filter (inRow k) = ((tableOf 0 ps).take i).filter (inRow k) ++ (if inRow k (b, c, d) = true then [(b, c, d)] else []) := by
        rw [List.take_add_one, et, List.filter_append]
        show _ ++ List.filter (inRow k) [(b, c, d)] = _
        rw [List.filter_cons]
        rfl
      refine ⟨z, _, rfl, SqT.of (sm1 _ _ ez), rfl, _, _, rfl, _, _, rfl, _, _, rfl, rfl, rfl, ?_⟩
      refine ⟨_, rfl, _, rfl, _, _, rfl, rfl, _, rfl, ite2 (fun e => ?_) (fun e => ?_)⟩
      · refine ⟨_, rfl, _, _, rfl, rfl, _, rfl, ite2 (fun e2 => ?_) (fun e2 => ?_)⟩
        · refine ⟨_, rfl, _, eD, ?_, same_mine sm1 nD, ?_⟩
          · rw [List.length_map]
            refine small1000 (Nat.le_trans (List.length_filter_le _ _) ?_)
            rw [List.length_take, table_len]
            have := gd.2.1
            omega
          · rw [upd_same, hf, if_pos (show inRow k (b, c, d) = true from Bool.and_eq_true_iff.mpr ⟨e, e2⟩), List.map_append]
            rfl
        · refine ⟨sm1, ?_⟩
          rw [eD, hf, if_neg (show ¬ inRow k (b, c, d) = true from fun h => e2 (Bool.and_eq_true_iff.mp h).2), List.append_nil]
      · refine ⟨_, rfl, ?_⟩
        show if false = true then _ else _
        rw [if_neg Bool.false_ne_true]
        refine ⟨sm1, ?_⟩
        rw [eD, hf, if_neg (show ¬ inRow k (b, c, d) = true from fun h => e (Bool.and_eq_true_iff.mp h).1), List.append_nil]
    · obtain ⟨sm1, eD⟩ := hm
      have hq : strongOf k (tableOf 0 ps) = thickAt ps k := by
        rw [strong_table ps 0 k (fun p hp => (gd.2.2 p hp).2.2.1), if_neg (by omega), Int.sub_zero]
      rw [← hq] at q
      refine ⟨D, (((tableOf 0 ps).filter (inRow k)).map fun t : Int × Int × Int => t.2.2), rfl, SqL.of ?_, q _ (sm.trans sm1)⟩
      rw [eD, List.length_map, hlen, List.take_length, List.map_map]
      rfl
theorem ok__law_spots {f fT fB : Addr} {fd fdT fdB : FuncData} (F : Fun K "_law_spots" "_law_spots" s__law_spots f fd) (bi : Bi mg) (C__law_table : Cal P w K mg base "_law_table" P__law_table 1 spTable fT fdT) (C__law_draw : Cal P w K mg base "_law_draw" P__law_draw 2 spDraw fB fdB) : FnOk P w K mg base CX0 3 f fd P__law_spots spSpots := by
  refine F.ok sc__law_spots (fun vs H Q E h => ?_) (fun cdv A outer s H vs Q E hr h => ?_)
  · obtain ⟨p, l, T, a, so, ps, rfl, _⟩ := h
    rfl
  · obtain ⟨p, l, T, a, so, ps, rfl, hp, hT, hw, gd, q⟩ := h
    refine ⟨_, (pss_cons (ps_set (i := 2) sc__law_spots.nd rfl (.inl rfl) (pe_lst (pa_cons pe_int pa_nil)))
    (pss_cons (ps_for PassesOwn.never rfl (pi_list (pe_call (C__law_table.G.mono (by decide)) hr (by rfl) C__law_table.g C__law_table.kp C__law_table.b .nil pass0 (pa_cons (pv 1) pa_nil))) (pg_tup rfl (pgs_cons (pg_name (i := 3) sc__law_spots.nd rfl (.inl rfl)) (pgs_cons (pg_name (i := 4) sc__law_spots.nd rfl (.inl rfl)) (pgs_cons (pg_name (i := 5) sc__law_spots.nd rfl (.inl rfl)) pgs_nil))))
      (pss_one (ps_set (i := 2) sc__law_spots.nd rfl (.inl rfl) (pe_op op_cat (pv 2) (pe_lst (pa_cons (pv 3) (pa_cons (pe_callB (call_max2 rfl) (by rfl) bi.m_max (by decide +kernel) (pa_cons pe_int (pa_cons (pe_op op_sub (pv 4) pe_int) pa_nil))) (pa_cons (pv 4) (pa_cons (pe_op op_add (pv 4) pe_int) (pa_cons (pe_op op_add (pv 3) (pe_call (C__law_draw.G.mono (by decide)) hr (by rfl) C__law_draw.g C__law_draw.kp C__law_draw.b .nil pass0 (pa_cons (pv 0) (pa_cons (pe_op op_sub (pv 4) (pv 3)) pa_nil)))) pa_nil))))))))))
    (pss_one (ps_ret (pv 2))))), ?_⟩
    refine ⟨(by show 1 ≤ sizeLine; decide), fun F0 nF0 => ?_⟩
    have s1 : Same H (upd H F0 (.lst [.int 0])) := same_new (Same.refl H) nF0
    refine ⟨_, rfl, a, so, ps, rfl, Same.wisp s1 hw, gd.2.1, fun H1 o sm no ⟨as, eo, tu⟩ => ?_⟩
    have hp1 : Pot H1 p l T := by
      obtain ⟨ns, c, m, t, h1, h2, h3⟩ := hp
      exact ⟨ns, c, m, t, sm _ _ (s1 _ _ h1), sm _ _ (s1 _ _ h2), h3⟩
    have k1 : Keep p l H H1 := fun c u _ _ e => sm _ _ (s1 _ _ e)
    obtain ⟨nop, nol⟩ := (hp.new nF0).fresh no
    have hlen : as.length = ps.length := by
      have := tu.1
      rw [List.length_map, table_len] at this
      exact this
    refine ⟨o, rfl, ⟨_, SqL.of eo⟩, for_list (xs := as.map V.ref) (fun i σ' H' => ∃ (x3 x4 x5 : Option V) (F1 : Addr) (ns : List Int), σ' = [some (.ref p), some (.ref a), some (.ref F1), x3, x4, x5] ∧ Pot H' p l (T + i) ∧ Keep p l H H' ∧ Keep p l H1 H' ∧ H F1 = none ∧ H' F1 = some (.lst (ns.map V.int)) ∧ (∀ n ∈ ns, (0 : Int) ≤ n) ∧ ns.length = 1 + 5 * i) ⟨_, _, _, F0, [0], rfl, hp1, k1, Keep.refl, nF0, sm _ _ upd_same, (fun n hn => by simp at hn; omega), rfl⟩ (fun i σ' H' hi hm => ?_) (fun i x σ' H' hx hm => ?_) (fun σ' H' hm => ?_)⟩
    · obtain ⟨x3, x4, x5, F1, ns, rfl, hpi, ki, ki1, nF1, eF1, hns, hln⟩ := hm
      exact SqL.of (ki1 _ _ nop nol eo)
    · obtain ⟨x3, x4, x5, F1, ns, rfl, hpi, ki, ki1, nF1, eF1, hns, hln⟩ := hm
      obtain ⟨z, b, c, d, rfl, et, ez⟩ := row_get tu hx
      have hi : i < ps.length := by
        have := (List.getElem?_eq_some_iff.mp et).1
        rw [table_len] at this
        exact this
      obtain ⟨t, g, ep⟩ : ∃ t g, ps[i]? = some (t, g) := ⟨(ps[i]).1, (ps[i]).2, List.getElem?_eq_getElem hi⟩
      have e1 := table_get ps 0 i t g ep
      rw [e1] at et
      have et := Option.some.inj et
      have eb : 0 + longs (ps.take i) = b := congrArg Prod.fst et
      have ec : 0 + longs (ps.take (i + 1)) = c := congrArg (fun x => x.2.1) et
      rw [longs_take ep] at ec
      have hg := gd.2.2 (t, g) (List.mem_of_getElem? ep)
      have hb0 : 0 ≤ longs (ps.take i) := longs_nonneg fun x hx => (gd.2.2 x (List.mem_of_mem_take hx)).2.2.1
      have hcb : c - b = g := by omega
      have hg1 : 1 ≤ g := hg.2.2.1
      have hfit : CDivW 0 (c - b) := by
        rw [hcb]
        refine wide_div (b := 200) (by omega) ?_ (by decide) (by decide)
        have h2 : (g.natAbs : Int) = g := by omega
        have h3 : (g.natAbs : Int) < ((2 ^ 200 : Nat) : Int) := by rw [h2]; exact hg.2.2.2
        exact Int.ofNat_lt.mp h3
      obtain ⟨nzp, nzl⟩ := hp1.notP ez
      refine ⟨z, _, rfl, SqT.of (ki1 _ _ nzp nzl ez), rfl, _, _, rfl, _, _, rfl, _, _, rfl, rfl, ?_⟩
      refine ⟨_, rfl, _, rfl, _, rfl, _, _, rfl, rfl, _, _, rfl, _, rfl, _, rfl, _, _, rfl, rfl, _, rfl, _, rfl, _, rfl, _, rfl, _, _, rfl, rfl, p, l, T + i, c - b, rfl, hpi, by have := gd.2.1; omega, hfit, fun dr H2 d0 d1 hp2 k2 => ?_⟩
      refine ⟨_, _, rfl, rfl, (by show 5 ≤ sizeLine; decide), fun y ny => ?_⟩
      obtain ⟨nF1p, nF1l⟩ := hp.fresh nF1
      have eF2 : H2 F1 = some (.lst (ns.map V.int)) := k2 _ _ nF1p nF1l eF1
      have hps := gd.2.1
      refine ⟨F1, y, ns.map V.int, _, rfl, rfl, ?_, upd_same, ?_, fun F2 nF2 => ?_⟩
      · rw [upd_ne (ne_of_none eF2 ny)]
        exact eF2
      · rw [List.length_map, hln]
        exact Nat.le_of_lt (small1000 (by show 1 + 5 * i + 5 ≤ 1000; omega))
      have k3 : Keep p l H H2 := ki.trans k2
      have ny' : H y = none := k3.free hp2 ny
      have k4 : Keep p l H (upd H2 y (.lst [.int b, .int (if c - 1 > 0 then c - 1 else 0), .int c, .int (c + 1), .int (b + dr)])) := k3.new ny
      have hp4 := hp2.new (o := .lst [.int b, .int (if c - 1 > 0 then c - 1 else 0), .int c, .int (c + 1), .int (b + dr)]) ny
      refine ⟨_, _, _, F2, ns ++ [b, (if c - 1 > 0 then c - 1 else 0), c, c + 1, b + dr], rfl, hp4.new nF2, k4.new nF2, ((ki1.trans k2).new ny).new nF2, k4.free hp4 nF2, ?_, ?_, ?_⟩
      · rw [upd_same, List.map_append]
        rfl
      · intro n hn
        rcases List.mem_append.mp hn with h | h
        · exact hns n h
        · simp only [List.mem_cons, List.not_mem_nil, or_false] at h
          rcases h with rfl | rfl | rfl | rfl | rfl
          · omega
          · split <;> omega
          · omega
          · omega
          · omega
      · rw [List.length_append, hln]
        show 1 + 5 * i + 5 = 1 + 5 * (i + 1)
        omega
    · obtain ⟨x3, x4, x5, F1, ns, rfl, hpi, ki, ki1, nF1, eF1, hns, hln⟩ := hm
      rw [List.length_map, hlen] at hpi hln
      have hps := gd.2.1
      exact ⟨_, rfl, q _ F1 ns (hpi.mono (by omega)) ki nF1 eF1 hns (by omega)⟩
theorem ok__law_right {fL fW fK fO fT fS fR fG f : Addr} {fdL fdW fdK fdO fdT fdS fdR fdG fd : FuncData} (F : Fun K "_law_right" "_law_right" s__law_right f fd) (bi : Bi mg)
    (C_length_of : Cal P w K mg base "length_of" P_length_of 1 spLen fL fdL) (C_weight_of : Cal P w K mg base "weight_of" P_weight_of 1 spWeight fW fdW) (C_thick_at : Cal P w K mg base "thick_at" P_thick_at 1 spThick fK fdK)
    (C__law_whole : Cal P w K mg base "_law_whole" P__law_whole 1 spWhole fO fdO) (C__law_table : Cal P w K mg base "_law_table" P__law_table 1 spTable fT fdT) (C__law_spots : Cal P w K mg base "_law_spots" P__law_spots 3 spSpots fS fdS) (C__law_strong : Cal P w K mg base "_law_strong" P__law_strong 2 spStrong fR fdR) (C__law_great : Cal P w K mg base "_law_great" P__law_great 3 spGreat fG fdG) : FnOk P w K mg base CX0 4 f fd P__law_right spRight := by
  refine F.ok sc__law_right (fun vs H Q E h => ?_) (fun cdv A outer s H vs Q E hr h => ?_)
  · obtain ⟨p, l, T, a, so, ps, small, rfl, _⟩ := h
    rfl
  · obtain ⟨p, l, T, a, so, ps, small, rfl, hp, hT, hw, gd, hsm, q⟩ := h
    refine ⟨_, (pss_cons (ps_par (i := 3) (j := 4) rfl sc__law_right.nd rfl rfl (by decide) rfl rfl (pa_cons (pe_call (C_length_of.G.mono (by decide)) hr (by rfl) C_length_of.g C_length_of.kp C_length_of.b .nil pass0 (pa_cons (pv 1) pa_nil)) (pa_cons (pe_call (C_weight_of.G.mono (by decide)) hr (by rfl) C_weight_of.g C_weight_of.kp C_weight_of.b .nil pass0 (pa_cons (pv 1) pa_nil)) pa_nil)) rfl)
    (pss_cons (ps_set (i := 5) sc__law_right.nd rfl (.inl rfl) (pe_ix ix_tup (pe_ix ix_list (pe_call (C__law_table.G.mono (by decide)) hr (by rfl) C__law_table.g C__law_table.kp C__law_table.b .nil pass0 (pa_cons (pv 1) pa_nil)) (pe_un un_neg pe_int) (fun _ _ => rfl)) pe_int (fun _ _ => rfl)))
    (pss_cons (ps_set (i := 6) sc__law_right.nd rfl (.inl rfl) (pe_callB (cr_sum rfl) (by rfl) bi.m_sum (by decide +kernel) (pa_cons (pe_lc (own := [("_law_begin", 9), ("_law_end", 10), ("_law_strong_here", 11)]) (g := (gTup K 3 (gCons (gName 9) (gCons (gName 10) (gCons (gName 11) gNil))))) (tt := tYes) rfl sc__law_right.nd (pi_list (pe_call (C__law_table.G.mono (by decide)) hr (by rfl) C__law_table.g C__law_table.kp C__law_table.b .nil pass0 (pa_cons (pv 1) pa_nil))) (blkOk_by (N := N__law_right) (sc := defScope s__law_right) (by decide +kernel)) (fun _ _ _ _ _ => (pg_tup rfl (pgs_cons (pg_name (i := 9) sc__law_right.nd rfl (.inl rfl) (.inr rfl)) (pgs_cons (pg_name (i := 10) sc__law_right.nd rfl (.inl rfl) (.inr rfl)) (pgs_cons (pg_name (i := 11) sc__law_right.nd rfl (.inl rfl) (.inr rfl)) pgs_nil))))) (fun _ _ _ _ _ => pts_nil) (fun _ _ _ _ _ => (pe_op op_mulW (pe_op op_sub (pv 10) (pv 9)) (pv 11)))) pa_nil)))
    (pss_cons (ps_if (pw_or (pt_not (pt_val (pe_call (C__law_whole.G.mono (by decide)) hr (by rfl) C__law_whole.g C__law_whole.kp C__law_whole.b .nil pass0 (pa_cons (pv 3) pa_nil)))) (pw_or (pt_cmpR op_ne (pv 3) (pv 5) (nomark _)) (pw_or (pt_not (pt_val (pe_call (C__law_whole.G.mono (by decide)) hr (by rfl) C__law_whole.g C__law_whole.kp C__law_whole.b .nil pass0 (pa_cons (pv 4) pa_nil)))) (pw_or1 (pt_cmpR op_ne (pv 4) (pv 6) (nomark _)))))).pt
      (pss_one (ps_ret pe_bl))
      pss_nil)
    (pss_cons (ps_for PassesOwn.never rfl (pi_list (pe_op op_cat (pe_call (C__law_spots.G.mono (by decide)) hr (by rfl) C__law_spots.g C__law_spots.kp C__law_spots.b .nil pass0 (pa_cons (pv 0) (pa_cons (pv 1) pa_nil))) (pe_lst (pa_cons (pv 5) (pa_cons (pe_op op_add (pv 5) pe_int) (pa_cons (pe_op op_add (pv 5) (pe_call (C__law_great.G.mono (by decide)) hr (by rfl) C__law_great.g C__law_great.kp C__law_great.b .nil pass0 (pa_cons (pv 0) pa_nil))) (pa_cons (pe_op op_pow pe_int pe_int) pa_nil))))))) (pg_name (i := 7) sc__law_right.nd rfl (.inl rfl))
      (pss_cons (ps_set (i := 8) sc__law_right.nd rfl (.inl rfl) (pe_call (C_thick_at.G.mono (by decide)) hr (by rfl) C_thick_at.g C_thick_at.kp C_thick_at.b .nil pass0 (pa_cons (pv 1) (pa_cons (pv 7) pa_nil))))
        (pss_one (ps_if (pw_or (pt_not (pt_val (pe_call (C__law_whole.G.mono (by decide)) hr (by rfl) C__law_whole.g C__law_whole.kp C__law_whole.b .nil pass0 (pa_cons (pv 8) pa_nil)))) (pw_or1 (pt_cmpR op_ne (pv 8) (pe_call (C__law_strong.G.mono (by decide)) hr (by rfl) C__law_strong.g C__law_strong.kp C__law_strong.b .nil pass0 (pa_cons (pv 1) (pa_cons (pv 7) pa_nil))) (nomark _)))).pt
          (pss_one (ps_ret pe_bl))
          pss_nil))))
    (pss_one (ps_ret (pe_or (pe_not (pv 2)) (pe_one (pe_cmpR op_eq (pe_callB (cr_sum rfl) (by rfl) bi.m_sum (by decide +kernel) (pa_cons (pe_lc (own := [("_law_k", 7)]) (g := (gName 7)) (tt := tYes) rfl sc__law_right.nd (pi_range1 rfl bi.m_range (pa_cons (pe_op op_add (pv 5) pe_int) pa_nil)) (blkOk_by (N := N__law_right) (sc := defScope s__law_right) (by decide +kernel)) (fun _ _ _ _ _ => (pg_name (i := 7) sc__law_right.nd rfl (.inl rfl) (.inr rfl))) (fun _ _ _ _ _ => pts_nil) (fun _ _ _ _ _ => (pe_call (C_thick_at.G.mono (by decide)) hr (by rfl) C_thick_at.g C_thick_at.kp C_thick_at.b .nil pass0 (pa_cons (pv 1) (pa_cons (pv 7) pa_nil))))) pa_nil)) (pv 4) (nomark _))))))))))), ?_⟩
    -- long, weight
    refine ⟨_, rfl, a, so, ps, rfl, hw, gd, fun H1 s1 => ?_⟩
    refine ⟨_, rfl, a, so, ps, rfl, Same.wisp s1 hw, gd, fun H2 s2 => ⟨_, _, rfl, ?_⟩⟩
    have s02 := s1.trans s2
    -- last
    refine ⟨_, rfl, a, so, ps, rfl, Same.wisp s02 hw, gd.2.1, fun H3 o s3 no ⟨as, eo, tu⟩ => ?_⟩
    have hne : ps ≠ [] := fun e => by
      have := gd.1
      rw [e] at this
      exact absurd this (by decide)
    have hg2 : ∀ x ∈ ps, 1 ≤ x.2 := fun x hx => (gd.2.2 x hx).2.2.1
    obtain ⟨b', t', hl⟩ := table_last ps 0 hne
    rw [Int.zero_add] at hl
    have hlen : as.length = (tableOf 0 ps).length := by
      have := tu.1
      rw [List.length_map] at this
      exact this
    have hlast : ∃ z, atI (as.map V.ref) (-1) = some (.ref z) ∧ H3 z = some (.tup [.int b', .int (longs ps), .int t']) := by
      rw [List.getLast?_eq_getElem?] at hl
      have hpos : 0 < (tableOf 0 ps).length := by
        rw [table_len]
        have := gd.1
        omega
      have hi : (tableOf 0 ps).length - 1 < as.length := by omega
      have e1 : (as.map V.ref)[(tableOf 0 ps).length - 1]? = some (.ref as[(tableOf 0 ps).length - 1]) := by
        rw [List.getElem?_map, List.getElem?_eq_getElem hi]
        rfl
      obtain ⟨z, b, c, d, e2, e3, e4⟩ := row_get tu e1
      rw [hl] at e3
      have e5 := Option.some.inj e3
      obtain ⟨e6, e7⟩ := Prod.mk.inj e5
      obtain ⟨e8, e9⟩ := Prod.mk.inj e7
      rw [← e6, ← e8, ← e9] at e4
      refine ⟨z, ?_, e4⟩
      have hz : as.map V.ref = (as.map V.ref).dropLast ++ [.ref z] := by
        have h0 : as.map V.ref ≠ [] := fun e => by
          have := congrArg List.length e
          rw [List.length_map, hlen] at this
          have this : (tableOf 0 ps).length = 0 := this
          omega
        have h1 := List.dropLast_concat_getLast h0
        rw [← h1]
        have h2 : (as.map V.ref).getLast h0 = .ref z := by
          have := List.getLast?_eq_getLast h0
          rw [List.getLast?_eq_getElem?, List.length_map, hlen, e1] at this
          exact (Option.some.inj this).symm.trans e2
        rw [h2]
        simp
      rw [hz]
      exact atI_last _ _
    obtain ⟨z, ez1, ez2⟩ := hlast
    refine ⟨1, rfl, o, _, -1, _, rfl, rfl, SqL.of eo, ez1, z, _, 1, _, rfl, rfl, SqT.of ez2, atI_nat (j := 1) rfl, ?_⟩
    have s03 := s02.trans s3
    -- due
    refine ⟨_, rfl, a, so, ps, rfl, Same.wisp s03 hw, gd.2.1, fun H4 o4 s4 no4 ⟨as4, eo4, tu4⟩ => ?_⟩
    refine ⟨o4, rfl, ⟨_, SqL.of eo4⟩, fun D nD => ?_⟩
    have hlen4 : as4.length = (tableOf 0 ps).length := by
      have := tu4.1
      rw [List.length_map] at this
      exact this
    have s04 := s03.trans s4
    refine lc_list (xs := as4.map V.ref) (fun i H' => Same H4 H' ∧ H' D = some (.lst (((tableOf 0 ps).take i).map fun t => V.int ((t.2.1 - t.1) * t.2.2)))) ⟨same_new (Same.refl H4) nD, upd_same⟩ (fun i H' hi hm => SqL.of (hm.1 _ _ eo4)) (fun i x H' hx hm => ?_) (fun H' hm => ?_)
    · obtain ⟨sm1, eD⟩ := hm
      obtain ⟨y, b, c, d, rfl, et, ey⟩ := row_get tu4 hx
      have hi : i < ps.length := by
        have := (List.getElem?_eq_some_iff.mp et).1
        rw [table_len] at this
        exact this
      obtain ⟨t, g, ep⟩ : ∃ t g, ps[i]? = some (t, g) := ⟨(ps[i]).1, (ps[i]).2, List.getElem?_eq_getElem hi⟩
      have e1 := table_get ps 0 i t g ep
      rw [e1, longs_take ep] at et
      have et' := Option.some.inj et
      obtain ⟨eb, et2⟩ := Prod.mk.inj et'
      obtain ⟨ec, ed⟩ := Prod.mk.inj et2
      have hcm : CMulW (c - b) d := by
        rw [show c - b = g by omega, ← ed]
        exact mulw_symm (mul_ok gd ep)
      refine ⟨y, _, rfl, SqT.of (sm1 _ _ ey), rfl, _, _, rfl, _, _, rfl, _, _, rfl, rfl, rfl, yesIte ?_⟩
      refine ⟨_, rfl, _, rfl, _, _, rfl, rfl, _, rfl, _, _, rfl, rfl, hcm, _, eD, ?_, same_mine sm1 nD, ?_⟩
      · rw [List.length_map, List.length_take, table_len]
        exact small1000 (by have := gd.2.1; omega)
      · rw [← longs_take ep] at et
        rw [← e1] at et
        rw [upd_same, take_map_succ _ et]
    · obtain ⟨sm1, eD⟩ := hm
      refine ⟨D, ((tableOf 0 ps).map fun t : Int × Int × Int => (t.2.1 - t.1) * t.2.2), rfl, SqL.of ?_, ?_⟩
      · rw [eD, List.length_map, hlen4, List.take_length, List.map_map]
        rfl
      have hdue : ((tableOf 0 ps).map fun t : Int × Int × Int => (t.2.1 - t.1) * t.2.2).sum = weigh ps := due_table ps 0
      rw [hdue]
      have s05 := s04.trans sm1
      -- the tests
      refine ⟨_, rfl, _, rfl, true, rfl, ?_⟩
      refine iteNT ?_
      refine ⟨_, rfl, _, rfl, rfl, _, rfl, ?_⟩
      refine iteNS rfl ?_
      refine ⟨_, rfl, _, rfl, true, rfl, ?_⟩
      refine iteNT ?_
      refine ⟨_, rfl, _, rfl, rfl, _, rfl, ?_⟩
      refine iteNS rfl ?_
      -- the spots
      have hp5 := hp.same s05
      refine ⟨_, rfl, _, rfl, p, l, T, a, so, ps, rfl, hp5, by omega, Same.wisp s05 hw, gd, fun H6 o6 ns6 hp6 k6 no6 e6 hn6 hl6 => ?_⟩
      refine ⟨_, rfl, _, rfl, _, _, rfl, rfl, _, rfl, _, rfl, p, l, T + 10, rfl, hp6, by omega, fun gr H7 g0 g1 hp7 k7 => ?_⟩
      refine ⟨_, _, rfl, rfl, _, _, rfl, rfl, ⟨by decide, by decide, by decide⟩, (by show 4 ≤ sizeLine; decide), fun y ny => ?_⟩
      have hl0 : 0 ≤ longs ps := longs_nonneg hg2
      obtain ⟨ns7, e7⟩ : ∃ ns7 : List Int, ns7 = [longs ps, longs ps + 1, longs ps + gr, 10 ^ (39 : Int).toNat] := ⟨_, rfl⟩
      have h7 : ∀ n ∈ ns7, (0 : Int) ≤ n := by
        rw [e7]
        intro n hn
        simp only [List.mem_cons, List.not_mem_nil, or_false] at hn
        rcases hn with rfl | rfl | rfl | rfl
        · exact hl0
        · omega
        · omega
        · decide
      have l7 : ns7.length = 4 := by
        rw [e7]
        rfl
      obtain ⟨n6p, n6l⟩ := hp5.fresh no6
      have e67 : H7 o6 = some (.lst (ns6.map V.int)) := k7 _ _ n6p n6l e6
      refine ⟨o6, y, ns6.map V.int, ns7.map V.int, rfl, rfl, ?_, ?_, ?_, fun Y nY => ?_⟩
      · rw [upd_ne (ne_of_none e67 ny)]
        exact e67
      · rw [upd_same, e7]
        rfl
      · rw [List.length_map, List.length_map, l7]
        exact Nat.le_of_lt (small1000 (by omega))
      have eY : ns6.map V.int ++ ns7.map V.int = (ns6 ++ ns7).map V.int := by rw [List.map_append]
      rw [eY]
      have hall : ∀ n ∈ ns6 ++ ns7, (0 : Int) ≤ n := fun n hn => by
        rcases List.mem_append.mp hn with h | h
        · exact hn6 n h
        · exact h7 n h
      generalize hG : ns6 ++ ns7 = ns8 at hall
      clear eY
      have hpY := (hp7.new ny).new (a := Y) (o := .lst (ns8.map V.int)) nY
      have kY : Keep p l H _ := ((((Same.keep s05).trans k6).trans k7).new ny).new (a := Y) (o := .lst (ns8.map V.int)) nY
      have nYp := ((hp7.new ny).fresh nY).1
      have nYl := ((hp7.new ny).fresh nY).2
      have eY8 : upd (upd H7 y (.lst (ns7.map V.int))) Y (.lst (ns8.map V.int)) Y = some (.lst (ns8.map V.int)) := upd_same
      rw [e7] at eY8
      have eY8 : upd (upd H7 y (.lst [.int (longs ps), .int (longs ps + 1), .int (longs ps + gr), .int (10 ^ (39 : Int).toNat)])) Y (.lst (ns8.map V.int)) Y = some (.lst (ns8.map V.int)) := eY8
      generalize upd (upd H7 y _) Y (.lst (ns8.map V.int)) = H8 at hpY kY eY8
      have hw8 : WispAt H8 a so ps := hw.keep kY hp
      refine ⟨Y, rfl, ⟨_, SqL.of eY8⟩, for_list (xs := ns8.map V.int) (fun i σ' H' => ∃ (x7 x8 : Option V), σ' = [some (.ref p), some (.ref a), some (.bl small), some (.int (longs ps)), some (.int (weigh ps)), some (.int (longs ps)), some (.int (weigh ps)), x7, x8, none, none, none] ∧ Same H8 H') ⟨_, _, rfl, Same.refl H8⟩ (fun i σ' H' hi hm => ?_) (fun i x σ' H' hx hm => ?_) (fun σ' H' hm => ?_)⟩
      · obtain ⟨x7, x8, rfl, sm8⟩ := hm
        exact SqL.of (sm8 _ _ eY8)
      · obtain ⟨x7, x8, rfl, sm8⟩ := hm
        obtain ⟨kk, rfl, hk⟩ : ∃ kk : Int, x = .int kk ∧ 0 ≤ kk := by
          rw [List.getElem?_map] at hx
          cases hq : ns8[i]? with
          | none =>
            rw [hq] at hx
            cases hx
          | some kk =>
            rw [hq] at hx
            exact ⟨kk, (Option.some.inj hx).symm, hall kk (List.mem_of_getElem? hq)⟩
        have hw9 := Same.wisp sm8 hw8
        refine ⟨_, rfl, _, rfl, a, so, ps, kk, rfl, hw9, ?_⟩
        refine ⟨_, rfl, _, rfl, true, rfl, ?_⟩
        refine iteNT ?_
        refine ⟨_, rfl, _, rfl, _, rfl, a, so, ps, kk, rfl, hw9, gd, hk, fun H10 s10 => ?_⟩
        refine ⟨rfl, _, rfl, ?_⟩
        refine iteNS rfl ?_
        exact ⟨_, _, rfl, sm8.trans s10⟩
      · obtain ⟨x7, x8, rfl, sm8⟩ := hm
        have hw9 := Same.wisp sm8 hw8
        have hpE := hpY.same sm8
        have kE : Keep p l H H' := kY.trans (Same.keep sm8)
        refine ⟨_, rfl, small, rfl, _, rfl, ?_⟩
        cases small with
        | false => exact iteT (q _ hpE kE)
        | true =>
          refine iteF ?_
          have hs3 := longs_small (hsm rfl)
          have hs4 := gd.2.1
          refine ⟨_, rfl, _, _, rfl, rfl, longs ps + 2, rfl, by omega, by omega, fun D nD => ?_⟩
          refine lc_range (n := (longs ps + 2).toNat) (fun i H2 => Same H' H2 ∧ H2 D = some (.lst (((List.range i).map fun (j : Nat) => thickAt ps (j : Int)).map V.int))) ⟨same_new (Same.refl H') nD, upd_same⟩ (fun i H2 hi hm => ?_) (fun H2 hm => ?_)
          · obtain ⟨s2, eD⟩ := hm
            refine ⟨rfl, yesIte ?_⟩
            refine ⟨_, rfl, _, rfl, a, so, ps, _, rfl, Same.wisp s2 hw9, _, eD, ?_, same_mine s2 nD, ?_⟩
            · rw [List.length_map, List.length_map, List.length_range]
              exact small1000 (by omega)
            · rw [upd_same, List.range_succ, List.map_append, List.map_append, Int.zero_add]
              rfl
          · obtain ⟨s2, eD⟩ := hm
            refine ⟨D, _, rfl, SqL.of eD, _, rfl, rfl, ?_⟩
            have hst : ((List.range (longs ps + 2).toNat).map fun (j : Nat) => thickAt ps (j : Int)).sum = weigh ps := sumTo_thick ps _ hg2 (by omega)
            rw [hst, decide_eq_true rfl]
            exact q _ (hpE.same s2) (kE.trans (Same.keep s2))
theorem ok_law {fP fD fW fR fG f : Addr} {fdP fdD fdW fdR fdG fd : FuncData} (F : Fun K "law" "law" s_law f fd) (bi : Bi mg)
    (C__law_pot : Cal P w K mg base "_law_pot" P__law_pot 1 (spPot K) fP fdP) (C__law_draw : Cal P w K mg base "_law_draw" P__law_draw 2 spDraw fD fdD) (C__law_wisp : Cal P w K mg base "_law_wisp" P__law_wisp 4 spWisp fW fdW) (C__law_right : Cal P w K mg base "_law_right" P__law_right 4 spRight fR fdR) (C__law_great : Cal P w K mg base "_law_great" P__law_great 3 spGreat fG fdG) : FnOk P w K mg base CX0 5 f fd P_law (spLaw K) := by
  refine F.ok sc_law (fun vs H Q E h => ?_) (fun cdv A outer s H vs Q E hr h => ?_)
  · obtain ⟨a, ns, rfl, _⟩ := h
    rfl
  · obtain ⟨a, ns, rfl, hS, hn, q⟩ := h
    refine ⟨_, (pss_cons (ps_set (i := 1) sc_law.nd rfl (.inl rfl) (pe_call (C__law_pot.G.mono (by decide)) hr (by rfl) C__law_pot.g C__law_pot.kp C__law_pot.b .nil pass0 (pa_cons (pv 0) pa_nil)))
    (pss_cons (ps_for PassesOwn.never rfl (pi_range1 rfl bi.m_range (pa_cons (pe_callB (call_max2 rfl) (by rfl) bi.m_max (by decide +kernel) (pa_cons pe_int (pa_cons (pe_callB (call_min2 rfl) (by rfl) bi.m_min (by decide +kernel) (pa_cons pe_int (pa_cons (pe_op op_fdiv (pe_callB call_len_seq (by rfl) bi.m_len (by decide +kernel) (pa_cons (pv 0) pa_nil)) pe_int) pa_nil))) pa_nil))) pa_nil)) (pg_name (i := 2) sc_law.nd rfl (.inl rfl))
      (pss_cons (ps_set (i := 3) sc_law.nd rfl (.inl rfl) (pe_cmpR op_eq (pe_call (C__law_draw.G.mono (by decide)) hr (by rfl) C__law_draw.g C__law_draw.kp C__law_draw.b .nil pass0 (pa_cons (pv 1) (pa_cons pe_int pa_nil))) pe_int (nomark _)))
        (pss_cons (ps_set (i := 4) sc_law.nd rfl (.inl rfl) (pe_lst (pa_cons (pe_call (C__law_wisp.G.mono (by decide)) hr (by rfl) C__law_wisp.g C__law_wisp.kp C__law_wisp.b .nil pass0 (pa_cons (pv 1) (pa_cons pe_int (pa_cons (pv 3) pa_nil)))) (pa_cons (pe_call (C__law_wisp.G.mono (by decide)) hr (by rfl) C__law_wisp.g C__law_wisp.kp C__law_wisp.b .nil pass0 (pa_cons (pv 1) (pa_cons pe_int (pa_cons (pv 3) pa_nil)))) pa_nil))))
        (C8.pss_cut (ps_if (pw_and (pt_not (pt_val (pv 3))) (pw_and1 (pt_cmpR op_eq (pe_call (C__law_draw.G.mono (by decide)) hr (by rfl) C__law_draw.g C__law_draw.kp C__law_draw.b .nil pass0 (pa_cons (pv 1) (pa_cons pe_int pa_nil))) pe_int (nomark _)))).pt
          (pss_one (ps_asg (pe_tup (pa_cons pe_int (pa_cons (pe_tup (pa_cons (pe_tup (pa_cons (pe_op op_sub (pe_op op_pow pe_int pe_int) pe_int) (pa_cons (pe_op op_sub (pe_op op_pow pe_int pe_int) pe_int) pa_nil))) (pa_cons (pe_tup (pa_cons (pe_op op_sub (pe_op op_sub (pe_op op_pow pe_int pe_int) pe_int) (pe_call (C__law_great.G.mono (by decide)) hr (by rfl) C__law_great.g C__law_great.kp C__law_great.b .nil pass0 (pa_cons (pv 1) pa_nil))) (pa_cons (pe_op op_sub (pe_op op_pow pe_int pe_int) pe_int) pa_nil))) pa_nil))) pa_nil))) (pg_sub (pv 4) pe_int set_list)))
          pss_nil)
        (pss_one (ps_for PassesOwn.never rfl (pi_list (pv 4)) (pg_name (i := 5) sc_law.nd rfl (.inl rfl))
          (pss_one (ps_if (pt_not (pt_val (pe_call (C__law_right.G.mono (by decide)) hr (by rfl) C__law_right.g C__law_right.kp C__law_right.b .nil pass0 (pa_cons (pv 1) (pa_cons (pv 5) (pa_cons (pv 3) pa_nil))))))
              (pss_one (ps_ret pe_bl))
              pss_nil))))))))
    (pss_one (ps_ret pe_bl)))), ?_⟩
    refine ⟨_, rfl, a, ns, rfl, hS, hn, fun H1 p l s1 np nl hp => ?_⟩
    have hS1 : SqL K H1 a (ns.map V.int) := s1.seq hS
    refine ⟨_, rfl, a, _, rfl, .inl hS1, _, _, rfl, rfl, ⟨by decide, by decide⟩, _, _, rfl, _, _, rfl, _, rfl, ?_, ?_, ?_⟩
    · rw [List.length_map]
      split <;> split <;> omega
    · rw [List.length_map]
      split <;> split <;> omega
    have hq : ∀ b : Int, 0 < b → b ≤ 1000 → CDivW 0 b := fun b h0 h1 => wide_div (b := 10) h0 (by omega) (by decide) (by decide)
    generalize hN : Int.toNat _ = N
    have hN8 : N ≤ 8 := by
      rw [← hN, List.length_map]
      split <;> split <;> omega
    clear hN
    refine for_range (n := N) (fun i σ' H' => ∃ (x2 x3 x4 x5 : Option V), σ' = [some (.ref a), some (.ref p), x2, x3, x4, x5] ∧ Pot H' p l (400 * i)) ⟨_, _, _, _, rfl, hp⟩ (fun i σ' H' hi hm => ?_) (fun σ' H' hm => ?_)
    · obtain ⟨x2, x3, x4, x5, rfl, hpi⟩ := hm
      refine ⟨_, rfl, p, l, 400 * i, 2, rfl, hpi, by omega, hq _ (by omega) (by omega), fun d H2 d0 d1 hp2 k2 => ?_⟩
      refine ⟨rfl, ?_⟩
      generalize decide (V.int d = V.int 0) = small
      refine ⟨_, rfl, _, rfl, p, l, 400 * i + 1, 8, small, rfl, hp2, by omega, by decide, by decide, fun H3 a1 so1 ps1 hp3 k3 w1 _ _ g1 _ _ m1 na1 => ?_⟩
      refine ⟨_, rfl, _, rfl, p, l, 400 * i + 1 + 150, 8, small, rfl, hp3, by omega, by decide, by decide, fun H4 a2 so2 ps2 hp4 k4 w2 _ _ g2 _ _ m2 na2 => ?_⟩
      refine ⟨(by show 2 ≤ sizeLine; decide), fun Wl nW => ?_⟩
      obtain ⟨nWp, nWl⟩ := hp4.fresh nW
      have w1' : WispAt (upd H4 Wl (.lst [.ref a1, .ref a2])) a1 so1 ps1 := (w1.keep k4 hp3).mono (Tups.new nW)
      have w2' : WispAt (upd H4 Wl (.lst [.ref a1, .ref a2])) a2 so2 ps2 := w2.mono (Tups.new nW)
      have hp5 := hp4.new (a := Wl) (o := .lst [.ref a1, .ref a2]) nW
      have eW : upd H4 Wl (.lst [.ref a1, .ref a2]) Wl = some (.lst [.ref a1, .ref a2]) := upd_same
      refine ⟨fun σ' H' => ∃ (x2 x5 : Option V) (b1 b2 : Addr) (t1 t2 : Int) (q1 q2 : List (Int × Int)), σ' = [some (.ref a), some (.ref p), x2, some (.bl small), some (.ref Wl), x5] ∧ Pot H' p l (400 * i + 320) ∧ H' Wl = some (.lst [.ref b1, .ref b2]) ∧ WispAt H' b1 t1 q1 ∧ WispAt H' b2 t2 q2 ∧ Good q1 ∧ Good q2 ∧ (small = true → Small q1) ∧ (small = true → Small q2), ?_, fun σ' H' hm => ?_⟩
      · refine ⟨_, rfl, small, rfl, ?_⟩
        cases small with
        | true => exact iteF ⟨_, _, a1, a2, so1, so2, ps1, ps2, rfl, hp5.mono (by omega), eW, w1', w2', g1, g2, m1, m2⟩
        | false =>
          refine iteT ?_
          refine ⟨_, rfl, p, l, 400 * i + 1 + 150 + 150, 2, rfl, hp5, by omega, hq _ (by omega) (by omega), fun d2 H6 e0 e1 hp6 k6 => ?_⟩
          have eW6 : H6 Wl = some (.lst [.ref a1, .ref a2]) := k6 _ _ nWp nWl eW
          refine ⟨rfl, _, rfl, ite2 (fun e => ?_) (fun e => ?_)⟩
          · have w1x := w1'.keep k6 hp5
            refine ⟨_, _, rfl, rfl, ⟨by decide, by decide, by decide⟩, _, _, rfl, rfl, _, _, rfl, rfl, ⟨by decide, by decide, by decide⟩, _, _, rfl, rfl, (by show 2 ≤ sizeLine; decide), fun u1 n1 => ?_⟩
            have hpu1 := hp6.new (a := u1) (o := .tup [.int (10 ^ (40 : Int).toNat - 1), .int (10 ^ (39 : Int).toNat - 1)]) n1
            refine ⟨_, _, rfl, rfl, ⟨by decide, by decide, by decide⟩, _, _, rfl, rfl, _, rfl, p, l, 400 * i + 1 + 150 + 150 + 1, rfl, hpu1, by omega, fun gr H7 gr0 gr1 hp7 k7 => ?_⟩
            refine ⟨_, _, rfl, rfl, _, _, rfl, rfl, ⟨by decide, by decide, by decide⟩, _, _, rfl, rfl, (by show 2 ≤ sizeLine; decide), fun u2 n2 => ?_⟩
            refine ⟨(by show 2 ≤ sizeLine; decide), fun u3 n3 => ⟨(by show 2 ≤ sizeLine; decide), fun u4 n4 => ?_⟩⟩
            have eu1 : H7 u1 = some (.tup [.int (10 ^ (40 : Int).toNat - 1), .int (10 ^ (39 : Int).toNat - 1)]) := k7.tups hpu1 _ _ upd_same
            have eW7 : H7 Wl = some (.lst [.ref a1, .ref a2]) := k7 _ _ nWp nWl (by rw [upd_ne (ne_of_none eW6 n1)]; exact eW6)
            have T2 := Tups.new (o := .tup [.int (10 ^ (40 : Int).toNat - 2 - gr), .int (10 ^ (39 : Int).toNat - 1)]) n2
            have T3 := Tups.new (o := .tup [.ref u1, .ref u2]) n3
            have T4 := Tups.new (o := .tup [.int 1, .ref u3]) n4
            have eW8 : upd (upd (upd H7 u2 (.tup [.int (10 ^ (40 : Int).toNat - 2 - gr), .int (10 ^ (39 : Int).toNat - 1)])) u3 (.tup [.ref u1, .ref u2])) u4 (.tup [.int 1, .ref u3]) Wl = some (.lst [.ref a1, .ref a2]) := by
              have x1 := same_new (Same.refl H7) (o := .tup [.int (10 ^ (40 : Int).toNat - 2 - gr), .int (10 ^ (39 : Int).toNat - 1)]) n2
              have x2 := same_new x1 (o := .tup [.ref u1, .ref u2]) n3
              exact same_new x2 n4 _ _ eW7
            have hp8 := ((hp7.new n2).new n3).new (o := .tup [.int 1, .ref u3]) n4
            have wN : WispAt (upd (upd (upd H7 u2 (.tup [.int (10 ^ (40 : Int).toNat - 2 - gr), .int (10 ^ (39 : Int).toNat - 1)])) u3 (.tup [.ref u1, .ref u2])) u4 (.tup [.int 1, .ref u3])) u4 1 [(10 ^ (40 : Int).toNat - 1, 10 ^ (39 : Int).toNat - 1), (10 ^ (40 : Int).toNat - 2 - gr, 10 ^ (39 : Int).toNat - 1)] := by
              refine ⟨u3, [u1, u2], upd_same, T4 _ _ upd_same, ?_⟩
              exact (TupsAt.nil.cons (T4 _ _ (T3 _ _ upd_same))).cons (T4 _ _ (T3 _ _ (T2 _ _ eu1)))
            have gN : Good [(10 ^ (40 : Int).toNat - 1, 10 ^ (39 : Int).toNat - 1), (10 ^ (40 : Int).toNat - 2 - gr, 10 ^ (39 : Int).toNat - 1)] := by
              refine ⟨(by show 1 ≤ 2; decide), (by show 2 ≤ 10; decide), fun x hx => ?_⟩
              have h1 : (10 : Int) ^ (40 : Int).toNat = 10000000000000000000000000000000000000000 := by decide
              have h2 : (10 : Int) ^ (39 : Int).toNat = 1000000000000000000000000000000000000000 := by decide
              rw [h1, h2] at hx
              have h3 : (2 : Int) ^ 122 < 6000000000000000000000000000000000000 := by decide
              have h4 : (10000000000000000000000000000000000000000 : Int) < 2 ^ 200 := by decide
              generalize (2 : Int) ^ 122 = y at h3 gr1
              generalize (2 : Int) ^ 200 = y' at h4 ⊢
              simp only [List.mem_cons, List.not_mem_nil, or_false] at hx
              rcases hx with rfl | rfl
              · exact ⟨by omega, by omega, by omega, by omega⟩
              · exact ⟨by show (1 : Int) ≤ _ - _ - gr; omega, by show _ - _ - gr < _; omega, by omega, by omega⟩
            refine ⟨_, rfl, Wl, _, 1, 1, rfl, rfl, eW8, rfl, ?_⟩
            have TW := Tups.ls (o := .lst [.ref a1, .ref u4]) eW8
            refine ⟨_, _, a1, u4, so1, 1, ps1, _, rfl, (hp8.other nWp nWl).mono (by omega), upd_same, ?_, wN.mono TW, g1, gN, (fun h => by cases h), (fun h => by cases h)⟩
            exact ((((w1x.mono (Tups.new n1)).mono (k7.tups hpu1)).mono T2).mono T3 |>.mono T4).mono TW
          · exact ⟨_, _, a1, a2, so1, so2, ps1, ps2, rfl, hp6.mono (by omega), eW6, w1'.keep k6 hp5, w2'.keep k6 hp5, g1, g2, m1, m2⟩
      · obtain ⟨x2, x5, b1, b2, t1, t2, q1, q2, rfl, hp7, e7, w71, w72, g71, g72, m71, m72⟩ := hm
        refine ⟨_, rfl, Wl, rfl, ⟨_, SqL.of e7⟩, for_list (xs := [.ref b1, .ref b2]) (fun j σ' H' => ∃ (x2 x5 : Option V), σ' = [some (.ref a), some (.ref p), x2, some (.bl small), some (.ref Wl), x5] ∧ Pot H' p l (400 * i + 320 + 15 * j) ∧ H' Wl = some (.lst [.ref b1, .ref b2]) ∧ WispAt H' b1 t1 q1 ∧ WispAt H' b2 t2 q2) ⟨_, _, rfl, hp7, e7, w71, w72⟩ (fun j σ' H' hj hm => ?_) (fun j x σ' H' hx hm => ?_) (fun σ' H' hm => ?_)⟩
        · obtain ⟨x2, x5, rfl, hp8, e8, w81, w82⟩ := hm
          exact SqL.of e8
        · obtain ⟨x2, x5, rfl, hp8, e8, w81, w82⟩ := hm
          have hx2 : (j = 0 ∧ x = .ref b1) ∨ (j = 1 ∧ x = .ref b2) := by
            cases j with
            | zero => exact .inl ⟨rfl, (Option.some.inj hx).symm⟩
            | succ j =>
              cases j with
              | zero => exact .inr ⟨rfl, (Option.some.inj hx).symm⟩
              | succ j => simp at hx
          have key : ∃ b t qs, x = .ref b ∧ WispAt H' b t qs ∧ Good qs ∧ (small = true → Small qs) ∧ j ≤ 1 := by
            rcases hx2 with ⟨h1, h2⟩ | ⟨h1, h2⟩
            · exact ⟨b1, t1, q1, h2, w81, g71, m71, by omega⟩
            · exact ⟨b2, t2, q2, h2, w82, g72, m72, by omega⟩
          obtain ⟨b, t, qs, rfl, hwb, hgb, hmb, hj1⟩ := key
          refine ⟨_, rfl, _, rfl, _, rfl, p, l, 400 * i + 320 + 15 * j, b, t, qs, small, rfl, hp8, by omega, hwb, hgb, hmb, fun H9 hp9 k9 => ?_⟩
          refine ⟨true, rfl, ?_⟩
          refine iteNT ?_
          exact ⟨_, _, rfl, hp9, k9 _ _ nWp nWl e8, w81.keep k9 hp8, w82.keep k9 hp8⟩
        · obtain ⟨x2, x5, rfl, hp8, e8, w81, w82⟩ := hm
          exact ⟨_, _, _, _, rfl, hp8.mono (by show 400 * i + 320 + 15 * 2 ≤ 400 * (i + 1); omega)⟩
    · exact q _
end
theorem all_mk {l : PySem.W.OpenLaw} {w : World} {K : PySem.W.Frag} {h : Heap} {mg : Str → Option Value} {fa f1 f2 f3 f4 f5 f6 f7 f8 f9 f10 f11 f12 f13 f14 : Addr} (X : K.In h) (G : h.Ns mainGlobals mg) (hfa : mg "law" = some (.ref fa))
    {od1 an1 od2 an2 od3 an3 od4 an4 od5 an5 od6 an6 od7 an7 od8 an8 od9 an9 od10 an10 od11 an11 od12 an12 od13 an13 od14 an14 : Option Addr} {sl1 sl2 sl3 sl4 sl5 sl6 sl7 sl8 sl9 sl10 sl11 sl12 sl13 sl14 : Array (Option Value)} {oc1 kV1 dc1 pm1 cd1 ct1 oc2 kV2 dc2 pm2 cd2 ct2 oc3 kV3 dc3 pm3 cd3 ct3 oc4 kV4 dc4 pm4 cd4 ct4 oc5 kV5 dc5 pm5 cd5 ct5 oc6 kV6 dc6 pm6 cd6 ct6 oc7 kV7 dc7 pm7 cd7 ct7 oc8 kV8 dc8 pm8 cd8 ct8 oc9 kV9 dc9 pm9 cd9 ct9 oc10 kV10 dc10 pm10 cd10 ct10 oc11 kV11 dc11 pm11 cd11 ct11 oc12 kV12 dc12 pm12 cd12 ct12 oc13 kV13 dc13 pm13 cd13 ct13 oc14 kV14 dc14 pm14 cd14 ct14 : Value}
    (a1 : PySem.W.nsIn K mainGlobals "length_of" = some (some (.ref f1))) (l1 : K.lookup f1 = some ⟨oc1, od1, .func (PySem.W.fnOf "length_of" "length_of" (defArgs s_length_of) (defBody s_length_of) (defScope s_length_of) .none kV1 dc1 pm1 an1 cd1 ct1), sl1⟩) (c1 : PySem.W.codeIn K cd1 "length_of" = true) (k1 : PySem.W.keepIn K (.ref f1) = true)
    (a2 : PySem.W.nsIn K mainGlobals "weight_of" = some (some (.ref f2))) (l2 : K.lookup f2 = some ⟨oc2, od2, .func (PySem.W.fnOf "weight_of" "weight_of" (defArgs s_weight_of) (defBody s_weight_of) (defScope s_weight_of) .none kV2 dc2 pm2 an2 cd2 ct2), sl2⟩) (c2 : PySem.W.codeIn K cd2 "weight_of" = true) (k2 : PySem.W.keepIn K (.ref f2) = true)
    (a3 : PySem.W.nsIn K mainGlobals "thick_at" = some (some (.ref f3))) (l3 : K.lookup f3 = some ⟨oc3, od3, .func (PySem.W.fnOf "thick_at" "thick_at" (defArgs s_thick_at) (defBody s_thick_at) (defScope s_thick_at) .none kV3 dc3 pm3 an3 cd3 ct3), sl3⟩) (c3 : PySem.W.codeIn K cd3 "thick_at" = true) (k3 : PySem.W.keepIn K (.ref f3) = true)
    (a4 : PySem.W.nsIn K mainGlobals "_law_blend" = some (some (.ref f4))) (l4 : K.lookup f4 = some ⟨oc4, od4, .func (PySem.W.fnOf "_law_blend" "_law_blend" (defArgs s__law_blend) (defBody s__law_blend) (defScope s__law_blend) .none kV4 dc4 pm4 an4 cd4 ct4), sl4⟩) (c4 : PySem.W.codeIn K cd4 "_law_blend" = true) (k4 : PySem.W.keepIn K (.ref f4) = true)
    (a5 : PySem.W.nsIn K mainGlobals "_law_pot" = some (some (.ref f5))) (l5 : K.lookup f5 = some ⟨oc5, od5, .func (PySem.W.fnOf "_law_pot" "_law_pot" (defArgs s__law_pot) (defBody s__law_pot) (defScope s__law_pot) .none kV5 dc5 pm5 an5 cd5 ct5), sl5⟩) (c5 : PySem.W.codeIn K cd5 "_law_pot" = true) (k5 : PySem.W.keepIn K (.ref f5) = true)
    (a6 : PySem.W.nsIn K mainGlobals "_law_draw" = some (some (.ref f6))) (l6 : K.lookup f6 = some ⟨oc6, od6, .func (PySem.W.fnOf "_law_draw" "_law_draw" (defArgs s__law_draw) (defBody s__law_draw) (defScope s__law_draw) .none kV6 dc6 pm6 an6 cd6 ct6), sl6⟩) (c6 : PySem.W.codeIn K cd6 "_law_draw" = true) (k6 : PySem.W.keepIn K (.ref f6) = true)
    (a7 : PySem.W.nsIn K mainGlobals "_law_great" = some (some (.ref f7))) (l7 : K.lookup f7 = some ⟨oc7, od7, .func (PySem.W.fnOf "_law_great" "_law_great" (defArgs s__law_great) (defBody s__law_great) (defScope s__law_great) .none kV7 dc7 pm7 an7 cd7 ct7), sl7⟩) (c7 : PySem.W.codeIn K cd7 "_law_great" = true) (k7 : PySem.W.keepIn K (.ref f7) = true)
    (a8 : PySem.W.nsIn K mainGlobals "_law_wisp" = some (some (.ref f8))) (l8 : K.lookup f8 = some ⟨oc8, od8, .func (PySem.W.fnOf "_law_wisp" "_law_wisp" (defArgs s__law_wisp) (defBody s__law_wisp) (defScope s__law_wisp) .none kV8 dc8 pm8 an8 cd8 ct8), sl8⟩) (c8 : PySem.W.codeIn K cd8 "_law_wisp" = true) (k8 : PySem.W.keepIn K (.ref f8) = true)
    (a9 : PySem.W.nsIn K mainGlobals "_law_whole" = some (some (.ref f9))) (l9 : K.lookup f9 = some ⟨oc9, od9, .func (PySem.W.fnOf "_law_whole" "_law_whole" (defArgs s__law_whole) (defBody s__law_whole) (defScope s__law_whole) .none kV9 dc9 pm9 an9 cd9 ct9), sl9⟩) (c9 : PySem.W.codeIn K cd9 "_law_whole" = true) (k9 : PySem.W.keepIn K (.ref f9) = true)
    (a10 : PySem.W.nsIn K mainGlobals "_law_table" = some (some (.ref f10))) (l10 : K.lookup f10 = some ⟨oc10, od10, .func (PySem.W.fnOf "_law_table" "_law_table" (defArgs s__law_table) (defBody s__law_table) (defScope s__law_table) .none kV10 dc10 pm10 an10 cd10 ct10), sl10⟩) (c10 : PySem.W.codeIn K cd10 "_law_table" = true) (k10 : PySem.W.keepIn K (.ref f10) = true)
    (a11 : PySem.W.nsIn K mainGlobals "_law_spots" = some (some (.ref f11))) (l11 : K.lookup f11 = some ⟨oc11, od11, .func (PySem.W.fnOf "_law_spots" "_law_spots" (defArgs s__law_spots) (defBody s__law_spots) (defScope s__law_spots) .none kV11 dc11 pm11 an11 cd11 ct11), sl11⟩) (c11 : PySem.W.codeIn K cd11 "_law_spots" = true) (k11 : PySem.W.keepIn K (.ref f11) = true)
    (a12 : PySem.W.nsIn K mainGlobals "_law_strong" = some (some (.ref f12))) (l12 : K.lookup f12 = some ⟨oc12, od12, .func (PySem.W.fnOf "_law_strong" "_law_strong" (defArgs s__law_strong) (defBody s__law_strong) (defScope s__law_strong) .none kV12 dc12 pm12 an12 cd12 ct12), sl12⟩) (c12 : PySem.W.codeIn K cd12 "_law_strong" = true) (k12 : PySem.W.keepIn K (.ref f12) = true)
    (a13 : PySem.W.nsIn K mainGlobals "_law_right" = some (some (.ref f13))) (l13 : K.lookup f13 = some ⟨oc13, od13, .func (PySem.W.fnOf "_law_right" "_law_right" (defArgs s__law_right) (defBody s__law_right) (defScope s__law_right) .none kV13 dc13 pm13 an13 cd13 ct13), sl13⟩) (c13 : PySem.W.codeIn K cd13 "_law_right" = true) (k13 : PySem.W.keepIn K (.ref f13) = true)
    (a14 : PySem.W.nsIn K mainGlobals "law" = some (some (.ref f14))) (l14 : K.lookup f14 = some ⟨oc14, od14, .func (PySem.W.fnOf "law" "law" (defArgs s_law) (defBody s_law) (defScope s_law) .none kV14 dc14 pm14 an14 cd14 ct14), sl14⟩) (c14 : PySem.W.codeIn K cd14 "law" = true) (k14 : PySem.W.keepIn K (.ref f14) = true)
    (z1 : PySem.W.nsIn K mainGlobals "len" = some none)
    (z2 : PySem.W.nsIn K mainGlobals "sum" = some none)
    (z3 : PySem.W.nsIn K mainGlobals "abs" = some none)
    (z4 : PySem.W.nsIn K mainGlobals "isinstance" = some none)
    (z5 : PySem.W.nsIn K mainGlobals "max" = some none)
    (z6 : PySem.W.nsIn K mainGlobals "min" = some none)
    (z7 : PySem.W.nsIn K mainGlobals "tuple" = some none)
    (z8 : PySem.W.nsIn K mainGlobals "list" = some none)
    (z9 : PySem.W.nsIn K mainGlobals "int" = some none)
    (z10 : PySem.W.nsIn K mainGlobals "bool" = some none)
    (z11 : PySem.W.nsIn K mainGlobals "range" = some none)
    (z12 : PySem.W.nsIn K mainGlobals "enumerate" = some none) :
    ∃ fd : FuncData, (∀ (s : Shared) (v : Value), BindsTo s fd ⟨[v], []⟩ [("_law_script", v)]) ∧ ∀ base : Heap, K.In base → base.Ns mainGlobals mg → FnOk l.prog w K mg base CX0 5 fa fd P_law (spLaw K) := by
  have e := hfa.symm.trans (PySem.W.mg_of X G a14)
  cases e
  have F1 := fun_mk (st := s_length_of) l1 c1 k1
  have F2 := fun_mk (st := s_weight_of) l2 c2 k2
  have F3 := fun_mk (st := s_thick_at) l3 c3 k3
  have F4 := fun_mk (st := s__law_blend) l4 c4 k4
  have F5 := fun_mk (st := s__law_pot) l5 c5 k5
  have F6 := fun_mk (st := s__law_draw) l6 c6 k6
  have F7 := fun_mk (st := s__law_great) l7 c7 k7
  have F8 := fun_mk (st := s__law_wisp) l8 c8 k8
  have F9 := fun_mk (st := s__law_whole) l9 c9 k9
  have F10 := fun_mk (st := s__law_table) l10 c10 k10
  have F11 := fun_mk (st := s__law_spots) l11 c11 k11
  have F12 := fun_mk (st := s__law_strong) l12 c12 k12
  have F13 := fun_mk (st := s__law_right) l13 c13 k13
  have F14 := fun_mk (st := s_law) l14 c14 k14
  have bi : Bi mg := ⟨PySem.W.mg_none_of X G z1, PySem.W.mg_none_of X G z2, PySem.W.mg_none_of X G z3, PySem.W.mg_none_of X G z4, PySem.W.mg_none_of X G z5, PySem.W.mg_none_of X G z6, PySem.W.mg_none_of X G z7, PySem.W.mg_none_of X G z8, PySem.W.mg_none_of X G z9, PySem.W.mg_none_of X G z10, PySem.W.mg_none_of X G z11, PySem.W.mg_none_of X G z12⟩
  refine ⟨PySem.W.fnOf "law" "law" (defArgs s_law) (defBody s_law) (defScope s_law) .none kV14 dc14 pm14 an14 cd14 ct14, fun s v => .of_eq rfl, fun base _ _ => ?_⟩
  have C_length_of : Cal l.prog w K mg base "length_of" P_length_of 1 spLen f1 _ := ⟨ok_length_of F1 bi, PySem.W.mg_of X G a1, F1.kp, F1.binds (ps := P_length_of) fun _ _ _ _ _ _ us hl => match us, hl with | [_], _ => rfl⟩
  have C_weight_of : Cal l.prog w K mg base "weight_of" P_weight_of 1 spWeight f2 _ := ⟨ok_weight_of F2 bi, PySem.W.mg_of X G a2, F2.kp, F2.binds (ps := P_weight_of) fun _ _ _ _ _ _ us hl => match us, hl with | [_], _ => rfl⟩
  have C_thick_at : Cal l.prog w K mg base "thick_at" P_thick_at 1 spThick f3 _ := ⟨ok_thick_at F3 bi, PySem.W.mg_of X G a3, F3.kp, F3.binds (ps := P_thick_at) fun _ _ _ _ _ _ us hl => match us, hl with | [_, _], _ => rfl⟩
  have C__law_blend : Cal l.prog w K mg base "_law_blend" P__law_blend 1 spBlend f4 _ := ⟨ok__law_blend F4, PySem.W.mg_of X G a4, F4.kp, F4.binds (ps := P__law_blend) fun _ _ _ _ _ _ us hl => match us, hl with | [_, _], _ => rfl⟩
  have C__law_pot : Cal l.prog w K mg base "_law_pot" P__law_pot 1 (spPot K) f5 _ := ⟨ok__law_pot F5 bi, PySem.W.mg_of X G a5, F5.kp, F5.binds (ps := P__law_pot) fun _ _ _ _ _ _ us hl => match us, hl with | [_], _ => rfl⟩
  have C__law_draw : Cal l.prog w K mg base "_law_draw" P__law_draw 2 spDraw f6 _ := ⟨ok__law_draw F6 bi C__law_blend, PySem.W.mg_of X G a6, F6.kp, F6.binds (ps := P__law_draw) fun _ _ _ _ _ _ us hl => match us, hl with | [_, _], _ => rfl⟩
  have C__law_great : Cal l.prog w K mg base "_law_great" P__law_great 3 spGreat f7 _ := ⟨ok__law_great F7 bi C__law_draw, PySem.W.mg_of X G a7, F7.kp, F7.binds (ps := P__law_great) fun _ _ _ _ _ _ us hl => match us, hl with | [_], _ => rfl⟩
  have C__law_wisp : Cal l.prog w K mg base "_law_wisp" P__law_wisp 4 spWisp f8 _ := ⟨ok__law_wisp F8 bi C__law_draw C__law_great, PySem.W.mg_of X G a8, F8.kp, F8.binds (ps := P__law_wisp) fun _ _ _ _ _ _ us hl => match us, hl with | [_, _, _], _ => rfl⟩
  have C__law_whole : Cal l.prog w K mg base "_law_whole" P__law_whole 1 spWhole f9 _ := ⟨ok__law_whole F9 bi, PySem.W.mg_of X G a9, F9.kp, F9.binds (ps := P__law_whole) fun _ _ _ _ _ _ us hl => match us, hl with | [_], _ => rfl⟩
  have C__law_table : Cal l.prog w K mg base "_law_table" P__law_table 1 spTable f10 _ := ⟨ok__law_table F10 bi, PySem.W.mg_of X G a10, F10.kp, F10.binds (ps := P__law_table) fun _ _ _ _ _ _ us hl => match us, hl with | [_], _ => rfl⟩
  have C__law_spots : Cal l.prog w K mg base "_law_spots" P__law_spots 3 spSpots f11 _ := ⟨ok__law_spots F11 bi C__law_table C__law_draw, PySem.W.mg_of X G a11, F11.kp, F11.binds (ps := P__law_spots) fun _ _ _ _ _ _ us hl => match us, hl with | [_, _], _ => rfl⟩
  have C__law_strong : Cal l.prog w K mg base "_law_strong" P__law_strong 2 spStrong f12 _ := ⟨ok__law_strong F12 bi C__law_table, PySem.W.mg_of X G a12, F12.kp, F12.binds (ps := P__law_strong) fun _ _ _ _ _ _ us hl => match us, hl with | [_, _], _ => rfl⟩
  have C__law_right : Cal l.prog w K mg base "_law_right" P__law_right 4 spRight f13 _ := ⟨ok__law_right F13 bi C_length_of C_weight_of C_thick_at C__law_whole C__law_table C__law_spots C__law_strong C__law_great, PySem.W.mg_of X G a13, F13.kp, F13.binds (ps := P__law_right) fun _ _ _ _ _ _ us hl => match us, hl with | [_, _, _], _ => rfl⟩
  exact ok_law F14 bi C__law_pot C__law_draw C__law_wisp C__law_right C__law_great
end My
open PySem PySem.W PyProof.Rows
set_option maxHeartbeats 0 in
theorem PySem.Challenge.cw_evenstrand_k02_lengths_and_thicknesses_holds : PySem.Challenge.rw_evenstrand_k02_lengths_and_thicknesses.Holds := by
  w_on; o_law; k_head; (case hw => w_witness2)
  k_fill
  refine L2.walk_of (l := PySem.Challenge.rw_evenstrand_k02_lengths_and_thicknesses) (n := 63) (k := 5) (x := "_law_script") (CX := fun _ => L2.CX0) (sp := fun w => My.spLaw _) rfl (by decide) rfl ⟨rfl, by decide, by decide⟩ (fun w h Y => PySem.W.kIn_of Y) ?F (fun _ _ a ns hl _ hS => ⟨a, ns, rfl, hS, hl, fun _ => rfl⟩) (fun _ _ _ _ _ h => h)
  case F =>
    intro w mg fa h KX G hmg
    refine' My.all_mk KX G hmg ?a1 ?l1 ?c1 ?k1 ?a2 ?l2 ?c2 ?k2 ?a3 ?l3 ?c3 ?k3 ?a4 ?l4 ?c4 ?k4 ?a5 ?l5 ?c5 ?k5 ?a6 ?l6 ?c6 ?k6 ?a7 ?l7 ?c7 ?k7 ?a8 ?l8 ?c8 ?k8 ?a9 ?l9 ?c9 ?k9 ?a10 ?l10 ?c10 ?k10 ?a11 ?l11 ?c11 ?k11 ?a12 ?l12 ?c12 ?k12 ?a13 ?l13 ?c13 ?k13 ?a14 ?l14 ?c14 ?k14 ?z1 ?z2 ?z3 ?z4 ?z5 ?z6 ?z7 ?z8 ?z9 ?z10 ?z11 ?z12
    (case a1 => k_is)
    (case l1 => k_is)
    (case c1 => k_is)
    (case k1 => k_is)
    (case a2 => k_is)
    (case l2 => k_is)
    (case c2 => k_is)
    (case k2 => k_is)
    (case a3 => k_is)
    (case l3 => k_is)
    (case c3 => k_is)
    (case k3 => k_is)
    (case a4 => k_is)
    (case l4 => k_is)
    (case c4 => k_is)
    (case k4 => k_is)
    (case a5 => k_is)
    (case l5 => k_is)
    (case c5 => k_is)
    (case k5 => k_is)
    (case a6 => k_is)
    (case l6 => k_is)
    (case c6 => k_is)
    (case k6 => k_is)
    (case a7 => k_is)
    (case l7 => k_is)
    (case c7 => k_is)
    (case k7 => k_is)
    (case a8 => k_is)
    (case l8 => k_is)
    (case c8 => k_is)
    (case k8 => k_is)
    (case a9 => k_is)
    (case l9 => k_is)
    (case c9 => k_is)
    (case k9 => k_is)
    (case a10 => k_is)
    (case l10 => k_is)
    (case c10 => k_is)
    (case k10 => k_is)
    (case a11 => k_is)
    (case l11 => k_is)
    (case c11 => k_is)
    (case k11 => k_is)
    (case a12 => k_is)
    (case l12 => k_is)
    (case c12 => k_is)
    (case k12 => k_is)
    (case a13 => k_is)
    (case l13 => k_is)
    (case c13 => k_is)
    (case k13 => k_is)
    (case a14 => k_is)
    (case l14 => k_is)
    (case c14 => k_is)
    (case k14 => k_is)
    (case z1 => k_is)
    (case z2 => k_is)
    (case z3 => k_is)
    (case z4 => k_is)
    (case z5 => k_is)
    (case z6 => k_is)
    (case z7 => k_is)
    (case z8 => k_is)
    (case z9 => k_is)
    (case z10 => k_is)
    (case z11 => k_is)
    (case z12 => k_is)
