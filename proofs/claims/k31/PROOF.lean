import PyProof.Rows.All
import Wide.All
import OpenK.AllK
import Wide.FinOn
import HandS.ForMost
import HandS.Wide
import HandS.IsInst
import HandS.More
import HandS.TupAny
import HandS.Codes
import HandS.Zip
import HandS.SortKw
import HandS.Walk
import KE.KMinKey
import PyProof.Rows.NestShow
import PyProof.ReprBulk
import PyProof.FitsInt
import HandS.SortInts
import HandS.Flow
import HandS.SetKeys
import HandS.NoneIn
import HandS.Style
import HandS.SetFor
import PyProof.LongRange
import PySem.Challenge.RW_evenstrand_k31_rows_blended
set_option Elab.async false
set_option linter.all false
set_option maxRecDepth 100000
set_option maxHeartbeats 4000000
namespace My
open PySem PySem.Spec PyProof.Rows L2
/-! ### defs that are called where no object is just being shown: there repr tells all of a thing -/
structure FnG (P : Program) (w : World) (K : PySem.W.Frag) (mg : Str → Option Value) (bs : Heap) (k : Nat) (f : Addr) (fd : FuncData) (ps : List Str) (sp : Sp) : Prop where
  long : ∀ us H Q E, sp us H Q E → us.length = ps.length
  goes : ∀ (B : Around) (ou : List Env) (t : Shared) (H : Hp) (ar : Args) (ws : List Value) (us : List V) (Q : VK) (E : XK), Room k B → B.guards = some [] → Env0 P w K mg bs B ou t H → BindsTo t fd ar (ps.zip ws) →
    Vals us ws → sp us H Q E → codeAny (model P w) B (.call (.ref f) ar) (CR CX0 ou P w H t Q E) t
section
variable {P : Program} {w : World} {K : PySem.W.Frag} {mg : Str → Option Value} {bs : Heap} {f : Addr} {fd : FuncData} {ps : List Str} {sp : Sp}
theorem FnG.up {j k : Nat} (F : FnG P w K mg bs j f fd ps sp) (h : j ≤ k) : FnG P w K mg bs k f fd ps sp := ⟨F.long, fun B ou t H ar ws us Q E r => F.goes B ou t H ar ws us Q E (r.mono h)⟩
theorem FnG.of {k : Nat} (F : FnOk P w K mg bs CX0 k f fd ps sp) : FnG P w K mg bs k f fd ps sp := ⟨F.len, fun B ou t H ar ws us Q E r _ => F.run B ou t H ar ws us Q E r⟩
/-- from the body's walk -/
theorem okG {x qual : Str} {st : Stmt} {N : List Str} {k : Nat} (F : Fun K x qual st f fd) (S : FnScope N ps (defScope st)) (ln : ∀ us H Q E, sp us H Q E → us.length = ps.length)
    (hb : ∀ (cv : Value) (B : Around) (ou : List Env) (t : Shared) (H : Hp) (us : List V) (Q : VK) (E : XK), Room k (B.deeper (envOfC qual (defScope st) t.heap.objs.size f cv)) → (B.deeper (envOfC qual (defScope st) t.heap.objs.size f cv)).guards = some [] → sp us H Q E →
      ∃ u, PSs (cxOf CX0 P w K mg bs N qual (defScope st) f cv B ou t H E).nox (defBody st) u ∧ u { nx := fun _ H' => Q .non H', rt := Q } (start N us) H) : FnG P w K mg bs (k + 1) f fd ps sp := by
  obtain ⟨oc, od, kV, dc, pm, an, cv, ct, sl, rfl, lk, hcv⟩ := F.ex
  refine ⟨ln, fun B ou t H ar ws us Q E r gd e0 bi va hs => ?_⟩
  have kin : K.In t.heap := e0.mod.kin.keeps fun b o e => (e0.bs b o e).1
  have nol : t.heap.NoLimit := e0.mod.nolimit.keeps fun b o e => (e0.bs b o e).1
  refine codeAny_call_function r.depth (kin _ _ lk) rfl S.co S.gen rfl (PySem.W.codeRec_of kin hcv) (bi _ _ _ _ (wpAny_newFunctionEnv_cells S.kind (fun ⟨y, v⟩ hy => ?_) fun en hen t1 z => ?_))
  · rcases S.par y (List.of_mem_zip hy).1 with l | l
    · exact .inl l
    · exact .inr ⟨l, PySem.W.cellsFrom_some _ _ _ (.inl l)⟩
  · subst hen
    refine ⟨nol.keeps z.toInCall.keep, codeAny_func ?_⟩
    obtain ⟨u, hu, hq⟩ := hb cv B ou t H us Q E (r.deeper _) gd hs
    refine wpAny_mono (hu.nox.run [] t1 (start N us) H _ (inv_start S r.hd e0 (ln _ _ _ _ hs) va z) hq) (fun fl t' ht => ?_) fun _ _ ht => ht
    cases fl with
    | ret y =>
      obtain ⟨v, σ', H', J, rv, q⟩ := ht
      exact ⟨v, H', J.os, J.bare, J.base, J.hok, rv, q⟩
    | next =>
      obtain ⟨σ', H', J, q⟩ := ht
      exact ⟨.non, H', J.os, J.bare, J.base, J.hok, rfl, q⟩
    | brk => exact ht.elim fun _ z => z.elim fun _ z => z.2.elim
    | cont => exact ht.elim fun _ z => z.elim fun _ z => z.2.elim
end
section
variable {X : Cx}
theorem pe_callG {k : Nat} {f : Addr} {fd : FuncData} {ps : List Str} {sp : Sp} {x : Str} {p pos : Pos} {e : Expr} {es : List Expr} {t : TA} (F : FnG X.prog X.w X.K X.mg X.base k f fd ps sp) (hr : Room k X.A) (gd : X.A.guards = some []) (hg : Gl X x) (hm : X.mg x = some (.ref f)) (kp : PySem.W.keepIn X.K (.ref f) = true)
    (bd : Binds X.K fd ps []) (ha : PA X (e :: es) t) (hdb : (x == ("__debug__" : Str)) = false := by decide) (hst : starEach (e :: es) X.env = (false, eval e X.env) :: starEach es X.env := by rfl)
    (hpl : (backTo pos (starEach es X.env)).any (·.1) = false := by rfl) : PE X (.Call (.Name x p) (e :: es) [] pos) (tCall sp [] E0 t) := by
  refine ⟨fun pins s σ H Q I h => wpAny_Call_Name_kw (ld_glob I hg hm (PySem.W.callWith_K (h₀ := X.base) I.ok.mod.kin kp (thn (ha.run pos pins s σ H _ I h) fun ws s1 ⟨us, H1, J, va, q⟩ => ⟨J.kIn, ?_⟩) hst hpl) hdb)⟩
  have q : sp (us ++ []) H1 Q E0 := q
  rw [List.append_nil] at q
  have hl : (ws ++ []).length = ps.length := by rw [List.append_nil, ← va.length]; exact F.long _ _ _ _ q
  have bt := bd s1 ws J.kIn hl
  rw [List.append_nil] at bt
  refine wpAny_call (codeAny_mono (F.goes X.A X.stack s1 H1 ⟨ws, []⟩ ws us Q E0 hr gd J.env0 bt va q) fun r s' hq => ?_)
  match r, hq with
  | .ok (.ret _), hq => exact J.after hq
  | .ok .next, hq => exact False.elim hq
  | .ok .brk, hq => exact False.elim hq
  | .ok .cont, hq => exact False.elim hq
  | .error _, hq => exact False.elim hq
/-- repr of a thing made of lists, tuples, texts, numbers, truths and None -/
def rRepr (K : PySem.W.Frag) : List V → Hp → VK → Prop := fun xs H Q => ∃ (a : Addr) (d : PyData), xs = [.ref a] ∧ Dp K H (.ref a) d ∧ d.showable = true ∧ d.hasDict = false ∧ d.depth ≤ 60 ∧ d.shown.length ≤ sizeLine ∧ Q (.str d.shown) H
theorem call_reprD (gd : X.A.guards = some []) (hu : X.A.units + 64 < cLine) : CallR X (.builtin "repr") (rRepr X.K) := by
  intro pins s σ H xs us Q I va h
  obtain ⟨a, d, rfl, dp, h1, h2, h3, h4, q⟩ := h
  rw [Vals.ref1 va]
  obtain ⟨as, rd⟩ := Dp.reads I d (.ref a) (.ref a) dp rfl
  exact repr_of_reads' rd h1 (PyData.noDict_hsm h2) gd (by omega) (fun _ _ e => e) (fun h' u tk hk => ⟨.str _, H, I.kept hk, ⟨_, rfl⟩, q⟩) h4
end
/-! ### the text -/
def topS (i : Nat) : Stmt := PySem.Challenge.pw_evenstrand_k31_rows_blended.main.body.getD i (.Pass ⟨0, 0, 0, 0⟩)
abbrev s_taken : Stmt := topS 1
abbrev N_taken : List Str := ["mixture", "k", "m", "n", "first"]
abbrev P_taken : List Str := ["mixture", "k"]
theorem sc_taken : FnScope N_taken P_taken (defScope s_taken) := ⟨rfl, rfl, rfl, by decide +kernel, rfl, by decide +kernel, by decide +kernel⟩
abbrev s_sort_of : Stmt := topS 2
abbrev N_sort_of : List Str := ["mixture", "k"]
abbrev P_sort_of : List Str := ["mixture", "k"]
theorem sc_sort_of : FnScope N_sort_of P_sort_of (defScope s_sort_of) := ⟨rfl, rfl, rfl, by decide +kernel, rfl, by decide +kernel, by decide +kernel⟩
abbrev s_sort_by : Stmt := topS 3
abbrev N_sort_by : List Str := ["mixtures", "k", "sort", "start", "m", "n"]
abbrev P_sort_by : List Str := ["mixtures", "k"]
theorem sc_sort_by : FnScope N_sort_by P_sort_by (defScope s_sort_by) := ⟨rfl, rfl, rfl, by decide +kernel, rfl, by decide +kernel, by decide +kernel⟩
abbrev s_blended : Stmt := topS 6
abbrev N_blended : List Str := ["first", "second", "mixtures", "rows", "used", "blend", "k", "sort"]
abbrev P_blended : List Str := ["first", "second", "mixtures"]
theorem sc_blended : FnScope N_blended P_blended (defScope s_blended) := ⟨rfl, rfl, rfl, by decide +kernel, rfl, by decide +kernel, by decide +kernel⟩
abbrev s__law_pot : Stmt := topS 8
abbrev N__law_pot : List Str := ["_law_script", "_law_k", "_law_cell", "_law_bound", "_law_seed"]
abbrev P__law_pot : List Str := ["_law_script", "_law_k"]
theorem sc__law_pot : FnScope N__law_pot P__law_pot (defScope s__law_pot) := ⟨rfl, rfl, rfl, by decide +kernel, rfl, by decide +kernel, by decide +kernel⟩
abbrev s__law_pick : Stmt := topS 9
abbrev N__law_pick : List Str := ["_law_pot_here", "_law_many", "_law_digit", "_law_step", "_law_mixed"]
abbrev P__law_pick : List Str := ["_law_pot_here", "_law_many"]
theorem sc__law_pick : FnScope N__law_pick P__law_pick (defScope s__law_pick) := ⟨rfl, rfl, rfl, by decide +kernel, rfl, by decide +kernel, by decide +kernel⟩
abbrev s__law_great : Stmt := topS 10
abbrev N__law_great : List Str := ["_law_pot_here"]
abbrev P__law_great : List Str := ["_law_pot_here"]
theorem sc__law_great : FnScope N__law_great P__law_great (defScope s__law_great) := ⟨rfl, rfl, rfl, by decide +kernel, rfl, by decide +kernel, by decide +kernel⟩
abbrev s__law_number : Stmt := topS 11
abbrev N__law_number : List Str := ["_law_pot_here", "_law_way", "_law_far"]
abbrev P__law_number : List Str := ["_law_pot_here"]
theorem sc__law_number : FnScope N__law_number P__law_number (defScope s__law_number) := ⟨rfl, rfl, rfl, by decide +kernel, rfl, by decide +kernel, by decide +kernel⟩
abbrev s__law_parts : Stmt := topS 12
abbrev N__law_parts : List Str := ["_law_pot_here", "_law_parts_here", "_law_start", "_law_k", "_law_first", "_law_second"]
abbrev P__law_parts : List Str := ["_law_pot_here"]
theorem sc__law_parts : FnScope N__law_parts P__law_parts (defScope s__law_parts) := ⟨rfl, rfl, rfl, by decide +kernel, rfl, by decide +kernel, by decide +kernel⟩
abbrev s__law_wisps : Stmt := topS 13
abbrev N__law_wisps : List Str := ["_law_pot_here", "_law_sort_here", "_law_count", "_law_size", "_law_far", "_law_wisps_here", "_law_k", "_law_steps", "_law_at", "_law_strong", "_law_long"]
abbrev P__law_wisps : List Str := ["_law_pot_here", "_law_sort_here"]
theorem sc__law_wisps : FnScope N__law_wisps P__law_wisps (defScope s__law_wisps) := ⟨rfl, rfl, rfl, by decide +kernel, rfl, by decide +kernel, by decide +kernel⟩
abbrev s__law_sort : Stmt := topS 14
abbrev N__law_sort : List Str := ["_law_parts_here", "_law_k", "_law_here", "_law_part", "_law_start", "_law_first", "_law_second", "_law_ahead_of_it"]
abbrev P__law_sort : List Str := ["_law_parts_here", "_law_k"]
theorem sc__law_sort : FnScope N__law_sort P__law_sort (defScope s__law_sort) := ⟨rfl, rfl, rfl, by decide +kernel, rfl, by decide +kernel, by decide +kernel⟩
abbrev s__law_blended : Stmt := topS 15
abbrev N__law_blended : List Str := ["_law_rows", "_law_parts_here", "_law_lots", "_law_row", "_law_k", "_law_lot"]
abbrev P__law_blended : List Str := ["_law_rows", "_law_parts_here"]
theorem sc__law_blended : FnScope N__law_blended P__law_blended (defScope s__law_blended) := ⟨rfl, rfl, rfl, by decide +kernel, rfl, by decide +kernel, by decide +kernel⟩
abbrev s_law : Stmt := topS 16
abbrev N_law : List Str := ["_law_script", "_law_k", "_law_pot_here", "_law_rows", "_law_both", "_law_parts_here", "_law_told", "_law_sort_here"]
abbrev P_law : List Str := ["_law_script"]
theorem sc_law : FnScope N_law P_law (defScope s_law) := ⟨rfl, rfl, rfl, by decide +kernel, rfl, by decide +kernel, by decide +kernel⟩
/-! ### the names that are still the built-in ones -/
structure Bi (mg : Str → Option Value) : Prop where
  m_len : mg "len" = none
  m_sum : mg "sum" = none
  m_abs : mg "abs" = none
  m_isinstance : mg "isinstance" = none
  m_max : mg "max" = none
  m_min : mg "min" = none
  m_tuple : mg "tuple" = none
  m_list : mg "list" = none
  m_int : mg "int" = none
  m_bool : mg "bool" = none
  m_range : mg "range" = none
  m_enumerate : mg "enumerate" = none
  m_zip : mg "zip" = none
  m_repr : mg "repr" = none
  m_str : mg "str" = none
  m_sorted : mg "sorted" = none
  m_set : mg "set" = none
  m_all : mg "all" = none
/-! ### a def as its callers use it -/
structure Cal (P : Program) (w : World) (K : PySem.W.Frag) (mg : Str → Option Value) (base : Heap) (x : Str) (ps : List Str) (k : Nat) (sp : Sp) (f : Addr) (fd : FuncData) : Prop where
  G : FnOk P w K mg base CX0 k f fd ps sp
  g : mg x = some (.ref f)
  kp : PySem.W.keepIn K (.ref f) = true
  b : Binds K fd ps []
structure CalG (P : Program) (w : World) (K : PySem.W.Frag) (mg : Str → Option Value) (base : Heap) (x : Str) (ps : List Str) (k : Nat) (sp : Sp) (f : Addr) (fd : FuncData) : Prop where
  G : FnG P w K mg base k f fd ps sp
  g : mg x = some (.ref f)
  kp : PySem.W.keepIn K (.ref f) = true
  b : Binds K fd ps []
/-! ### heaps -/
def Keep (p l : Addr) (H H' : Hp) : Prop := ∀ a o, a ≠ p → a ≠ l → H a = some o → H' a = some o
theorem Keep.refl {p l : Addr} {H : Hp} : Keep p l H H := fun _ _ _ _ h => h
theorem Keep.trans {p l : Addr} {H H1 H2 : Hp} (a : Keep p l H H1) (b : Keep p l H1 H2) : Keep p l H H2 := fun c o n1 n2 h => b c o n1 n2 (a c o n1 n2 h)
theorem Keep.new {p l : Addr} {H H1 : Hp} {a : Addr} {o : HO} (k : Keep p l H H1) (h : H1 a = none) : Keep p l H (upd H1 a o) := fun c u n1 n2 e => by
  have e1 := k c u n1 n2 e
  rw [upd_ne (ne_of_none e1 h)]
  exact e1
theorem Keep.own {p l : Addr} {H H1 : Hp} {o : HO} (k : Keep p l H H1) : Keep p l H (upd H1 p o) := fun c u n1 n2 e => by
  rw [upd_ne n1]
  exact k c u n1 n2 e
theorem Keep.own2 {p l : Addr} {H H1 : Hp} {o : HO} (k : Keep p l H H1) : Keep p l H (upd H1 l o) := fun c u n1 n2 e => by
  rw [upd_ne n2]
  exact k c u n1 n2 e
/-- an object that was not there at H may change -/
theorem Keep.mine {p l a : Addr} {H H1 : Hp} {o : HO} (k : Keep p l H H1) (h : H a = none) : Keep p l H (upd H1 a o) := fun c u n1 n2 e => by
  rw [upd_ne (ne_of_none e h)]
  exact k c u n1 n2 e
def Tups (H H' : Hp) : Prop := ∀ a xs, H a = some (.tup xs) → H' a = some (.tup xs)
theorem Tups.refl {H : Hp} : Tups H H := fun _ _ h => h
theorem Tups.trans {H H1 H2 : Hp} (a : Tups H H1) (b : Tups H1 H2) : Tups H H2 := fun c xs h => b c xs (a c xs h)
theorem Tups.new {H : Hp} {a : Addr} {o : HO} (h : H a = none) : Tups H (upd H a o) := fun c xs e => by
  rw [upd_ne (ne_of_none e h)]
  exact e
theorem Tups.ls {H : Hp} {a : Addr} {xs : List V} {o : HO} (h : H a = some (.lst xs)) : Tups H (upd H a o) := fun c ys e => by
  have n : c ≠ a := ne_of e h (by intro z; cases z)
  rw [upd_ne n]
  exact e
theorem Tups.same {H H' : Hp} (h : Same H H') : Tups H H' := fun a xs e => h a _ e
/-- the pot: the cells that are left, the great number at hand, the seed, how many were drawn -/
def Pot (H : Hp) (p l : Addr) (T : Nat) : Prop := ∃ (ns : List Int) (c m : Int) (t : Nat), H p = some (.lst [.ref l, .int c, .int m, .int (t : Int)]) ∧ H l = some (.lst (ns.map V.int)) ∧ 0 ≤ c ∧ t ≤ T ∧ ns.length ≤ 63
theorem Pot.ne {H : Hp} {p l : Addr} {T : Nat} (h : Pot H p l T) : p ≠ l := by
  obtain ⟨ns, c, m, t, h1, h2, _⟩ := h
  intro e
  rw [e, h2] at h1
  cases ns with
  | nil => exact absurd h1 (by intro z; cases z)
  | cons n r => exact absurd h1 (by intro z; cases z)
theorem Pot.mono {H : Hp} {p l : Addr} {T U : Nat} (h : Pot H p l T) (e : T ≤ U) : Pot H p l U := by
  obtain ⟨ns, c, m, t, h1, h2, h3, h4, h5⟩ := h
  exact ⟨ns, c, m, t, h1, h2, h3, Nat.le_trans h4 e, h5⟩
theorem Pot.new {H : Hp} {p l a : Addr} {T : Nat} {o : HO} (h : Pot H p l T) (n : H a = none) : Pot (upd H a o) p l T := by
  obtain ⟨ns, c, m, t, h1, h2, h3⟩ := h
  exact ⟨ns, c, m, t, by rw [upd_ne (ne_of_none h1 n)]; exact h1, by rw [upd_ne (ne_of_none h2 n)]; exact h2, h3⟩
theorem Pot.other {H : Hp} {p l a : Addr} {T : Nat} {o : HO} (h : Pot H p l T) (n1 : a ≠ p) (n2 : a ≠ l) : Pot (upd H a o) p l T := by
  obtain ⟨ns, c, m, t, h1, h2, h3⟩ := h
  exact ⟨ns, c, m, t, by rw [upd_ne n1.symm]; exact h1, by rw [upd_ne n2.symm]; exact h2, h3⟩
theorem Pot.notP {H : Hp} {p l a : Addr} {T : Nat} {xs : List V} (h : Pot H p l T) (e : H a = some (.tup xs)) : a ≠ p ∧ a ≠ l := by
  obtain ⟨ns, c, m, t, h1, h2, h3⟩ := h
  exact ⟨ne_of e h1 (by intro z; cases z), ne_of e h2 (by intro z; cases z)⟩
theorem Pot.fresh {H : Hp} {p l a : Addr} {T : Nat} (h : Pot H p l T) (e : H a = none) : a ≠ p ∧ a ≠ l := by
  obtain ⟨ns, c, m, t, h1, h2, h3⟩ := h
  exact ⟨(ne_of_none h1 e).symm, (ne_of_none h2 e).symm⟩
theorem Keep.tups {p l : Addr} {H H' : Hp} {T : Nat} (k : Keep p l H H') (h : Pot H p l T) : Tups H H' := fun a xs e => by
  obtain ⟨n1, n2⟩ := h.notP e
  exact k a _ n1 n2 e
/-! ### what is drawn -/
def spBlend : Sp := fun vs H Q _ => ∃ (n : Int) (t : Int), vs = [.int n, .int t] ∧ 0 ≤ t ∧ t < 2 ^ 62 ∧ ∀ r, Q (.int r) H
def spDraw : Sp := fun vs H Q _ => ∃ (p l : Addr) (T : Nat) (many : Int), vs = [.ref p, .int many] ∧ Pot H p l T ∧ T < 2 ^ 40 ∧ CDivW 0 many ∧
  ∀ d H', 0 ≤ d → d < many → Pot H' p l (T + 1) → Keep p l H H' → Q (.int d) H'
def spGreat : Sp := fun vs H Q _ => ∃ (p l : Addr) (T : Nat), vs = [.ref p] ∧ Pot H p l T ∧ T < 2 ^ 39 ∧
  ∀ d H', 0 ≤ d → d < 2 ^ 122 → Pot H' p l (T + 5) → Keep p l H H' → Q (.int d) H'
/-! ### tuples at addresses -/
def TupsAt (H : Hp) (as : List Addr) (xss : List (List V)) : Prop := as.length = xss.length ∧ ∀ (i : Nat) (a : Addr), as[i]? = some a → ∃ xs, xss[i]? = some xs ∧ H a = some (.tup xs)
theorem TupsAt.nil {H : Hp} : TupsAt H [] [] := ⟨rfl, fun i a h => by simp at h⟩
theorem TupsAt.mono {H H' : Hp} {as : List Addr} {xss : List (List V)} (h : TupsAt H as xss) (t : Tups H H') : TupsAt H' as xss := ⟨h.1, fun i a e => by
  obtain ⟨xs, h1, h2⟩ := h.2 i a e
  exact ⟨xs, h1, t a xs h2⟩⟩
theorem TupsAt.cons {H : Hp} {as : List Addr} {xss : List (List V)} {a : Addr} {xs : List V} (h : TupsAt H as xss) (e : H a = some (.tup xs)) : TupsAt H (a :: as) (xs :: xss) := by
  refine ⟨by simp [h.1], fun i b hb => ?_⟩
  cases i with
  | zero =>
    have : a = b := Option.some.inj hb
    subst this
    exact ⟨xs, rfl, e⟩
  | succ j => exact h.2 j b hb
theorem TupsAt.snoc {H : Hp} {as : List Addr} {xss : List (List V)} {a : Addr} {xs : List V} (h : TupsAt H as xss) (e : H a = some (.tup xs)) : TupsAt H (as ++ [a]) (xss ++ [xs]) := by
  refine ⟨by simp [h.1], fun i b hb => ?_⟩
  by_cases hi : i < as.length
  · rw [List.getElem?_append_left hi] at hb
    obtain ⟨ys, h1, h2⟩ := h.2 i b hb
    exact ⟨ys, by rw [List.getElem?_append_left (by rw [← h.1]; exact hi)]; exact h1, h2⟩
  · rw [List.getElem?_append_right (by omega)] at hb
    have hz : i - as.length = 0 := by
      cases hk : i - as.length with
      | zero => rfl
      | succ n =>
        rw [hk] at hb
        simp at hb
    rw [hz] at hb
    have : a = b := Option.some.inj hb
    subst this
    refine ⟨xs, ?_, e⟩
    rw [List.getElem?_append_right (by rw [← h.1]; omega), ← h.1, hz]
    rfl
theorem TupsAt.get {H : Hp} {as : List Addr} {xss : List (List V)} (h : TupsAt H as xss) {i : Nat} {v : V} (e : (as.map V.ref)[i]? = some v) : ∃ a xs, v = .ref a ∧ as[i]? = some a ∧ xss[i]? = some xs ∧ H a = some (.tup xs) := by
  rw [List.getElem?_map] at e
  cases q : as[i]? with
  | none =>
    rw [q] at e
    cases e
  | some a =>
    rw [q] at e
    have e' : V.ref a = v := Option.some.inj e
    obtain ⟨xs, h1, h2⟩ := h.2 i a q
    exact ⟨a, xs, e'.symm, rfl, h1, h2⟩
/-! ### wisps -/
abbrev stepV (p : Int × Int) : List V := [.int p.1, .int p.2]
def WispAt (H : Hp) (a : Addr) (s : Int) (ps : List (Int × Int)) : Prop := ∃ (st : Addr) (as : List Addr), H a = some (.tup [.int s, .ref st]) ∧ H st = some (.tup (as.map V.ref)) ∧ TupsAt H as (ps.map stepV)
theorem WispAt.mono {H H' : Hp} {a : Addr} {s : Int} {ps : List (Int × Int)} (h : WispAt H a s ps) (t : Tups H H') : WispAt H' a s ps := by
  obtain ⟨st, as, h1, h2, h3⟩ := h
  exact ⟨st, as, t _ _ h1, t _ _ h2, h3.mono t⟩
theorem step_get {H : Hp} {as : List Addr} {ps : List (Int × Int)} (h : TupsAt H as (ps.map stepV)) {i : Nat} {v : V} (e : (as.map V.ref)[i]? = some v) : ∃ a t g, v = .ref a ∧ ps[i]? = some (t, g) ∧ H a = some (.tup [.int t, .int g]) := by
  obtain ⟨a, xs, h1, _, h2, h3⟩ := h.get e
  rw [List.getElem?_map] at h2
  cases q : ps[i]? with
  | none =>
    rw [q] at h2
    cases h2
  | some p =>
    rw [q] at h2
    have e' : stepV p = xs := Option.some.inj h2
    subst e'
    exact ⟨a, p.1, p.2, h1, rfl, h3⟩
def Good (ps : List (Int × Int)) : Prop := 1 ≤ ps.length ∧ ps.length ≤ 10 ∧ ∀ p ∈ ps, 1 ≤ p.1 ∧ p.1 < 2 ^ 200 ∧ 1 ≤ p.2 ∧ p.2 < 2 ^ 200
def Falls (ps : List (Int × Int)) : Prop := ps.Pairwise (fun a b => b.1 < a.1)
def Small (ps : List (Int × Int)) : Prop := ∀ p ∈ ps, p.1 ≤ 1000 ∧ p.2 ≤ 3
def spPot (K : PySem.W.Frag) : Sp := fun vs H Q _ => ∃ (a : Addr) (ns : List Int), vs = [.ref a] ∧ SqL K H a (ns.map V.int) ∧ ns.length ≤ 63 ∧
  ∀ H' p l, Same H H' → H p = none → H l = none → Pot H' p l 0 → Q (.ref p) H'
def spWisp : Sp := fun vs H Q _ => ∃ (p l : Addr) (T : Nat) (most : Int) (small : Bool), vs = [.ref p, .int most, .bl small] ∧ Pot H p l T ∧ T < 2 ^ 38 ∧ 1 ≤ most ∧ most ≤ 10 ∧
  ∀ H' a s ps, Pot H' p l (T + 150) → Keep p l H H' → WispAt H' a s ps → 0 ≤ s → s ≤ 1 → Good ps → (ps.length : Int) ≤ most → Falls ps → (small = true → Small ps) → H a = none → Q (.ref a) H'
def spWhole : Sp := fun vs H Q _ => ∃ i : Int, vs = [.int i] ∧ Q (.bl true) H
theorem Keep.free {p l a : Addr} {H H' : Hp} {T : Nat} (k : Keep p l H H') (hp : Pot H' p l T) (h : H' a = none) : H a = none := by
  obtain ⟨n1, n2⟩ := hp.fresh h
  cases q : H a with
  | none => rfl
  | some o =>
    rw [k a o n1 n2 q] at h
    cases h
/-! ### the mirrors -/
def longs (ps : List (Int × Int)) : Int := (ps.map (·.2)).sum
def weigh (ps : List (Int × Int)) : Int := (ps.map fun p => p.1 * p.2).sum
def thickAt : List (Int × Int) → Int → Int
  | [], _ => 0
  | (t, g) :: r, k => if k < g then t else thickAt r (k - g)
abbrev rowV (t : Int × Int × Int) : List V := [.int t.1, .int t.2.1, .int t.2.2]
def tableOf : Int → List (Int × Int) → List (Int × Int × Int)
  | _, [] => []
  | b, (t, g) :: r => (b, b + g, t) :: tableOf (b + g) r
def inRow (k : Int) (t : Int × Int × Int) : Bool := decide (t.1 ≤ k) && decide (k < t.2.1)
def strongOf (k : Int) (ts : List (Int × Int × Int)) : Int := ((ts.filter (inRow k)).map (·.2.2)).sum
theorem longs_nonneg : ∀ {ps : List (Int × Int)}, (∀ p ∈ ps, 1 ≤ p.2) → 0 ≤ longs ps
  | [], _ => by decide
  | p :: r, h => by
    have h1 := h p (by simp)
    have h2 := longs_nonneg (ps := r) fun x hx => h x (by simp [hx])
    unfold longs at *
    rw [List.map_cons, List.sum_cons]
    omega
theorem longs_cons {p : Int × Int} {r : List (Int × Int)} : longs (p :: r) = p.2 + longs r := by
  unfold longs
  rw [List.map_cons, List.sum_cons]
theorem weigh_cons {p : Int × Int} {r : List (Int × Int)} : weigh (p :: r) = p.1 * p.2 + weigh r := by
  unfold weigh
  rw [List.map_cons, List.sum_cons]
theorem table_len : ∀ (ps : List (Int × Int)) (b : Int), (tableOf b ps).length = ps.length
  | [], _ => rfl
  | (t, g) :: r, b => by
    show (tableOf (b + g) r).length + 1 = r.length + 1
    rw [table_len r]
theorem table_get : ∀ (ps : List (Int × Int)) (b : Int) (i : Nat) (t g : Int), ps[i]? = some (t, g) → (tableOf b ps)[i]? = some (b + longs (ps.take i), b + longs (ps.take (i + 1)), t)
  | [], _, _, _, _, h => by simp at h
  | (t', g') :: r, b, 0, t, g, h => by
    have e := Option.some.inj h
    obtain ⟨rfl, rfl⟩ := Prod.mk.inj e
    show some (b, b + g', t') = some (b + longs [], b + longs [(t', g')], t')
    unfold longs
    simp
  | (t', g') :: r, b, i + 1, t, g, h => by
    show (tableOf (b + g') r)[i]? = some (b + longs ((t', g') :: r.take i), b + longs ((t', g') :: r.take (i + 1)), t)
    rw [table_get r (b + g') i t g h, longs_cons, longs_cons]
    simp only [Int.add_assoc]
theorem strong_cons {k : Int} {t : Int × Int × Int} {ts : List (Int × Int × Int)} : strongOf k (t :: ts) = (if inRow k t = true then t.2.2 else 0) + strongOf k ts := by
  unfold strongOf
  rw [List.filter_cons]
  split
  · rw [List.map_cons, List.sum_cons]
  · rw [Int.zero_add]
theorem strong_table : ∀ (ps : List (Int × Int)) (b k : Int), (∀ p ∈ ps, 1 ≤ p.2) → strongOf k (tableOf b ps) = if k < b then 0 else thickAt ps (k - b)
  | [], b, k, _ => by
    show (0 : Int) = if k < b then 0 else 0
    split <;> rfl
  | (t, g) :: r, b, k, h => by
    have hg : 1 ≤ g := h (t, g) (by simp)
    have ih := strong_table r (b + g) k fun x hx => h x (by simp [hx])
    show strongOf k ((b, b + g, t) :: tableOf (b + g) r) = if k < b then 0 else if k - b < g then t else thickAt r (k - b - g)
    rw [strong_cons, ih]
    have e : k - b - g = k - (b + g) := by omega
    rw [e]
    by_cases h1 : k < b
    · rw [if_pos h1, if_pos (show k < b + g by omega), if_neg]
      · rfl
      · intro z
        have := (Bool.and_eq_true_iff.mp z).1
        have := of_decide_eq_true this
        simp only at this
        omega
    · by_cases h2 : k - b < g
      · rw [if_neg h1, if_pos h2, if_pos (show k < b + g by omega), if_pos]
        · show t + 0 = t
          omega
        · exact Bool.and_eq_true_iff.mpr ⟨decide_eq_true (show b ≤ k by omega), decide_eq_true (show k < b + g by omega)⟩
      · rw [if_neg h1, if_neg h2, if_neg (show ¬ k < b + g by omega), if_neg]
        · omega
        · intro z
          have := of_decide_eq_true (Bool.and_eq_true_iff.mp z).2
          simp only at this
          omega
def dueOf (ts : List (Int × Int × Int)) : Int := (ts.map fun t => (t.2.1 - t.1) * t.2.2).sum
theorem due_table : ∀ (ps : List (Int × Int)) (b : Int), dueOf (tableOf b ps) = weigh ps
  | [], _ => rfl
  | (t, g) :: r, b => by
    have ih := due_table r (b + g)
    show ((b, b + g, t) :: tableOf (b + g) r |>.map fun t => (t.2.1 - t.1) * t.2.2).sum = weigh ((t, g) :: r)
    rw [weigh_cons, List.map_cons, List.sum_cons, ← ih]
    show (b + g - b) * t + dueOf _ = t * g + dueOf _
    rw [show b + g - b = g by omega, Int.mul_comm]
def sumTo (n : Nat) (f : Int → Int) : Int := ((List.range n).map fun (i : Nat) => f (i : Int)).sum
theorem sumTo_succ (n : Nat) (f : Int → Int) : sumTo (n + 1) f = sumTo n f + f n := by
  unfold sumTo
  rw [List.range_succ, List.map_append, List.sum_append]
  simp
theorem sumTo_const (t : Int) : ∀ n : Nat, sumTo n (fun _ => t) = n * t
  | 0 => by simp [sumTo]
  | n + 1 => by
    rw [sumTo_succ, sumTo_const t n, Int.natCast_add, Int.add_mul]
    simp
theorem sumTo_add (f : Int → Int) (n : Nat) : ∀ m : Nat, sumTo (n + m) f = sumTo n f + sumTo m (fun k => f (n + k))
  | 0 => by simp [sumTo]
  | m + 1 => by
    rw [← Nat.add_assoc, sumTo_succ, sumTo_succ, sumTo_add f n m, Int.natCast_add, Int.add_assoc]
theorem sumTo_congr {f g : Int → Int} : ∀ n : Nat, (∀ i : Nat, i < n → f i = g i) → sumTo n f = sumTo n g
  | 0, _ => rfl
  | n + 1, h => by
    rw [sumTo_succ, sumTo_succ, sumTo_congr n (fun i hi => h i (by omega)), h n (by omega)]
theorem sumTo_thick : ∀ (ps : List (Int × Int)) (n : Nat), (∀ p ∈ ps, 1 ≤ p.2) → longs ps ≤ n → sumTo n (thickAt ps) = weigh ps
  | [], n, _, _ => by
    rw [show thickAt [] = fun _ => 0 from funext fun _ => rfl, sumTo_const]
    simp [weigh]
  | (t, g) :: r, n, h, hl => by
    have hg : 1 ≤ g := h (t, g) (by simp)
    rw [longs_cons] at hl
    have hl : g + longs r ≤ n := hl
    have h0 := longs_nonneg (ps := r) fun x hx => h x (by simp [hx])
    obtain ⟨G, rfl⟩ : ∃ G : Nat, g = G := ⟨g.toNat, by omega⟩
    obtain ⟨m, rfl⟩ : ∃ m : Nat, n = G + m := ⟨n - G, by omega⟩
    rw [sumTo_add, weigh_cons]
    have ih := sumTo_thick r m (fun x hx => h x (by simp [hx])) (by omega)
    have e1 : sumTo G (thickAt ((t, (G : Int)) :: r)) = G * t := by
      rw [← sumTo_const t G]
      refine sumTo_congr G fun i hi => ?_
      show (if (i : Int) < G then t else _) = t
      rw [if_pos (by omega)]
    have e2 : sumTo m (fun k => thickAt ((t, (G : Int)) :: r) (G + k)) = sumTo m (thickAt r) := by
      refine sumTo_congr m fun i _ => ?_
      show (if (G : Int) + i < G then t else thickAt r ((G : Int) + i - G)) = thickAt r i
      rw [if_neg (by omega), show (G : Int) + i - G = i by omega]
    rw [e1, e2, ih, Int.mul_comm]
theorem take_map_succ {α β : Type} {l : List α} {i : Nat} {x : α} (f : α → β) (h : l[i]? = some x) : (l.take (i + 1)).map f = (l.take i).map f ++ [f x] := by
  rw [List.take_add_one, h, List.map_append]
  rfl
theorem longs_take {ps : List (Int × Int)} {i : Nat} {t g : Int} (h : ps[i]? = some (t, g)) : longs (ps.take (i + 1)) = longs (ps.take i) + g := by
  unfold longs
  rw [take_map_succ _ h, List.sum_append]
  simp
theorem Same.wisp {H H' : Hp} {a : Addr} {s : Int} {ps : List (Int × Int)} (e : Same H H') (h : WispAt H a s ps) : WispAt H' a s ps := h.mono (Tups.same e)
theorem same_new {H H1 : Hp} {p : Addr} {o : HO} (k : Same H H1) (h : H1 p = none) : Same H (upd H1 p o) := fun b x e => by
  have e1 := k b x e
  rw [upd_ne (ne_of_none e1 h)]
  exact e1
theorem same_mine {H H1 : Hp} {p : Addr} {o : HO} (k : Same H H1) (h : H p = none) : Same H (upd H1 p o) := fun b x e => by
  rw [upd_ne (ne_of_none e h)]
  exact k b x e
theorem Same.free' {H H' : Hp} (e : Same H H') {l : Addr} (h : H' l = none) : H l = none := Same.free e h
theorem mul_ok {ps : List (Int × Int)} (h : Good ps) {i : Nat} {t g : Int} (e : ps[i]? = some (t, g)) : CMulW t g := by
  obtain ⟨_, _, h3⟩ := h
  have := h3 (t, g) (List.mem_of_getElem? e)
  refine wide_mul (a := 200) (b := 200) ?_ ?_ (by decide) (by decide) (by decide)
  · have h1 : t < 2 ^ 200 := this.2.1
    have h0 : 1 ≤ t := this.1
    have h2 : (t.natAbs : Int) = t := by omega
    have h3 : (t.natAbs : Int) < ((2 ^ 200 : Nat) : Int) := by rw [h2]; exact h1
    exact Int.ofNat_lt.mp h3
  · have h1 : g < 2 ^ 200 := this.2.2.2
    have h0 : 1 ≤ g := this.2.2.1
    have h2 : (g.natAbs : Int) = g := by omega
    have h3 : (g.natAbs : Int) < ((2 ^ 200 : Nat) : Int) := by rw [h2]; exact h1
    exact Int.ofNat_lt.mp h3
def spLen : Sp := fun vs H Q _ => ∃ (a : Addr) (s : Int) (ps : List (Int × Int)), vs = [.ref a] ∧ WispAt H a s ps ∧ Good ps ∧ ∀ H', Same H H' → Q (.int (longs ps)) H'
def spWeight : Sp := fun vs H Q _ => ∃ (a : Addr) (s : Int) (ps : List (Int × Int)), vs = [.ref a] ∧ WispAt H a s ps ∧ Good ps ∧ ∀ H', Same H H' → Q (.int (weigh ps)) H'
def spThick : Sp := fun vs H Q _ => ∃ (a : Addr) (s : Int) (ps : List (Int × Int)) (k : Int), vs = [.ref a, .int k] ∧ WispAt H a s ps ∧ Q (.int (thickAt ps k)) H
def TableAt (H : Hp) (o : Addr) (ts : List (Int × Int × Int)) : Prop := ∃ as, H o = some (.lst (as.map V.ref)) ∧ TupsAt H as (ts.map rowV)
def spTable : Sp := fun vs H Q _ => ∃ (a : Addr) (s : Int) (ps : List (Int × Int)), vs = [.ref a] ∧ WispAt H a s ps ∧ ps.length ≤ 10 ∧ ∀ H' o, Same H H' → H o = none → TableAt H' o (tableOf 0 ps) → Q (.ref o) H'
def spStrong : Sp := fun vs H Q _ => ∃ (a : Addr) (s : Int) (ps : List (Int × Int)) (k : Int), vs = [.ref a, .int k] ∧ WispAt H a s ps ∧ Good ps ∧ 0 ≤ k ∧ ∀ H', Same H H' → Q (.int (thickAt ps k)) H'
def spSpots : Sp := fun vs H Q _ => ∃ (p l : Addr) (T : Nat) (a : Addr) (s : Int) (ps : List (Int × Int)), vs = [.ref p, .ref a] ∧ Pot H p l T ∧ T < 2 ^ 38 ∧ WispAt H a s ps ∧ Good ps ∧
  ∀ (H' : Hp) (o : Addr) (ns : List Int), Pot H' p l (T + 10) → Keep p l H H' → H o = none → H' o = some (.lst (ns.map V.int)) → (∀ n ∈ ns, (0 : Int) ≤ n) → ns.length ≤ 100 → Q (.ref o) H'
theorem row_get {H : Hp} {as : List Addr} {ts : List (Int × Int × Int)} (h : TupsAt H as (ts.map rowV)) {i : Nat} {v : V} (e : (as.map V.ref)[i]? = some v) : ∃ a b c d, v = .ref a ∧ ts[i]? = some (b, c, d) ∧ H a = some (.tup [.int b, .int c, .int d]) := by
  obtain ⟨a, xs, h1, _, h2, h3⟩ := h.get e
  rw [List.getElem?_map] at h2
  cases q : ts[i]? with
  | none =>
    rw [q] at h2
    cases h2
  | some p =>
    rw [q] at h2
    have e' : rowV p = xs := Option.some.inj h2
    subst e'
    exact ⟨a, p.1, p.2.1, p.2.2, h1, rfl, h3⟩
theorem yesIte {σ : L2.St} {H : Hp} {A B : Hp → Prop} (h : A H) : tYes σ H (fun b H3 => if b = true then A H3 else B H3) := by
  show if true = true then A H else B H
  rw [if_pos rfl]
  exact h
def spRight : Sp := fun vs H Q _ => ∃ (p l : Addr) (T : Nat) (a : Addr) (s : Int) (ps : List (Int × Int)) (small : Bool), vs = [.ref p, .ref a, .bl small] ∧ Pot H p l T ∧ T < 2 ^ 37 ∧ WispAt H a s ps ∧ Good ps ∧ (small = true → Small ps) ∧
  ∀ (H' : Hp), Pot H' p l (T + 15) → Keep p l H H' → Q (.bl true) H'
theorem Pot.same {H H' : Hp} {p l : Addr} {T : Nat} (h : Pot H p l T) (e : Same H H') : Pot H' p l T := by
  obtain ⟨ns, c, m, t, h1, h2, h3⟩ := h
  exact ⟨ns, c, m, t, e _ _ h1, e _ _ h2, h3⟩
theorem Same.keep {p l : Addr} {H H' : Hp} (e : Same H H') : Keep p l H H' := fun c o _ _ h => e c o h
theorem WispAt.keep {p l : Addr} {H H' : Hp} {T : Nat} {a : Addr} {s : Int} {ps : List (Int × Int)} (h : WispAt H a s ps) (k : Keep p l H H') (hp : Pot H p l T) : WispAt H' a s ps := h.mono (k.tups hp)
theorem longs_small : ∀ {ps : List (Int × Int)}, Small ps → longs ps ≤ 3 * ps.length
  | [], _ => by decide
  | p :: r, h => by
    have h1 := h p (by simp)
    have h2 := longs_small (ps := r) fun x hx => h x (by simp [hx])
    rw [longs_cons, List.length_cons]
    omega
theorem table_last : ∀ (ps : List (Int × Int)) (b : Int), ps ≠ [] → ∃ b' t, (tableOf b ps).getLast? = some (b', b + longs ps, t)
  | [], _, h => absurd rfl h
  | [(t, g)], b, _ => ⟨b, t, by
    show some (b, b + g, t) = some (b, b + longs [(t, g)], t)
    rw [longs_cons]
    show some (b, b + g, t) = some (b, b + (g + 0), t)
    rw [Int.add_zero]⟩
  | (t, g) :: x :: r, b, _ => by
    obtain ⟨b', t', h⟩ := table_last (x :: r) (b + g) (by simp)
    refine ⟨b', t', ?_⟩
    have e : tableOf b ((t, g) :: x :: r) = (b, b + g, t) :: tableOf (b + g) (x :: r) := rfl
    have e2 : ∃ y ys, tableOf (b + g) (x :: r) = y :: ys := ⟨_, _, rfl⟩
    obtain ⟨y, ys, e2⟩ := e2
    rw [e, e2, List.getLast?_cons_cons, ← e2, h, longs_cons (p := (t, g)), Int.add_assoc]
theorem mulw_symm {i j : Int} (h : CMulW i j) : CMulW j i := by
  unfold CMulW at *
  omega
theorem iteNT {A B : Prop} (h : B) : if (!true) = true then A else B := by
  rw [if_neg (by decide)]
  exact h
def spLaw (K : PySem.W.Frag) : Sp := fun vs H Q _ => ∃ (a : Addr) (ns : List Int), vs = [.ref a] ∧ SqL K H a (ns.map V.int) ∧ ns.length ≤ 63 ∧ ∀ H', Q (.bl true) H'
/-! ### things made of tuples and whole numbers, looked at part by part -/
theorem lcZip {K : PySem.W.Frag} {a b : Addr} {xs ys : List V} {g : TG} {tt : TT} {te : TE} {us : List Nat} {σ : L2.St} {H1 : Hp} {D : Addr} {Qd : Hp → Prop} (hl : xs.length = ys.length) (Pv : Nat → Hp → Prop) (h0 : Pv 0 (upd H1 D (.lst []))) (hq : ∀ i H, Pv i H → SqT K H a xs ∧ SqT K H b ys)
    (hs : ∀ i x y T H, xs[i]? = some x → ys[i]? = some y → H T = none → Pv i H → g (.ref T) (wipe σ us) (upd H T (.tup [x, y])) fun σ2 H2 => wipe σ2 us = wipe σ us ∧ tt σ2 H2 fun c H3 =>
      if c = true then te σ2 H3 fun y H4 => ∃ acc, H4 D = some (.lst acc) ∧ acc.length < sizeLine ∧ Pv (i + 1) (upd H4 D (.lst (acc ++ [y]))) else Pv (i + 1) H3) (hd : ∀ H, Pv xs.length H → Qd H) :
    ∃ W : Nat → Nat → Hp → Prop, (∃ m, W 0 m (upd H1 D (.lst []))) ∧ ∀ i m H, W i m H →
      ((RZ.ItzT K a b).stop i H ∧ Qd H) ∨ ((RZ.ItzT K a b).go i H ∧ ∃ Nx : Hp → Prop, (∀ H', Nx H' → ∃ m', m' < m ∧ W (i + 1) m' H') ∧ ∀ x H', (RZ.ItzT K a b).yld i H x H' → g x (wipe σ us) H' fun σ2 H2 => wipe σ2 us = wipe σ us ∧ tt σ2 H2 fun c H3 =>
        if c = true then te σ2 H3 fun y H4 => ∃ acc, H4 D = some (.lst acc) ∧ acc.length < sizeLine ∧ Nx (upd H4 D (.lst (acc ++ [y]))) else Nx H3) := by
  refine ⟨fun i m H => i + m = xs.length ∧ Pv i H, ⟨xs.length, Nat.zero_add _, h0⟩, fun i m H ⟨em, p⟩ => ?_⟩
  obtain ⟨q1, q2⟩ := hq i H p
  by_cases hi : i < xs.length
  · have g1 : xs[i]? = some xs[i] := List.getElem?_eq_getElem hi
    have g2 : ys[i]? = some (ys[i]'(by omega)) := List.getElem?_eq_getElem (by omega)
    refine .inr ⟨⟨xs, ys, _, _, q1, q2, g1, g2⟩, Pv (i + 1), fun H' p' => ⟨m - 1, by omega, by omega, p'⟩, fun v H' hy => ?_⟩
    obtain ⟨T, x, y, rfl, nT, rfl, f1, f2⟩ := hy
    exact hs i x y T H (f1 _ q1) (f2 _ q2) nT p
  · have e : i = xs.length := by omega
    subst e
    exact .inl ⟨⟨xs, ys, q1, q2, .inl (Nat.le_refl _)⟩, hd H p⟩
theorem sqt_ty {K : PySem.W.Frag} {H : Hp} {a : Addr} {xs : List V} (h : SqT K H a xs) : TyX K H (.ref a) (.type "tuple") := by
  rcases h with (h | ⟨o, h⟩) | ⟨o, its, n, hk, hc, _⟩
  · exact .base (.tup h)
  · exact .fTuple h
  · exact .kTuple hk hc
theorem Same.sqt {K : PySem.W.Frag} {H H' : Hp} {a : Addr} {xs : List V} (e : Same H H') (h : SqT K H a xs) : SqT K H' a xs := by
  rcases h with (h | ⟨o, h⟩) | h
  · exact .inl (.inl (e _ _ h))
  · exact .inl (.inr ⟨o, e _ _ h⟩)
  · exact .inr h
inductive TI : PyData → Prop where
  | int (i : Int) : TI (.int i)
  | tup {xs : List PyData} (h : ∀ x ∈ xs, TI x) (hl : xs.length ≤ 1000) : TI (.tuple xs)
theorem depth_mem : ∀ {xs : List PyData} {x : PyData}, x ∈ xs → x.depth ≤ PyData.depthAll xs
  | y :: r, x, h => by
    show x.depth ≤ max y.depth (PyData.depthAll r)
    rcases List.mem_cons.mp h with rfl | h
    · exact Nat.le_max_left _ _
    · exact Nat.le_trans (depth_mem h) (Nat.le_max_right _ _)
mutual
theorem Dp.same {K : PySem.W.Frag} {H H' : Hp} (e : Same H H') : ∀ {v : V} (d : PyData), Dp K H v d → Dp K H' v d
  | _, .none, .non => .non
  | _, .bool _, .bl _ => .bl _
  | _, .int _, .int _ => .int _
  | _, .str _, .str _ => .str _
  | _, .list ds, .lst h a => .lst (e.seq h) (DpAll.same e ds a)
  | _, .tuple ds, .tup h a => .tup (Same.sqt e h) (DpAll.same e ds a)
theorem DpAll.same {K : PySem.W.Frag} {H H' : Hp} (e : Same H H') : ∀ {vs : List V} (ds : List PyData), DpAll K H vs ds → DpAll K H' vs ds
  | _, [], .nil => .nil
  | _, d :: ds, .cons h a => .cons (Dp.same e d h) (DpAll.same e ds a)
end
theorem DpAll.len {K : PySem.W.Frag} {H : Hp} : ∀ {vs : List V} {ds : List PyData}, DpAll K H vs ds → vs.length = ds.length
  | _, _, .nil => rfl
  | _, _, .cons _ a => congrArg (· + 1) (DpAll.len a)
theorem DpAll.at {K : PySem.W.Frag} {H : Hp} : ∀ {vs : List V} {ds : List PyData} {i : Nat} {v : V}, DpAll K H vs ds → vs[i]? = some v → ∃ d, ds[i]? = some d ∧ Dp K H v d
  | _, _, _, _, .nil, h => by simp at h
  | _, _, 0, v, .cons h a, e => ⟨_, rfl, by have e' := Option.some.inj e; rw [← e']; exact h⟩
  | _, _, i + 1, v, .cons h a, e => DpAll.at (i := i) a e
def spSame (K : PySem.W.Frag) (n : Nat) : Sp := fun vs H Q _ => ∃ (x y : V) (d : PyData), vs = [x, y] ∧ TI d ∧ d.depth < n ∧ Dp K H x d ∧ Dp K H y d ∧ ∀ H', Same H H' → Q (.bl true) H'
def wispD (s : Int) (ps : List (Int × Int)) : PyData := .tuple [.int s, .tuple (ps.map fun p => .tuple [.int p.1, .int p.2])]
theorem wisp_ti {s : Int} {ps : List (Int × Int)} (h : ps.length ≤ 1000) : TI (wispD s ps) := by
  refine .tup (fun x hx => ?_) (by show 2 ≤ 1000; decide)
  simp only [List.mem_cons, List.not_mem_nil, or_false] at hx
  rcases hx with rfl | rfl
  · exact .int _
  · refine .tup (fun x hx => ?_) (by rw [List.length_map]; exact h)
    obtain ⟨p, _, rfl⟩ := List.mem_map.mp hx
    refine .tup (fun x hx => ?_) (by show 2 ≤ 1000; decide)
    simp only [List.mem_cons, List.not_mem_nil, or_false] at hx
    rcases hx with rfl | rfl
    · exact .int _
    · exact .int _
theorem wisp_depth (s : Int) (ps : List (Int × Int)) : (wispD s ps).depth ≤ 3 := by
  have h : PyData.depthAll (ps.map fun p => PyData.tuple [.int p.1, .int p.2]) ≤ 1 := by
    induction ps with
    | nil => decide
    | cons p r ih => exact Nat.max_le.mpr ⟨by show max 0 (max 0 0) + 1 ≤ 1; decide, ih⟩
  show max 0 (max (PyData.depthAll (ps.map fun p => PyData.tuple [.int p.1, .int p.2]) + 1) 0) + 1 ≤ 3
  omega
theorem tups_dp {K : PySem.W.Frag} {H : Hp} : ∀ {as : List Addr} {ps : List (Int × Int)}, TupsAt H as (ps.map stepV) → DpAll K H (as.map V.ref) (ps.map fun p => .tuple [.int p.1, .int p.2])
  | [], [], _ => .nil
  | [], p :: r, h => absurd h.1 (by simp)
  | a :: r, [], h => absurd h.1 (by simp)
  | a :: as, p :: ps, h => by
    obtain ⟨xs, h1, h2⟩ := h.2 0 a rfl
    have e : stepV p = xs := Option.some.inj h1
    subst e
    exact .cons (.tup (SqT.of h2) (.cons (.int _) (.cons (.int _) .nil))) (tups_dp ⟨Nat.succ.inj (by simpa using h.1), fun i b hb => h.2 (i + 1) b hb⟩)
theorem WispAt.dp {K : PySem.W.Frag} {H : Hp} {a : Addr} {s : Int} {ps : List (Int × Int)} (h : WispAt H a s ps) : Dp K H (.ref a) (wispD s ps) := by
  obtain ⟨st, as, h1, h2, h3⟩ := h
  exact .tup (SqT.of h1) (.cons (.int s) (.cons (.tup (SqT.of h2) (tups_dp h3)) .nil))
/-! ### how long what repr tells is -/
/-- all numbers of a thing are below 2 ^ 400 -/
inductive Sh : PyData → Prop where
  | non : Sh .none
  | bl (b : Bool) : Sh (.bool b)
  | int {i : Int} (h : i.natAbs.log2 < 400) : Sh (.int i)
  | lst {xs : List PyData} (h : ∀ x ∈ xs, Sh x) : Sh (.list xs)
  | tup {xs : List PyData} (h : ∀ x ∈ xs, Sh x) : Sh (.tuple xs)
theorem sh_all {xs : List PyData} (h : ∀ x ∈ xs, x.showable = true ∧ x.hasDict = false ∧ x.leavesShort 401 = true) : PyData.showableAll xs = true ∧ PyData.hasDictAll xs = false ∧ PyData.leavesShortAll 401 xs = true := by
  induction xs with
  | nil => exact ⟨rfl, rfl, rfl⟩
  | cons x r ih =>
    obtain ⟨h1, h2, h3⟩ := h x (by simp)
    obtain ⟨g1, g2, g3⟩ := ih fun y hy => h y (by simp [hy])
    refine ⟨?_, ?_, ?_⟩
    · show (x.showable && PyData.showableAll r) = true
      rw [h1, g1]
      rfl
    · show (x.hasDict || PyData.hasDictAll r) = false
      rw [h2, g2]
      rfl
    · show (x.leavesShort 401 && PyData.leavesShortAll 401 r) = true
      rw [h3, g3]
      rfl
theorem Sh.ok {d : PyData} (h : Sh d) : d.showable = true ∧ d.hasDict = false ∧ d.leavesShort 401 = true := by
  induction h with
  | non => exact ⟨rfl, rfl, rfl⟩
  | bl b => exact ⟨rfl, rfl, rfl⟩
  | int h =>
    refine ⟨decide_eq_true (by omega), rfl, decide_eq_true ?_⟩
    have := int_text_length_le (by decide) h
    show (Str.ofString (toString _)).length ≤ 401
    rw [PySem.ofString_length]
    exact this
  | lst _ ih => exact sh_all ih
  | tup _ ih => exact sh_all ih
theorem Sh.fits {d : PyData} (h : Sh d) (hb : d.bulk ≤ 20000) : d.shown.length ≤ sizeLine := by
  have h1 := PyData.shown_le_bulk 401 (by decide) d h.ok.2.2
  have h2 : (401 + 2) * d.bulk ≤ (401 + 2) * 20000 := Nat.mul_le_mul_left _ hb
  rw [sizeLine_eq]
  omega
theorem log_lt {i : Int} (h0 : 0 ≤ i) (h : i < 2 ^ 250) : i.natAbs.log2 < 400 := by
  by_cases hz : i.natAbs = 0
  · rw [hz]
    decide
  · have h2 : (i.natAbs : Int) = i := by omega
    have h3 : (i.natAbs : Int) < ((2 ^ 250 : Nat) : Int) := by rw [h2]; exact h
    have h4 : i.natAbs < 2 ^ 250 := Int.ofNat_lt.mp h3
    have := (Nat.log2_lt hz).mpr h4
    omega
theorem sh_nat {i : Int} (h0 : 0 ≤ i) (h : i < 2 ^ 200) : Sh (.int i) := .int (log_lt h0 (Int.lt_trans h (by decide)))
theorem wisp_sh {s : Int} {ps : List (Int × Int)} (h0 : 0 ≤ s) (h1 : s ≤ 1) (g : Good ps) : Sh (wispD s ps) := by
  refine .tup fun x hx => ?_
  simp only [List.mem_cons, List.not_mem_nil, or_false] at hx
  rcases hx with rfl | rfl
  · exact sh_nat h0 (Int.lt_of_le_of_lt h1 (by decide))
  · refine .tup fun x hx => ?_
    obtain ⟨p, hp, rfl⟩ := List.mem_map.mp hx
    have hg := g.2.2 p hp
    refine .tup fun x hx => ?_
    simp only [List.mem_cons, List.not_mem_nil, or_false] at hx
    rcases hx with rfl | rfl
    · exact sh_nat (by omega) hg.2.1
    · exact sh_nat (by omega) hg.2.2.2
theorem wisp_bulk (s : Int) (ps : List (Int × Int)) : (wispD s ps).bulk ≤ 3 * ps.length + 2 := by
  have h : PyData.bulkAll (ps.map fun p => PyData.tuple [.int p.1, .int p.2]) = 3 * ps.length := by
    induction ps with
    | nil => rfl
    | cons p r ih =>
      show (0 + 1 + (0 + 1 + 0)) + 1 + PyData.bulkAll (r.map fun p => PyData.tuple [.int p.1, .int p.2]) = 3 * (r.length + 1)
      rw [ih]
      omega
  show 0 + 1 + (PyData.bulkAll (ps.map fun p => PyData.tuple [.int p.1, .int p.2]) + 1 + 0) ≤ 3 * ps.length + 2
  omega
theorem last_row {H : Hp} {as : List Addr} {ps : List (Int × Int)} (tu : TupsAt H as ((tableOf 0 ps).map rowV)) (gd : 1 ≤ ps.length) : ∃ z b t, atI (as.map V.ref) (-1) = some (.ref z) ∧ H z = some (.tup [.int b, .int (longs ps), .int t]) := by
  have hne : ps ≠ [] := fun e => by
    rw [e] at gd
    exact absurd gd (by decide)
  obtain ⟨b', t', hl⟩ := table_last ps 0 hne
  rw [Int.zero_add, List.getLast?_eq_getElem?] at hl
  have hlen : as.length = (tableOf 0 ps).length := by
    have := tu.1
    rw [List.length_map] at this
    exact this
  have hpos : 0 < (tableOf 0 ps).length := by
    rw [table_len]
    omega
  have hi : (tableOf 0 ps).length - 1 < as.length := by omega
  have e1 : (as.map V.ref)[(tableOf 0 ps).length - 1]? = some (.ref as[(tableOf 0 ps).length - 1]) := by
    rw [List.getElem?_map, List.getElem?_eq_getElem hi]
    rfl
  obtain ⟨z, b, c, d, e2, e3, e4⟩ := row_get tu e1
  rw [hl] at e3
  have e5 := Option.some.inj e3
  obtain ⟨e6, e7⟩ := Prod.mk.inj e5
  obtain ⟨e8, e9⟩ := Prod.mk.inj e7
  rw [← e6, ← e8, ← e9] at e4
  refine ⟨z, b', t', ?_, e4⟩
  have h0 : as.map V.ref ≠ [] := fun e => by
    have := congrArg List.length e
    rw [List.length_map, hlen] at this
    have this : (tableOf 0 ps).length = 0 := this
    omega
  have h2 : (as.map V.ref).getLast h0 = .ref z := by
    have := List.getLast?_eq_getLast h0
    rw [List.getLast?_eq_getElem?, List.length_map, hlen, e1] at this
    exact (Option.some.inj this).symm.trans e2
  have h1 := List.dropLast_concat_getLast h0
  rw [h2] at h1
  rw [← h1]
  exact atI_last _ _
theorem longs_lt {ps : List (Int × Int)} (g : Good ps) : longs ps < 2 ^ 204 := by
  have h : ∀ qs : List (Int × Int), (∀ p ∈ qs, p.2 < 2 ^ 200) → longs qs ≤ qs.length * 2 ^ 200 := by
    intro qs
    induction qs with
    | nil => intro _; decide
    | cons p r ih =>
      intro hq
      have h1 := hq p (by simp)
      have h2 := ih fun x hx => hq x (by simp [hx])
      rw [longs_cons, List.length_cons, Int.natCast_add, Int.add_mul]
      have h3 : ((1 : Nat) : Int) * 2 ^ 200 = 2 ^ 200 := by decide
      rw [h3]
      omega
  have h1 := h ps fun p hp => (g.2.2 p hp).2.2.2
  have h2 : (ps.length : Int) * 2 ^ 200 ≤ 10 * 2 ^ 200 := Int.mul_le_mul_of_nonneg_right (by have := g.2.1; omega) (by decide)
  have h3 : (10 : Int) * 2 ^ 200 < 2 ^ 204 := by decide
  omega
theorem fit_of {b : Int} (h0 : 1 ≤ b) (h : b < 2 ^ 210) : CDivW 0 b := by
  refine wide_div (b := 210) (by omega) ?_ (by decide) (by decide)
  have h2 : (b.natAbs : Int) = b := by omega
  have h3 : (b.natAbs : Int) < ((2 ^ 210 : Nat) : Int) := by rw [h2]; exact h
  exact Int.ofNat_lt.mp h3
def spRightG : Sp := fun vs H Q _ => ∃ (p l : Addr) (T : Nat) (a : Addr) (s : Int) (ps : List (Int × Int)), vs = [.ref p, .ref a] ∧ Pot H p l T ∧ T < 2 ^ 36 ∧ WispAt H a s ps ∧ Good ps ∧ 0 ≤ s ∧ s ≤ 1 ∧
  ∀ (H' : Hp), Pot H' p l (T + 2000) → Keep p l H H' → Q (.bl true) H'
theorem int_get {ns : List Int} {i : Nat} {x : V} (h : (ns.map V.int)[i]? = some x) : ∃ n, x = .int n ∧ ns[i]? = some n := by
  rw [List.getElem?_map] at h
  cases q : ns[i]? with
  | none =>
    rw [q] at h
    cases h
  | some n =>
    rw [q] at h
    exact ⟨n, (Option.some.inj h).symm, rfl⟩
theorem filter_take_succ {α : Type} {l : List α} {i : Nat} {x : α} (p : α → Bool) (h : l[i]? = some x) : (l.take (i + 1)).filter p = (l.take i).filter p ++ (if p x = true then [x] else []) := by
  rw [List.take_add_one, h, List.filter_append]
  show _ ++ List.filter p [x] = _
  rw [List.filter_cons]
  rfl
/-! ### a pot of three numbers: the great number at hand, the seed, how many were drawn -/
def PotC (H : Hp) (p : Addr) (T : Nat) : Prop := ∃ (c m : Int) (t : Nat), H p = some (.lst [.int c, .int m, .int (t : Int)]) ∧ 0 ≤ c ∧ 0 ≤ m ∧ m < 2 ^ 62 ∧ t ≤ T
theorem PotC.mono {H : Hp} {p : Addr} {T U : Nat} (h : PotC H p T) (e : T ≤ U) : PotC H p U := by
  obtain ⟨c, m, t, h1, h2, h3, h4, h5⟩ := h
  exact ⟨c, m, t, h1, h2, h3, h4, Nat.le_trans h5 e⟩
theorem PotC.new {H : Hp} {p a : Addr} {T : Nat} {o : HO} (h : PotC H p T) (n : H a = none) : PotC (upd H a o) p T := by
  obtain ⟨c, m, t, h1, h2⟩ := h
  exact ⟨c, m, t, by rw [upd_ne (ne_of_none h1 n)]; exact h1, h2⟩
theorem PotC.other {H : Hp} {p a : Addr} {T : Nat} {o : HO} (h : PotC H p T) (n : a ≠ p) : PotC (upd H a o) p T := by
  obtain ⟨c, m, t, h1, h2⟩ := h
  exact ⟨c, m, t, by rw [upd_ne n.symm]; exact h1, h2⟩
theorem PotC.notP {H : Hp} {p a : Addr} {T : Nat} {xs : List V} (h : PotC H p T) (e : H a = some (.tup xs)) : a ≠ p := by
  obtain ⟨c, m, t, h1, h2⟩ := h
  exact ne_of e h1 (by intro z; cases z)
theorem PotC.fresh {H : Hp} {p a : Addr} {T : Nat} (h : PotC H p T) (e : H a = none) : a ≠ p := by
  obtain ⟨c, m, t, h1, h2⟩ := h
  exact (ne_of_none h1 e).symm
theorem PotC.same {H H' : Hp} {p : Addr} {T : Nat} (h : PotC H p T) (e : Same H H') : PotC H' p T := by
  obtain ⟨c, m, t, h1, h2⟩ := h
  exact ⟨c, m, t, e _ _ h1, h2⟩
theorem Keep.tupsC {p : Addr} {H H' : Hp} {T : Nat} (k : Keep p p H H') (h : PotC H p T) : Tups H H' := fun a xs e => k a _ (h.notP e) (h.notP e) e
theorem Keep.freeC {p a : Addr} {H H' : Hp} {T : Nat} (k : Keep p p H H') (hp : PotC H' p T) (h : H' a = none) : H a = none := by
  have n := hp.fresh h
  cases q : H a with
  | none => rfl
  | some o =>
    rw [k a o n n q] at h
    cases h
theorem Keep.at {p a : Addr} {H H' : Hp} {o : HO} (k : Keep p p H H') (n : a ≠ p) (e : H a = some o) : H' a = some o := k a o n n e
def spBeginC (K : PySem.W.Frag) : Sp := fun vs H Q _ => ∃ (a : Addr) (ns : List Int) (i : Int), vs = [.ref a, .int i] ∧ SqL K H a (ns.map V.int) ∧ ns.length ≤ 63 ∧ 0 ≤ i ∧ i < 1000 ∧
  ∀ H' p, Same H H' → H p = none → PotC H' p 0 → Q (.ref p) H'
def spTakeC : Sp := fun vs H Q _ => ∃ (p : Addr) (T : Nat) (many : Int), vs = [.ref p, .int many] ∧ PotC H p T ∧ T < 2 ^ 40 ∧ CDivW 0 many ∧
  ∀ d H', 0 ≤ d → d < many → PotC H' p (T + 1) → Keep p p H H' → Q (.int d) H'
theorem wdiv {b : Int} (h : 0 < b) (h1 : b < 2 ^ 250) : CDivW 0 b := wide_div (b := 250) h (by
  have : (b.natAbs : Int) = b := by omega
  have h2 : (b.natAbs : Int) < ((2 ^ 250 : Nat) : Int) := by rw [this]; exact h1
  exact Int.ofNat_lt.mp h2) (by decide) (by decide)
theorem wmul {i j : Int} (h0 : 0 ≤ i) (h1 : i < 2 ^ 250) (h2 : 0 ≤ j) (h3 : j < 2 ^ 250) : CMulW i j := by
  refine wide_mul (a := 250) (b := 250) ?_ ?_ (by decide) (by decide) (by decide)
  · have e : (i.natAbs : Int) = i := by omega
    have h : (i.natAbs : Int) < ((2 ^ 250 : Nat) : Int) := by rw [e]; exact h1
    exact Int.ofNat_lt.mp h
  · have e : (j.natAbs : Int) = j := by omega
    have h : (j.natAbs : Int) < ((2 ^ 250 : Nat) : Int) := by rw [e]; exact h3
    exact Int.ofNat_lt.mp h
theorem Keep.from {p : Addr} {H H1 H2 : Hp} (k : Keep p p H1 H2) (s : Same H H1) (np : H p = none) : Same H H2 := fun b o e => k b o (ne_of_none e np) (ne_of_none e np) (s b o e)
theorem pairD {K : PySem.W.Frag} {H : Hp} {a : Addr} {i j : Int} (h : H a = some (.tup [.int i, .int j])) : Dp K H (.ref a) (.tuple [.int i, .int j]) := .tup (SqT.of h) (.cons (.int _) (.cons (.int _) .nil))
/-! ### sum of a tuple, list(range(n)) -/
section
variable {X : Cx}
theorem tup_total {prog : Program} {w : World} {A : Around} {E : Value → Shared → Prop} {s : Shared} {l : Addr} {xs : Array (Int × Tok)} {Q : Value → Shared → Prop} (hh : A.handled = none) (hl : s.heap.IsTuple l (intItems xs))
    (h : ∀ h' tk t', (∀ b o, s.heap.get? b = some o → h'.get? b = some o) → Q (.int (preSum (numAt xs) xs.size) t') { s with heap := h', toks := tk }) : wpAny (model prog w) A (call (.builtin "sum") [.ref l]) Q E s := by
  have lt : l < s.heap.objs.size := by
    obtain ⟨o, e, _⟩ := hl
    exact Heap.lt_size e
  have nn : (s.heap.push { cls := .type "tuple_iterator", data := .fields #[.ref l, .int 0 0] }).objs.size = s.heap.objs.size + 1 := Heap.size_push _ _
  refine call_sum_walkG (wpAny_pyIter_tuple hl ⟨_, _, _, _, _, _, numAt xs, rfl, Walks.tuple (A := A.in1) hh _ l (Nat.ne_of_lt lt) (intItems xs), ⟨⟨_, Heap.get?_push_size _ rfl, rfl, rfl⟩, ?_⟩, fun b hb => ?_, (fun _ _ => intItems_at), fun h' tk t' hk => ?_⟩)
  · obtain ⟨o, e, r⟩ := hl
    exact ⟨o, Heap.get?_push_of_some _ e, r⟩
  · show b < (s.heap.push { cls := .type "tuple_iterator", data := .fields #[.ref l, .int 0 0] }).objs.size
    rw [nn]
    simp only [List.mem_cons, List.not_mem_nil, or_false] at hb
    rcases hb with rfl | rfl
    · exact Nat.lt_succ_self _
    · exact Nat.lt_succ_of_lt lt
  · have z := h h' tk t' fun b o e => hk b o (fun hm => by
      simp only [List.mem_cons, List.not_mem_nil, or_false] at hm
      rw [hm] at e
      exact absurd (Heap.lt_size e) (Nat.lt_irrefl _)) (Heap.get?_push_of_some _ e)
    simpa [intItems] using z
theorem cr_sumT (hc : X.calm = true) : CallR X (.builtin "sum") (fun vs H Q => ∃ (a : Addr) (ns : List Int), vs = [V.ref a] ∧ SqT X.K H a (ns.map V.int) ∧ Q (.int ns.sum) H) := by
  intro pins s σ H vs us Q I r h
  obtain ⟨a, ns, rfl, hs, q⟩ := h
  obtain ⟨its, rv, hl, _⟩ := I.tuple hs
  rw [Vals.ref1 r]
  obtain ⟨xs, e⟩ := rv.ints.allInts.items
  have hn : numsOf (intItems xs).toList = ns := by rw [← e]; exact rv.ints.numsOf
  rw [nums_intItems] at hn
  rw [e] at hl
  refine tup_total (I.ok.hd hc) hl fun h' tk t' hk => ?_
  rw [preSum_eq, List.take_of_length_le (by simp), hn]
  exact ⟨.int _, H, I.kept hk, ⟨_, rfl⟩, q⟩
theorem cr_rangeN : CallR X (.type "range") (fun vs H Q => ∃ j, vs = [V.int j] ∧ ∀ p, H p = none → Q (.ref p) (upd H p (.rng 0 j))) := by
  intro pins s σ H vs us Q I r h
  obtain ⟨j, rfl, q⟩ := h
  obtain ⟨u, rfl, ⟨t, rfl⟩⟩ := vals1 r
  refine call_range_1 ⟨.ref s.heap.objs.size, upd H s.heap.objs.size (.rng 0 j), I.laid (t' := s.toks + 1 + 1) (fun b o e => Heap.get?_push_of_some _ e) (Nat.le_refl _) ?_, rfl, q _ (I.hok.fresh (Nat.le_refl _))⟩
  exact ⟨s.toks, t, s.toks + 1, Heap.get?_push_size _ rfl⟩
def upTo (n : Nat) : List Int := (List.range n).map fun (i : Nat) => (i : Int)
theorem vals_upTo : ∀ (n : Nat) (vs : List Value), vs.length = n → (∀ (j : Nat) (v : Value), vs[j]? = some v → ∃ t, v = .int ((j : Nat) : Int) t) → Vals ((upTo n).map V.int) vs := by
  intro n
  induction n with
  | zero =>
    intro vs hl _
    cases vs with
    | nil => exact .nil
    | cons x r => cases hl
  | succ n ih =>
    intro vs hl hv
    have hne : vs ≠ [] := fun e => by rw [e] at hl; cases hl
    have e := List.dropLast_concat_getLast hne
    have h1 := ih vs.dropLast (by rw [List.length_dropLast, hl]; rfl) (fun j v hj => hv j v (by
      rw [← e]
      rw [List.getElem?_append_left (List.getElem?_eq_some_iff.mp hj).1]
      exact hj))
    obtain ⟨t, et⟩ := hv n (vs.getLast hne) (by
      rw [List.getLast_eq_getElem]
      have : vs.length - 1 = n := by omega
      simp only [this]
      exact List.getElem?_eq_getElem (by omega))
    have e2 : upTo (n + 1) = upTo n ++ [(n : Int)] := by
      unfold upTo
      rw [List.range_succ, List.map_append]
      rfl
    rw [e2, List.map_append, ← e]
    exact Vals.append h1 (.cons ⟨t, et⟩ .nil)
theorem call_listR (hc : X.calm = true) : CallR X (.type "list") (fun vs H Q => ∃ (r : Addr) (n : Nat), vs = [.ref r] ∧ H r = some (.rng 0 (n : Int)) ∧ n ≤ 1000 ∧ ∀ l, H l = none → Q (.ref l) (upd H l (.lst ((upTo n).map V.int)))) := by
  intro pins s σ H xs us Q I r h
  obtain ⟨p, n, rfl, hp, hn, q⟩ := h
  obtain ⟨u, rfl, rx⟩ := vals1 r
  cases rx
  obtain ⟨t1, t2, t3, ho⟩ := I.hok p _ hp
  have hsz : Builtin.Range.rangeSize 0 (n : Int) 1 = (n : Int) := by
    rw [rangeSize_one]
    split <;> omega
  refine call_list_range (n := n) (I.ok.hd hc) ho ?_ hsz (by omega) fun h' tk acc' c' hk hS hacc => ?_
  · exact small_one (by decide) (by decide) (by omega) (by omega)
  · have hv : Vals ((upTo n).map V.int) acc'.toList := vals_upTo n acc'.toList (by rw [Array.length_toList]; exact hacc.1) fun j v hj => by
      obtain ⟨t, e⟩ := hacc.2 j v (by rw [← Array.getElem?_toList]; exact hj)
      exact ⟨t, by rw [e]; simp⟩
    refine ⟨.ref s.heap.objs.size, _, I.laid (t' := tk) hk (Nat.le_refl _) (show ObjOk X.prog X.w _ h' _ (.lst ((upTo n).map V.int)) from ⟨?_, acc'.toList, c', hv, by simpa using hS⟩), rfl, q _ (I.hok.fresh (Nat.le_refl _))⟩
    show ((upTo n).map V.int).length ≤ sizeLine
    unfold upTo
    rw [List.length_map, List.length_map, List.length_range]
    exact Nat.le_trans hn (by decide)
end
theorem dpInts {K : PySem.W.Frag} (H : Hp) : ∀ ns : List Int, DpAll K H (ns.map V.int) (ns.map PyData.int)
  | [] => .nil
  | n :: r => .cons (.int n) (dpInts H r)
theorem shInts (ns : List Int) : SeqAt.shaped (.list (ns.map PyData.int)) = true := by
  have h1 : PyData.canLayAll0 (ns.map PyData.int) = true := by
    induction ns with
    | nil => rfl
    | cons n r ih => exact (Bool.and_eq_true_iff.mpr ⟨rfl, ih⟩)
  have h2 : PyData.depthAll (ns.map PyData.int) = 0 := by
    clear h1
    induction ns with
    | nil => rfl
    | cons n r ih =>
      show max 0 (PyData.depthAll (r.map PyData.int)) = 0
      rw [ih]
      rfl
  refine Bool.and_eq_true_iff.mpr ⟨h1, decide_eq_true ?_⟩
  show PyData.depthAll (ns.map PyData.int) + 1 ≤ 64
  rw [h2]
  decide
/-! ### mixtures -/
def NumC (n : Int) : Prop := 0 ≤ n ∧ n < 2 ^ 140
def spNumC : Sp := fun vs H Q _ => ∃ (p : Addr) (T : Nat), vs = [.ref p] ∧ PotC H p T ∧ T < 2 ^ 38 ∧ ∀ d H', NumC d → PotC H' p (T + 10) → Keep p p H H' → Q (.int d) H'
def spGreatC : Sp := fun vs H Q _ => ∃ (p : Addr) (T : Nat), vs = [.ref p] ∧ PotC H p T ∧ T < 2 ^ 39 ∧ ∀ d H', 0 ≤ d → d < 2 ^ 135 → PotC H' p (T + 3) → Keep p p H H' → Q (.int d) H'
def MixAt (H : Hp) (a : Addr) (m n : Int) : Prop := H a = some (.tup [.int m, .int n]) ∧ NumC m ∧ NumC n ∧ 0 < m + n
theorem MixAt.mono {H H' : Hp} {a : Addr} {m n : Int} (h : MixAt H a m n) (t : Tups H H') : MixAt H' a m n := ⟨t _ _ h.1, h.2⟩
def spMixC : Sp := fun vs H Q _ => ∃ (p : Addr) (T : Nat), vs = [.ref p] ∧ PotC H p T ∧ T < 2 ^ 37 ∧ ∀ a m n H', MixAt H' a m n → H a = none → PotC H' p (T + 20) → Keep p p H H' → Q (.ref a) H'
def firsts (m n k : Int) : Int := k * m / (m + n)
def sortAt (m n k : Int) : Int := if firsts m n (k + 1) > firsts m n k then 0 else 1
def spTaken : Sp := fun vs H Q _ => ∃ (a : Addr) (m n k : Int), vs = [.ref a, .int k] ∧ MixAt H a m n ∧ 0 ≤ k ∧ k < 2 ^ 200 ∧ ∀ H' b, Same H H' → H b = none → H' b = some (.tup [.int (firsts m n k), .int (k - firsts m n k)]) → Q (.ref b) H'
def spSortOf : Sp := fun vs H Q _ => ∃ (a : Addr) (m n k : Int), vs = [.ref a, .int k] ∧ MixAt H a m n ∧ 0 ≤ k ∧ k < 2 ^ 199 ∧ ∀ H', Same H H' → Q (.int (sortAt m n k)) H'
def spRight29 : Sp := fun vs H Q _ => ∃ (a : Addr) (m n k : Int), vs = [.ref a, .int k] ∧ MixAt H a m n ∧ 0 ≤ k ∧ k < 2 ^ 199 ∧ ∀ H', Same H H' → Q (.bl true) H'
theorem firsts_bounds {m n k : Int} (h0 : 0 ≤ m) (h1 : 0 < m + n) (h2 : 0 ≤ k) : 0 ≤ firsts m n k ∧ 0 ≤ k * m - firsts m n k * (m + n) ∧ k * m - firsts m n k * (m + n) < m + n := by
  unfold firsts
  have e := Int.mul_ediv_add_emod (k * m) (m + n)
  have a1 := Int.emod_nonneg (k * m) (Int.ne_of_gt h1)
  have a2 := Int.emod_lt_of_pos (k * m) h1
  rw [Int.mul_comm (m + n)] at e
  exact ⟨Int.ediv_nonneg (Int.mul_nonneg h2 h0) (Int.le_of_lt h1), by omega, by omega⟩
theorem firsts_le {m n k : Int} (h0 : 0 ≤ m) (hn : 0 ≤ n) (h1 : 0 < m + n) (h2 : 0 ≤ k) : firsts m n k ≤ k := by
  obtain ⟨a, b, c⟩ := firsts_bounds h0 h1 h2
  have e : k * m ≤ k * (m + n) := Int.mul_le_mul_of_nonneg_left (by omega) h2
  have e2 : firsts m n k * (m + n) ≤ k * (m + n) := by omega
  exact Int.le_of_mul_le_mul_right e2 h1
theorem firsts_succ {m n k : Int} (h0 : 0 ≤ m) (hn : 0 ≤ n) (h1 : 0 < m + n) (h2 : 0 ≤ k) : firsts m n (k + 1) = firsts m n k ∨ firsts m n (k + 1) = firsts m n k + 1 := by
  obtain ⟨a, b, c⟩ := firsts_bounds h0 h1 h2
  obtain ⟨a', b', c'⟩ := firsts_bounds (k := k + 1) h0 h1 (by omega)
  have e : (k + 1) * m = k * m + m := by rw [Int.add_mul, Int.one_mul]
  rw [e] at b' c'
  generalize firsts m n (k + 1) = q' at *
  generalize firsts m n k = q at *
  have h3 : m ≤ m + n := by omega
  generalize m + n = W at *
  by_cases g1 : q' < q
  · have : (q' + 1) * W ≤ q * W := Int.mul_le_mul_of_nonneg_right (by omega) (by omega)
    rw [Int.add_mul, Int.one_mul] at this
    omega
  · by_cases g2 : q + 1 < q'
    · have : (q + 2) * W ≤ q' * W := Int.mul_le_mul_of_nonneg_right (by omega) (by omega)
      rw [Int.add_mul] at this
      omega
    · omega
theorem firsts_sort {m n k : Int} (h0 : 0 ≤ m) (hn : 0 ≤ n) (h1 : 0 < m + n) (h2 : 0 ≤ k) : firsts m n (k + 1) = firsts m n k + 1 - sortAt m n k ∧ (sortAt m n k = 0 ∨ sortAt m n k = 1) := by
  unfold sortAt
  rcases firsts_succ h0 hn h1 h2 with e | e
  · rw [e, if_neg (by omega)]
    exact ⟨by omega, .inr rfl⟩
  · rw [e, if_pos (by omega)]
    exact ⟨by omega, .inl rfl⟩
/-! ### mixtures part by part -/
abbrev Mx := Int × Int × Int
def GoodM (t : Mx) : Prop := 0 ≤ t.1 ∧ t.1 < 2 ^ 150 ∧ NumC t.2.1 ∧ NumC t.2.2 ∧ 0 < t.2.1 + t.2.2
def GoodP (ts : List Mx) : Prop := 1 ≤ ts.length ∧ ts.length ≤ 8 ∧ (∀ t ∈ ts, GoodM t) ∧ ∀ t, ts[0]? = some t → t.1 = 0
def PartsAt (H : Hp) (a : Addr) (ts : List Mx) : Prop := ∃ as, H a = some (.tup (as.map V.ref)) ∧ TupsAt H as (ts.map rowV)
theorem PartsAt.mono {H H' : Hp} {a : Addr} {ts : List Mx} (h : PartsAt H a ts) (t : Tups H H') : PartsAt H' a ts := by
  obtain ⟨as, h1, h2⟩ := h
  exact ⟨as, t _ _ h1, h2.mono t⟩
def selF (k : Int) (d : Mx) : List Mx → Mx
  | [] => d
  | t :: r => selF k (if t.1 ≤ k then t else d) r
theorem selF_snoc (k : Int) (t : Mx) : ∀ (xs : List Mx) (d : Mx), selF k d (xs ++ [t]) = if t.1 ≤ k then t else selF k d xs
  | [], d => rfl
  | x :: r, d => selF_snoc k t r _
def sA (k : Int) (d : Mx) : Int := sortAt d.2.1 d.2.2 (k - d.1)
theorem selF_ok {k : Int} {S : Mx → Prop} : ∀ (xs : List Mx) (d : Mx), S d → d.1 ≤ k → (∀ x ∈ xs, S x) → S (selF k d xs) ∧ (selF k d xs).1 ≤ k
  | [], d, h, h1, _ => ⟨h, h1⟩
  | x :: r, d, h, h1, ha => by
    refine selF_ok r (if x.1 ≤ k then x else d) ?_ ?_ fun y hy => ha y (by simp [hy])
    · split
      · exact ha x (by simp)
      · exact h
    · split
      · next h2 => exact h2
      · exact h1
def pickOf (k : Int) (ts : List Mx) : Int := sA k (selF k (ts.headD (0, 1, 1)) ts)
def spSortBy : Sp := fun vs H Q _ => ∃ (a : Addr) (ts : List Mx) (k : Int), vs = [.ref a, .int k] ∧ PartsAt H a ts ∧ GoodP ts ∧ 0 ≤ k ∧ k < 2 ^ 190 ∧ ∀ H', Same H H' → Q (.int (pickOf k ts)) H'
def spParts30 : Sp := fun vs H Q _ => ∃ (p : Addr) (T : Nat), vs = [.ref p] ∧ PotC H p T ∧ T < 2 ^ 37 ∧ ∀ H' a ts, PartsAt H' a ts → GoodP ts → H a = none → PotC H' p (T + 250) → Keep p p H H' → Q (.ref a) H'
theorem good_head {ts : List Mx} (h : GoodP ts) : ∃ t r, ts = t :: r ∧ t.1 = 0 := by
  obtain ⟨h1, _, _, h4⟩ := h
  cases ts with
  | nil => exact absurd h1 (by decide)
  | cons t r => exact ⟨t, r, rfl, h4 t rfl⟩
theorem sel_take {k : Int} {ts : List Mx} {i : Nat} {t : Mx} (d : Mx) (h : ts[i]? = some t) : selF k d (ts.take (i + 1)) = if t.1 ≤ k then t else selF k d (ts.take i) := by
  rw [List.take_add_one, h]
  exact selF_snoc k t _ d
/-! ### rows blended -/
section
variable {X : Cx}
def rGetL (K : PySem.W.Frag) : V → V → Hp → VK → Prop := fun o i H Q => ∃ (p : Addr) (xs : List V) (k : Nat) (z : V), o = .ref p ∧ i = .int (k : Int) ∧ SqL K H p xs ∧ xs[k]? = some z ∧ Q z H
theorem get_list : PGet X (rGetL X.K) := by
  intro pins s σ H o i ov iv Q I ro ri h
  obtain ⟨p, xs, k, z, rfl, rfl, hq, he, q⟩ := h
  cases ro
  obtain ⟨t, rfl⟩ := ri
  obtain ⟨its, rv, pl, hz⟩ := I.list hq
  obtain ⟨u, eu, ru⟩ := rv.get he
  have hk : k < xs.length := (List.getElem?_eq_some_iff.mp he).1
  have ln := line63
  exact wpAny_getItem_list pl.isList (Int.natCast_nonneg k) (by omega) (by rw [Int.toNat_natCast]; simpa using eu) ⟨z, H, I, ru, q⟩
end
def WispsAt (H : Hp) (as : List Addr) : Prop := ∀ a ∈ as, ∃ so ps, WispAt H a so ps
theorem WispsAt.mono {H H' : Hp} {as : List Addr} (h : WispsAt H as) (t : Tups H H') : WispsAt H' as := fun a ha => by
  obtain ⟨so, ps, g⟩ := h a ha
  exact ⟨so, ps, g.mono t⟩
theorem wisp_can (so : Int) (ps : List (Int × Int)) : (wispD so ps).canLay0 = true := by
  have h : PyData.canLayAll0 (ps.map fun p => PyData.tuple [.int p.1, .int p.2]) = true := by
    induction ps with
    | nil => rfl
    | cons p r ih => exact Bool.and_eq_true_iff.mpr ⟨rfl, ih⟩
  show (true && (PyData.canLayAll0 (ps.map fun p => PyData.tuple [.int p.1, .int p.2]) && true)) = true
  rw [h]
  rfl
theorem wisps_dp {K : PySem.W.Frag} {H : Hp} : ∀ {as : List Addr}, WispsAt H as → ∃ ds : List PyData, DpAll K H (as.map V.ref) ds ∧ PyData.canLayAll0 ds = true ∧ PyData.depthAll ds ≤ 3
  | [], _ => ⟨[], .nil, rfl, Nat.zero_le _⟩
  | a :: r, h => by
    obtain ⟨so, ps, g⟩ := h a (by simp)
    obtain ⟨ds, h1, h2, h3⟩ := wisps_dp (K := K) (as := r) fun b hb => h b (by simp [hb])
    refine ⟨wispD so ps :: ds, .cons g.dp h1, Bool.and_eq_true_iff.mpr ⟨wisp_can so ps, h2⟩, Nat.max_le.mpr ⟨wisp_depth so ps, h3⟩⟩
theorem shT {ds : List PyData} (h : PyData.canLayAll0 ds = true) (hd : PyData.depthAll ds ≤ 3) : SeqAt.shaped (.tuple ds) = true ∧ SeqAt.shaped (.list ds) = true := by
  refine ⟨Bool.and_eq_true_iff.mpr ⟨h, decide_eq_true ?_⟩, Bool.and_eq_true_iff.mpr ⟨h, decide_eq_true ?_⟩⟩
  · show PyData.depthAll ds + 1 ≤ 64
    omega
  · show PyData.depthAll ds + 1 ≤ 64
    omega
/-- the picks, one by one -/
def bl (f : Nat → Int) : Nat → Nat → List Addr → List Addr → List Addr
  | _, 0, _, _ => []
  | k, n + 1, xs, ys => if f k = 0 then (match xs with | [] => [] | x :: r => x :: bl f (k + 1) n r ys) else (match ys with | [] => [] | y :: r => y :: bl f (k + 1) n xs r)
theorem bl_0nil {f : Nat → Int} {k n : Nat} {ys : List Addr} (h : f k = 0) : bl f k (n + 1) [] ys = [] := by simp [bl, h]
theorem bl_0cons {f : Nat → Int} {k n : Nat} {x : Addr} {r ys : List Addr} (h : f k = 0) : bl f k (n + 1) (x :: r) ys = x :: bl f (k + 1) n r ys := by simp [bl, h]
theorem bl_1nil {f : Nat → Int} {k n : Nat} {xs : List Addr} (h : ¬ f k = 0) : bl f k (n + 1) xs [] = [] := by simp [bl, h]
theorem bl_1cons {f : Nat → Int} {k n : Nat} {y : Addr} {xs r : List Addr} (h : ¬ f k = 0) : bl f k (n + 1) xs (y :: r) = y :: bl f (k + 1) n xs r := by simp [bl, h]
theorem bl_mem (f : Nat → Int) : ∀ (n k : Nat) (xs ys : List Addr), ∀ a ∈ bl f k n xs ys, a ∈ xs ∨ a ∈ ys
  | 0, _, _, _, a, h => by cases h
  | n + 1, k, xs, ys, a, h => by
    unfold bl at h
    split at h
    · cases xs with
      | nil => cases h
      | cons x r =>
        rcases List.mem_cons.mp h with rfl | h
        · exact .inl (by simp)
        · rcases bl_mem f n (k + 1) r ys a h with h | h
          · exact .inl (by simp [h])
          · exact .inr h
    · cases ys with
      | nil => cases h
      | cons y r =>
        rcases List.mem_cons.mp h with rfl | h
        · exact .inr (by simp)
        · rcases bl_mem f n (k + 1) xs r a h with h | h
          · exact .inl h
          · exact .inr (by simp [h])
theorem bl_len (f : Nat → Int) : ∀ (n k : Nat) (xs ys : List Addr), (bl f k n xs ys).length ≤ n
  | 0, _, _, _ => Nat.zero_le _
  | n + 1, k, xs, ys => by
    unfold bl
    split
    · cases xs with
      | nil => exact Nat.zero_le _
      | cons x r => exact Nat.succ_le_succ (bl_len f n (k + 1) r ys)
    · cases ys with
      | nil => exact Nat.zero_le _
      | cons y r => exact Nat.succ_le_succ (bl_len f n (k + 1) xs r)
theorem sort_two (k : Int) (ts : List Mx) : pickOf k ts = 0 ∨ pickOf k ts = 1 := by
  unfold pickOf sA sortAt
  split
  · exact .inl rfl
  · exact .inr rfl
abbrev pk (ts : List Mx) : Nat → Int := fun k => pickOf ((k : Nat) : Int) ts
def spBlended : Sp := fun vs H Q _ => ∃ (a b c : Addr) (as bs : List Addr) (ts : List Mx), vs = [.ref a, .ref b, .ref c] ∧ H a = some (.tup (as.map V.ref)) ∧ H b = some (.tup (bs.map V.ref)) ∧ as.length ≤ 60 ∧ bs.length ≤ 60 ∧ PartsAt H c ts ∧ GoodP ts ∧
  ∀ H' o, Same H H' → H o = none → H' o = some (.tup ((bl (pk ts) 0 60 as bs).map V.ref)) → Q (.ref o) H'
def spLawBlended : Sp := fun vs H Q _ => ∃ (r a b c : Addr) (as bs : List Addr) (ts : List Mx), vs = [.ref r, .ref c] ∧ H r = some (.lst [.ref a, .ref b]) ∧ H a = some (.tup (as.map V.ref)) ∧ H b = some (.tup (bs.map V.ref)) ∧ as.length ≤ 60 ∧ bs.length ≤ 60 ∧ WispsAt H as ∧ WispsAt H bs ∧ PartsAt H c ts ∧ GoodP ts ∧
  ∀ H' o, Same H H' → H o = none → H' o = some (.tup ((bl (pk ts) 0 60 as bs).map V.ref)) → Q (.ref o) H'
def spWisps31 : Sp := fun vs H Q _ => ∃ (p : Addr) (T : Nat) (so : Int), vs = [.ref p, .int so] ∧ PotC H p T ∧ T < 2 ^ 36 ∧ ∀ H' o as, H o = none → H' o = some (.tup (as.map V.ref)) → as.length ≤ 60 → WispsAt H' as → PotC H' p (T + 10) → Keep p p H H' → Q (.ref o) H'
theorem drop_get {α : Type} {xs : List α} {u : Nat} {x : α} (h : xs[u]? = some x) : xs.drop u = x :: xs.drop (u + 1) := by
  obtain ⟨h1, h2⟩ := List.getElem?_eq_some_iff.mp h
  rw [← h2]
  exact List.drop_eq_getElem_cons h1
section
variable {P : Program} {w : World} {K : PySem.W.Frag} {mg : Str → Option Value} {base : Heap}
theorem ok__law_pot {f : Addr} {fd : FuncData} {k : Nat} (F : Fun K "_law_pot" "_law_pot" s__law_pot f fd) (bi : Bi mg) : FnOk P w K mg base CX0 (k + 1) f fd P__law_pot (spBeginC K) := by
  refine F.ok sc__law_pot (fun vs H Q E h => ?_) (fun cdv A outer s H vs Q E hr h => ?_)
  · obtain ⟨a, ns, i, rfl, _⟩ := h
    rfl
  · obtain ⟨a, ns, i, rfl, hS, hn, i0, i1, q⟩ := h
    refine ⟨_, (C8.pss_cut (ps_set (i := 2) sc__law_pot.nd rfl (.inl rfl) (pe_ifExp (pt_cmpR op_gt (pe_callB call_len_seq (by rfl) bi.m_len (by decide +kernel) (pa_cons (pv 0) pa_nil)) pe_int (nomark _)) (pe_ix ix_list (pv 0) (pe_op op_mod (pv 1) (pe_callB call_len_seq (by rfl) bi.m_len (by decide +kernel) (pa_cons (pv 0) pa_nil))) (fun _ _ => rfl)) pe_int))
    (pss_cons (ps_set (i := 3) sc__law_pot.nd rfl (.inl rfl) (pe_op op_mulW (pe_op op_mulW (pe_op op_mulW (pe_op op_mulW (pe_op op_mulW (pe_op op_pow pe_int pe_int) (pe_op op_pow pe_int pe_int)) (pe_op op_pow pe_int pe_int)) (pe_op op_pow pe_int pe_int)) (pe_op op_pow pe_int pe_int)) (pe_op op_pow pe_int pe_int)))
    (pss_cons (ps_set (i := 4) sc__law_pot.nd rfl (.inl rfl) (pe_op op_mod (pe_op op_mul (pe_op op_add (pe_op op_add (pe_op op_mod (pv 2) (pe_op op_pow pe_int pe_int)) (pe_op op_mul (pe_op op_mul pe_int (pv 1)) (pv 1))) pe_int) pe_int) pe_int))
    (pss_one (ps_ret (pe_lst (pa_cons (pe_op op_mul (pe_op op_mod (pv 2) (pv 3)) (pe_callTy call_int1 (by rfl) bi.m_int (by decide +kernel) (pa_cons (pe_cmpR op_ge (pv 2) (pe_op op_pow pe_int pe_int) (nomark _)) pa_nil))) (pa_cons (pv 4) (pa_cons pe_int pa_nil))))))))), ?_⟩
    refine ⟨fun σ' H' => ∃ c : Int, σ' = [some (.ref a), some (.int i), some (.int c), none, none] ∧ H' = H, ?_, fun σ' H' hm => ?_⟩
    · refine ⟨_, rfl, a, _, rfl, .inl hS, _, _, rfl, rfl, _, rfl, ite2 (fun e => ?_) (fun e => ?_)⟩
      · have e' : ((ns.map V.int).length : Int) > 0 := of_decide_eq_true e
        rw [List.length_map] at e'
        have h1 : 0 ≤ i % (ns.length : Int) := Int.emod_nonneg _ (by omega)
        have h2 : i % (ns.length : Int) < ns.length := Int.emod_lt_of_pos _ e'
        obtain ⟨j, hj⟩ : ∃ j : Nat, i % (ns.length : Int) = j := ⟨(i % (ns.length : Int)).toNat, by omega⟩
        have hjl : j < ns.length := by omega
        refine ⟨_, rfl, _, rfl, _, rfl, a, _, rfl, .inl hS, _, _, rfl, rfl, (by rw [List.length_map]; exact e'), a, _, _, .int ns[j], rfl, rfl, hS, ?_, _, rfl, rfl⟩
        rw [List.length_map, hj]
        refine atI_nat ?_
        rw [List.getElem?_map, List.getElem?_eq_getElem hjl]
        rfl
      · exact ⟨_, rfl, rfl⟩
    · obtain ⟨c, rfl, rfl⟩ := hm
      refine ⟨_, _, rfl, rfl, ⟨by decide, by decide, by decide⟩, _, _, rfl, rfl, ⟨by decide, by decide, by decide⟩, _, _, rfl, rfl, (by unfold CMulW; decide +kernel), _, _, rfl, rfl, ⟨by decide, by decide, by decide⟩, _, _, rfl, rfl, (by unfold CMulW; decide +kernel), _, _, rfl, rfl, ⟨by decide, by decide, by decide⟩, _, _, rfl, rfl, (by unfold CMulW; decide +kernel), _, _, rfl, rfl, ⟨by decide, by decide, by decide⟩, _, _, rfl, rfl, (by unfold CMulW; decide +kernel), _, _, rfl, rfl, ⟨by decide, by decide, by decide⟩, _, _, rfl, rfl, (by unfold CMulW; decide +kernel), ?_⟩
      refine ⟨_, rfl, _, _, rfl, rfl, ⟨by decide, by decide, by decide⟩, _, _, rfl, rfl, (by show (0 : Int) < 10 ^ (30 : Int).toNat; decide), _, rfl, _, _, rfl, rfl, .inl ⟨by decide, by decide⟩, _, rfl, _, _, rfl, rfl, .inr ⟨by omega, by omega⟩, _, _, rfl, rfl, _, _, rfl, rfl, _, _, rfl, rfl, .inr ⟨by decide, by decide⟩, _, _, rfl, rfl, (by show (0 : Int) < 2305843009213693951; decide), ?_⟩
      refine ⟨_, rfl, _, rfl, _, _, rfl, rfl, (by show (0 : Int) < 10 ^ (60 : Int).toNat * 10 ^ (60 : Int).toNat * 10 ^ (60 : Int).toNat * 10 ^ (60 : Int).toNat * 10 ^ (60 : Int).toNat * 10 ^ (60 : Int).toNat; decide +kernel), _, rfl, _, _, rfl, rfl, ⟨by decide, by decide, by decide⟩, _, _, rfl, rfl, .inr ⟨_, rfl, ?_⟩⟩
      generalize hb : (10 : Int) ^ (60 : Int).toNat * 10 ^ (60 : Int).toNat * 10 ^ (60 : Int).toNat * 10 ^ (60 : Int).toNat * 10 ^ (60 : Int).toNat * 10 ^ (60 : Int).toNat = B
      have B0 : 0 < B := by
        rw [← hb]
        decide +kernel
      have c0 := Int.emod_nonneg c (Int.ne_of_gt B0)
      generalize hd : (if decide (10 ^ Int.toNat 18 ≤ c) = true then (1 : Int) else 0) = d
      have d0 : 0 ≤ d ∧ d ≤ 1 := by
        rw [← hd]
        split <;> decide
      refine ⟨_, _, rfl, rfl, .inr ⟨by omega, by omega⟩, _, rfl, (by show 3 ≤ sizeLine; decide), fun p np => ?_⟩
      refine q _ p (same_new (Same.refl _) np) np ⟨_, _, 0, upd_same, Int.mul_nonneg c0 d0.1, Int.emod_nonneg _ (by decide), Int.lt_trans (Int.emod_lt_of_pos _ (by decide)) (by decide), Nat.le_refl _⟩
theorem ok__law_pick {f : Addr} {fd : FuncData} {k : Nat} (F : Fun K "_law_pick" "_law_pick" s__law_pick f fd) (bi : Bi mg) : FnOk P w K mg base CX0 (k + 1) f fd P__law_pick spTakeC := by
  refine F.ok sc__law_pick (fun vs H Q E h => ?_) (fun cdv A outer s H vs Q E hr h => ?_)
  · obtain ⟨p, T, many, rfl, _⟩ := h
    rfl
  · obtain ⟨p, T, many, rfl, hp, hT, m0, q⟩ := h
    refine ⟨_, (pss_cons (ps_if (pt_cmpR op_gt (pe_ix ix_list (pv 0) pe_int (fun _ _ => rfl)) pe_int (nomark _))
      (pss_cons (ps_set (i := 2) sc__law_pick.nd rfl (.inl rfl) (pe_op op_mod (pe_ix ix_list (pv 0) pe_int (fun _ _ => rfl)) (pv 1)))
        (pss_cons (ps_asg (pe_op op_fdivW (pe_ix ix_list (pv 0) pe_int (fun _ _ => rfl)) (pv 1)) (pg_sub (pv 0) pe_int set_list))
        (pss_one (ps_ret (pv 2)))))
      pss_nil)
    (pss_cons (ps_asg (pe_op op_add (pe_ix ix_list (pv 0) pe_int (fun _ _ => rfl)) pe_int) (pg_sub (pv 0) pe_int set_list))
    (pss_cons (ps_set (i := 3) sc__law_pick.nd rfl (.inl rfl) (pe_op op_add (pe_op op_mul pe_int (pe_ix ix_list (pv 0) pe_int (fun _ _ => rfl))) pe_int))
    (pss_cons (ps_asg (pe_op op_mod (pe_op op_add (pe_op op_mul (pe_ix ix_list (pv 0) pe_int (fun _ _ => rfl)) pe_int) (pv 3)) pe_int) (pg_sub (pv 0) pe_int set_list))
    (pss_cons (ps_set (i := 4) sc__law_pick.nd rfl (.inl rfl) (pe_op op_mod (pe_op op_mul (pe_ix ix_list (pv 0) pe_int (fun _ _ => rfl)) (pe_op op_add (pe_op op_mod (pe_ix ix_list (pv 0) pe_int (fun _ _ => rfl)) pe_int) (pe_op op_mul pe_int (pe_ix ix_list (pv 0) pe_int (fun _ _ => rfl))))) pe_int))
    (pss_one (ps_ret (pe_op op_mod (pe_op op_fdiv (pv 4) pe_int) (pv 1))))))))), ?_⟩
    obtain ⟨c, m, t, ep, c0, s0, s1, tT⟩ := hp
    refine ⟨_, rfl, p, _, 0, _, rfl, rfl, SqL.of ep, atI_nat (j := 0) rfl, _, _, rfl, rfl, _, rfl, ite2 (fun e => ?_) (fun e => ?_)⟩
    · refine ⟨_, rfl, p, _, 0, _, rfl, rfl, SqL.of ep, atI_nat (j := 0) rfl, _, rfl, _, _, rfl, rfl, m0.1, ?_⟩
      refine ⟨_, rfl, p, _, 0, _, rfl, rfl, SqL.of ep, atI_nat (j := 0) rfl, _, rfl, _, _, rfl, rfl, m0, _, rfl, p, _, 0, 0, rfl, rfl, ep, rfl, ?_⟩
      exact ⟨_, rfl, q _ _ (Int.emod_nonneg _ (Int.ne_of_gt m0.1)) (Int.emod_lt_of_pos _ m0.1) ⟨_, m, t, upd_same, Int.ediv_nonneg c0 (Int.le_of_lt m0.1), s0, s1, by omega⟩ Keep.refl.own⟩
    · -- pot[2] + 1
      refine ⟨_, rfl, p, _, 2, _, rfl, rfl, SqL.of ep, atI_nat (j := 2) rfl, _, _, rfl, rfl, _, rfl, p, _, 2, 2, rfl, rfl, ep, rfl, ?_⟩
      have ep1 : upd H p (.lst [.int c, .int m, .int ((t : Int) + 1)]) p = some (.lst [.int c, .int m, .int ((t : Int) + 1)]) := upd_same
      have k1 : Keep p p H (upd H p (.lst [.int c, .int m, .int ((t : Int) + 1)])) := Keep.refl.own
      show tSeq _ _ _ _ (upd H p (.lst [.int c, .int m, .int ((t : Int) + 1)]))
      generalize upd H p (.lst [.int c, .int m, .int ((t : Int) + 1)]) = H1 at ep1 k1
      -- step
      refine ⟨_, rfl, p, _, 2, _, rfl, rfl, SqL.of ep1, atI_nat (j := 2) rfl, _, _, rfl, rfl, .inl ⟨by decide, by decide⟩, _, _, rfl, rfl, ?_⟩
      -- the seed
      refine ⟨_, rfl, p, _, 1, _, rfl, rfl, SqL.of ep1, atI_nat (j := 1) rfl, _, _, rfl, rfl, .inr ⟨by decide, by decide⟩, _, rfl, _, _, rfl, rfl, _, _, rfl, rfl, (by show (0 : Int) < 2305843009213693951; decide), _, rfl, p, _, 1, 1, rfl, rfl, ep1, rfl, ?_⟩
      show tSeq _ _ _ _ (upd H1 p (.lst [.int c, .int ((m * 6364136223846793005 + (1442695040888963407 * ((t : Int) + 1) + 11)) % 2305843009213693951), .int ((t : Int) + 1)]))
      generalize hM : (m * 6364136223846793005 + (1442695040888963407 * ((t : Int) + 1) + 11)) % 2305843009213693951 = M
      have M0 : 0 ≤ M := by rw [← hM]; exact Int.emod_nonneg _ (by decide)
      have M1 : M < 2305843009213693951 := by rw [← hM]; exact Int.emod_lt_of_pos _ (by decide)
      have ep2 : upd H1 p (.lst [.int c, .int M, .int ((t : Int) + 1)]) p = some (.lst [.int c, .int M, .int ((t : Int) + 1)]) := upd_same
      have k2 : Keep p p H (upd H1 p (.lst [.int c, .int M, .int ((t : Int) + 1)])) := k1.own
      generalize upd H1 p (.lst [.int c, .int M, .int ((t : Int) + 1)]) = H2 at ep2 k2
      -- mixed
      refine ⟨_, rfl, p, _, 1, _, rfl, rfl, SqL.of ep2, atI_nat (j := 1) rfl, _, rfl, p, _, 1, _, rfl, rfl, SqL.of ep2, atI_nat (j := 1) rfl, _, _, rfl, rfl, (by show (0 : Int) < 1000003; decide), _, rfl, p, _, 2, _, rfl, rfl, SqL.of ep2, atI_nat (j := 2) rfl, _, _, rfl, rfl, .inl ⟨by decide, by decide⟩, _, _, rfl, rfl, _, _, rfl, rfl, .inl ⟨by omega, by omega⟩, _, _, rfl, rfl, (by show (0 : Int) < 2305843009213693921; decide), ?_⟩
      refine ⟨_, rfl, _, _, rfl, rfl, ⟨by decide, by decide⟩, _, rfl, _, _, rfl, rfl, m0.1, ?_⟩
      exact q _ _ (Int.emod_nonneg _ (Int.ne_of_gt m0.1)) (Int.emod_lt_of_pos _ m0.1) ⟨c, M, t + 1, ep2, c0, M0, by omega, by omega⟩ k2
theorem ok__law_great {f fB : Addr} {fd fdB : FuncData} (F : Fun K "_law_great" "_law_great" s__law_great f fd) (bi : Bi mg) (C__law_pick : Cal P w K mg base "_law_pick" P__law_pick 1 spTakeC fB fdB) : FnOk P w K mg base CX0 2 f fd P__law_great spGreatC := by
  refine F.ok sc__law_great (fun vs H Q E h => ?_) (fun cdv A outer s H vs Q E hr h => ?_)
  · obtain ⟨p, T, rfl, _⟩ := h
    rfl
  · obtain ⟨p, T, rfl, hp, hT, q⟩ := h
    refine ⟨_, (pss_one (ps_ret (pe_op op_add (pe_op op_add (pe_op op_mul (pe_call (C__law_pick.G.mono (by decide)) hr (by rfl) C__law_pick.g C__law_pick.kp C__law_pick.b .nil pass0 (pa_cons (pv 0) (pa_cons (pe_op op_pow pe_int pe_int) pa_nil))) (pe_op op_pow pe_int pe_int)) (pe_op op_mul (pe_call (C__law_pick.G.mono (by decide)) hr (by rfl) C__law_pick.g C__law_pick.kp C__law_pick.b .nil pass0 (pa_cons (pv 0) (pa_cons (pe_op op_pow pe_int pe_int) pa_nil))) (pe_op op_pow pe_int pe_int))) (pe_call (C__law_pick.G.mono (by decide)) hr (by rfl) C__law_pick.g C__law_pick.kp C__law_pick.b .nil pass0 (pa_cons (pv 0) (pa_cons (pe_op op_pow pe_int pe_int) pa_nil)))))), ?_⟩
    have e7 : ∀ d : Int, d < 10 ^ (7 : Int).toNat → d < 10000000 := fun d h => h
    refine ⟨_, rfl, _, _, rfl, rfl, ⟨by decide, by decide, by decide⟩, p, T, _, rfl, hp, by omega, ⟨by decide, by decide⟩, fun a H1 a0 a1 hp1 k1 => ?_⟩
    have a1 := e7 a a1
    refine ⟨_, _, rfl, rfl, ⟨by decide, by decide, by decide⟩, _, _, rfl, rfl, .inl ⟨by omega, by omega⟩, ?_⟩
    refine ⟨_, rfl, _, _, rfl, rfl, ⟨by decide, by decide, by decide⟩, p, T + 1, _, rfl, hp1, by omega, ⟨by decide, by decide⟩, fun b H2 b0 b1 hp2 k2 => ?_⟩
    have b1 := e7 b b1
    refine ⟨_, _, rfl, rfl, ⟨by decide, by decide, by decide⟩, _, _, rfl, rfl, .inl ⟨by omega, by omega⟩, _, _, rfl, rfl, ?_⟩
    refine ⟨_, rfl, _, _, rfl, rfl, ⟨by decide, by decide, by decide⟩, p, T + 2, _, rfl, hp2, by omega, ⟨by decide, by decide⟩, fun c H3 c0 c1 hp3 k3 => ?_⟩
    have c1 := e7 c c1
    refine ⟨_, _, rfl, rfl, q _ _ ?_ ?_ hp3 ((k1.trans k2).trans k3)⟩
    · show 0 ≤ a * 10 ^ 32 + b * 10 ^ 16 + c
      omega
    · show a * 10 ^ 32 + b * 10 ^ 16 + c < 2 ^ 135
      omega
theorem ok__law_number {f fB fG : Addr} {fd fdB fdG : FuncData} (F : Fun K "_law_number" "_law_number" s__law_number f fd) (bi : Bi mg) (C__law_pick : Cal P w K mg base "_law_pick" P__law_pick 1 spTakeC fB fdB) (C__law_great : Cal P w K mg base "_law_great" P__law_great 2 spGreatC fG fdG) : FnOk P w K mg base CX0 3 f fd P__law_number spNumC := by
  refine F.ok sc__law_number (fun vs H Q E h => ?_) (fun cdv A outer s H vs Q E hr h => ?_)
  · obtain ⟨p, T, rfl, _⟩ := h
    rfl
  · obtain ⟨p, T, rfl, hp, hT, q⟩ := h
    refine ⟨_, (pss_cons (ps_par (i := 1) (j := 2) rfl sc__law_number.nd rfl rfl (by decide) rfl rfl (pa_cons (pe_call (C__law_pick.G.mono (by decide)) hr (by rfl) C__law_pick.g C__law_pick.kp C__law_pick.b .nil pass0 (pa_cons (pv 0) (pa_cons pe_int pa_nil))) (pa_cons (pe_call (C__law_great.G.mono (by decide)) hr (by rfl) C__law_great.g C__law_great.kp C__law_great.b .nil pass0 (pa_cons (pv 0) pa_nil)) pa_nil)) rfl)
    (pss_one (ps_ret (pe_ix ix_list (pe_lst (pa_cons (pe_call (C__law_pick.G.mono (by decide)) hr (by rfl) C__law_pick.g C__law_pick.kp C__law_pick.b .nil pass0 (pa_cons (pv 0) (pa_cons pe_int pa_nil))) (pa_cons (pe_call (C__law_pick.G.mono (by decide)) hr (by rfl) C__law_pick.g C__law_pick.kp C__law_pick.b .nil pass0 (pa_cons (pv 0) (pa_cons pe_int pa_nil))) (pa_cons (pv 2) (pa_cons pe_int pa_nil))))) (pv 1) (fun _ _ => rfl))))), ?_⟩
    refine ⟨_, rfl, p, T, _, rfl, hp, by omega, ⟨by decide, by decide⟩, fun way H1 w0 w1 hp1 k1 => ?_⟩
    refine ⟨_, rfl, p, T + 1, rfl, hp1, by omega, fun far H2 f0 f1 hp2 k2 => ?_⟩
    refine ⟨_, _, rfl, ?_⟩
    refine ⟨_, rfl, p, T + 4, _, rfl, hp2, by omega, ⟨by decide, by decide⟩, fun a H3 a0 a1 hp3 k3 => ?_⟩
    refine ⟨_, rfl, p, T + 5, _, rfl, hp3, by omega, ⟨by decide, by decide⟩, fun b H4 b0 b1 hp4 k4 => ?_⟩
    refine ⟨_, rfl, (by show 4 ≤ sizeLine; decide), fun z nz => ?_⟩
    have ix : ∃ n : Int, NumC n ∧ atI [V.int a, V.int b, V.int far, V.int 0] way = some (.int n) := by
      have hw : way = 0 ∨ way = 1 ∨ way = 2 ∨ way = 3 := by omega
      rcases hw with rfl | rfl | rfl | rfl
      · exact ⟨a, ⟨by omega, by omega⟩, rfl⟩
      · exact ⟨b, ⟨by omega, by omega⟩, rfl⟩
      · exact ⟨far, ⟨by omega, by omega⟩, rfl⟩
      · exact ⟨0, ⟨by omega, by omega⟩, rfl⟩
    obtain ⟨n, hn, en⟩ := ix
    refine ⟨_, rfl, z, _, way, _, rfl, rfl, SqL.of upd_same, en, ?_⟩
    exact q _ _ hn ((hp4.new nz).mono (by omega)) ((((k1.trans k2).trans k3).trans k4).new nz)
theorem ok_taken {f : Addr} {fd : FuncData} {k : Nat} (F : Fun K "taken" "taken" s_taken f fd) (bi : Bi mg) : FnOk P w K mg base CX0 (k + 1) f fd P_taken spTaken := by
  refine F.ok sc_taken (fun vs H Q E h => ?_) (fun cdv A outer s H vs Q E hr h => ?_)
  · obtain ⟨a, m, n, k, rfl, _⟩ := h
    rfl
  · obtain ⟨a, m, n, k, rfl, ⟨ea, ⟨m0, m1⟩, ⟨n0, n1⟩, mn⟩, k0, k1, q⟩ := h
    refine ⟨_, (pss_cons (ps_asg (pv 0) (pg_tup rfl (pgs_cons (pg_name (i := 2) sc_taken.nd rfl (.inl rfl)) (pgs_cons (pg_name (i := 3) sc_taken.nd rfl (.inl rfl)) pgs_nil))))
    (pss_cons (ps_set (i := 4) sc_taken.nd rfl (.inl rfl) (pe_op op_fdivW (pe_op op_mulW (pv 1) (pv 2)) (pe_callB (call_max2 rfl) (by rfl) bi.m_max (by decide +kernel) (pa_cons (pe_op op_add (pv 2) (pv 3)) (pa_cons pe_int pa_nil)))))
    (pss_one (ps_ret (pe_tup (pa_cons (pv 4) (pa_cons (pe_op op_sub (pv 1) (pv 4)) pa_nil))))))), ?_⟩
    refine ⟨_, rfl, a, _, rfl, SqT.of ea, rfl, _, _, rfl, _, _, rfl, rfl, ?_⟩
    have e : (if (1 : Int) > m + n then 1 else m + n) = m + n := by rw [if_neg (by omega)]
    refine ⟨_, rfl, _, rfl, _, _, rfl, rfl, wmul k0 (by omega) m0 (by omega), _, rfl, _, rfl, _, _, rfl, rfl, _, _, rfl, _, _, rfl, rfl, ?_, ?_⟩
    · rw [e]
      exact wdiv mn (by omega)
    rw [e]
    refine ⟨_, rfl, _, rfl, _, rfl, _, _, rfl, rfl, (by show 2 ≤ sizeLine; decide), fun z nz => ?_⟩
    exact q _ z (same_new (Same.refl H) nz) nz upd_same
theorem ok_sort_of {f fT : Addr} {fd fdT : FuncData} (F : Fun K "sort_of" "sort_of" s_sort_of f fd) (bi : Bi mg) (C_taken : Cal P w K mg base "taken" P_taken 1 spTaken fT fdT) : FnOk P w K mg base CX0 2 f fd P_sort_of spSortOf := by
  refine F.ok sc_sort_of (fun vs H Q E h => ?_) (fun cdv A outer s H vs Q E hr h => ?_)
  · obtain ⟨a, m, n, k, rfl, _⟩ := h
    rfl
  · obtain ⟨a, m, n, k, rfl, hm, k0, k1, q⟩ := h
    refine ⟨_, (pss_one (ps_ret (pe_ifExp (pt_cmpR op_gt (pe_ix ix_tup (pe_call (C_taken.G.mono (by decide)) hr (by rfl) C_taken.g C_taken.kp C_taken.b .nil pass0 (pa_cons (pv 0) (pa_cons (pe_op op_add (pv 1) pe_int) pa_nil))) pe_int (fun _ _ => rfl)) (pe_ix ix_tup (pe_call (C_taken.G.mono (by decide)) hr (by rfl) C_taken.g C_taken.kp C_taken.b .nil pass0 (pa_cons (pv 0) (pa_cons (pv 1) pa_nil))) pe_int (fun _ _ => rfl)) (nomark _)) pe_int pe_int))), ?_⟩
    refine ⟨_, rfl, _, rfl, _, _, rfl, rfl, a, m, n, k + 1, rfl, hm, by omega, by omega, fun H1 b s1 nb eb => ?_⟩
    refine ⟨b, _, 0, _, rfl, rfl, SqT.of eb, atI_nat (j := 0) rfl, ?_⟩
    refine ⟨_, rfl, _, rfl, a, m, n, k, rfl, hm.mono (Tups.same s1), k0, by omega, fun H2 c s2 nc ec => ?_⟩
    refine ⟨c, _, 0, _, rfl, rfl, SqT.of ec, atI_nat (j := 0) rfl, _, _, rfl, rfl, _, rfl, ?_⟩
    have q' := q H2 (s1.trans s2)
    unfold sortAt at q'
    refine ite2 (fun e => ?_) (fun e => ?_)
    · have e' : firsts m n (k + 1) > firsts m n k := of_decide_eq_true e
      rw [if_pos e'] at q'
      exact q'
    · have e' : ¬ firsts m n (k + 1) > firsts m n k := of_decide_eq_false (Bool.eq_false_iff.mpr e)
      rw [if_neg e'] at q'
      exact q'
theorem ok_sort_by {f fS : Addr} {fd fdS : FuncData} (F : Fun K "sort_by" "sort_by" s_sort_by f fd) (bi : Bi mg) (C_sort_of : Cal P w K mg base "sort_of" P_sort_of 2 spSortOf fS fdS) : FnOk P w K mg base CX0 3 f fd P_sort_by spSortBy := by
  refine F.ok sc_sort_by (fun vs H Q E h => ?_) (fun cdv A outer s H vs Q E hr h => ?_)
  · obtain ⟨a, ts, k, rfl, _⟩ := h
    rfl
  · obtain ⟨a, ts, k, rfl, ⟨as, ea, tu⟩, gp, k0, k1, q⟩ := h
    refine ⟨_, (pss_cons (ps_set (i := 2) sc_sort_by.nd rfl (.inl rfl) pe_int)
    (pss_cons (ps_for PassesOwn.never rfl (pi_tup (pv 0)) (pg_tup rfl (pgs_cons (pg_name (i := 3) sc_sort_by.nd rfl (.inl rfl)) (pgs_cons (pg_name (i := 4) sc_sort_by.nd rfl (.inl rfl)) (pgs_cons (pg_name (i := 5) sc_sort_by.nd rfl (.inl rfl)) pgs_nil))))
      (pss_one (ps_if (pt_cmpR op_le (pv 3) (pv 1) (nomark _))
          (pss_one (ps_set (i := 2) sc_sort_by.nd rfl (.inl rfl) (pe_call (C_sort_of.G.mono (by decide)) hr (by rfl) C_sort_of.g C_sort_of.kp C_sort_of.b .nil pass0 (pa_cons (pe_tup (pa_cons (pv 4) (pa_cons (pv 5) pa_nil))) (pa_cons (pe_op op_sub (pv 1) (pv 3)) pa_nil)))))
          pss_nil)))
    (pss_one (ps_ret (pv 2))))), ?_⟩
    obtain ⟨t0, r0, e0, z0⟩ := good_head gp
    have hd : ts.headD (0, 1, 1) = t0 := by rw [e0]; rfl
    have q' : ∀ H', Same H H' → Q (.int (sA k (selF k t0 ts))) H' := fun H' s' => by
      have := q H' s'
      unfold pickOf at this
      rw [hd] at this
      exact this
    refine ⟨_, rfl, a, rfl, ⟨_, SqT.of ea⟩, for_tup (xs := as.map V.ref) (fun i σ' H' => ∃ (x3 x4 x5 : Option V) (so : Int), σ' = [some (.ref a), some (.int k), some (.int so), x3, x4, x5] ∧ Same H H' ∧ (1 ≤ i → so = sA k (selF k t0 (ts.take i)))) ⟨_, _, _, 1, rfl, Same.refl H, fun h => absurd h (by decide)⟩ (fun i σ' H' hi hm => ?_) (fun i x σ' H' hx hm => ?_) (fun σ' H' hm => ?_)⟩
    · obtain ⟨x3, x4, x5, so, rfl, sm, _⟩ := hm
      exact SqT.of (sm _ _ ea)
    · obtain ⟨x3, x4, x5, so, rfl, sm, hso⟩ := hm
      obtain ⟨b, st, m, n, rfl, et, eb⟩ := row_get tu hx
      obtain ⟨g0, g1, g2, g3, g4⟩ := gp.2.2.1 _ (List.mem_of_getElem? et)
      refine ⟨b, _, rfl, SqT.of (sm _ _ eb), rfl, _, _, rfl, _, _, rfl, _, _, rfl, rfl, ?_⟩
      refine ⟨_, rfl, _, rfl, _, _, rfl, rfl, _, rfl, ite2 (fun e => ?_) (fun e => ?_)⟩
      · have e' : st ≤ k := of_decide_eq_true e
        refine ⟨_, rfl, _, rfl, (by show 2 ≤ sizeLine; decide), fun z nz => ?_⟩
        refine ⟨_, rfl, _, rfl, _, _, rfl, rfl, z, m, n, k - st, rfl, ⟨upd_same, g2, g3, g4⟩, by omega, by omega, fun H2 s2 => ?_⟩
        refine ⟨_, _, _, _, rfl, (same_new sm nz).trans s2, fun _ => ?_⟩
        rw [sel_take t0 et, if_pos e']
        rfl
      · have e' : ¬ st ≤ k := of_decide_eq_false (Bool.eq_false_iff.mpr e)
        refine ⟨_, _, _, so, rfl, sm, fun _ => ?_⟩
        have i1 : 1 ≤ i := by
          cases i with
          | zero =>
            rw [e0] at et
            have : t0 = (st, m, n) := Option.some.inj et
            rw [this] at z0
            have z0 : st = 0 := z0
            omega
          | succ i => omega
        rw [sel_take t0 et, if_neg e']
        exact hso i1
    · obtain ⟨x3, x4, x5, so, rfl, sm, hso⟩ := hm
      have hl : (as.map V.ref).length = ts.length := by
        rw [List.length_map, tu.1, List.length_map]
      rw [hl, List.take_length] at hso
      refine ⟨_, rfl, ?_⟩
      rw [hso gp.1]
      exact q' H' sm
theorem ok_blended {fS f : Addr} {fdS fd : FuncData} {tk_MOST_WISPS : Tok} (F : Fun K "blended" "blended" s_blended f fd) (bi : Bi mg) (g_MOST_WISPS : mg "MOST_WISPS" = some (.int 60 tk_MOST_WISPS)) (C_sort_by : Cal P w K mg base "sort_by" P_sort_by 3 spSortBy fS fdS) : FnOk P w K mg base CX0 4 f fd P_blended spBlended := by
  refine F.ok sc_blended (fun vs H Q E h => ?_) (fun cdv A outer s H vs Q E hr h => ?_)
  · obtain ⟨a, b, c, as, bs, ts, rfl, _⟩ := h
    rfl
  · obtain ⟨a, b, c, as, bs, ts, rfl, ea, eb, la, lb, hc, gp, q⟩ := h
    refine ⟨_, (pss_cons (ps_set (i := 3) sc_blended.nd rfl (.inl rfl) (pe_tup (pa_cons (pv 0) (pa_cons (pv 1) pa_nil))))
    (pss_cons (ps_set (i := 4) sc_blended.nd rfl (.inl rfl) (pe_lst (pa_cons pe_int (pa_cons pe_int pa_nil))))
    (pss_cons (ps_set (i := 5) sc_blended.nd rfl (.inl rfl) (pe_lst pa_nil))
    (pss_cons (ps_for PassesOwn.never rfl (pi_range1 rfl bi.m_range (pa_cons (pe_glob (v := .int 60) rfl g_MOST_WISPS ⟨_, rfl⟩) pa_nil)) (pg_name (i := 6) sc_blended.nd rfl (.inl rfl))
      (pss_cons (ps_set (i := 7) sc_blended.nd rfl (.inl rfl) (pe_call (C_sort_by.G.mono (by decide)) hr (by rfl) C_sort_by.g C_sort_by.kp C_sort_by.b .nil pass0 (pa_cons (pv 2) (pa_cons (pv 6) pa_nil))))
        (pss_cons (ps_if (pt_cmpR op_eq (pe_ix ix_list (pv 4) (pv 7) (fun _ _ => rfl)) (pe_callB call_len_seq (by rfl) bi.m_len (by decide +kernel) (pa_cons (pe_ix ix_tup (pv 3) (pv 7) (fun _ _ => rfl)) pa_nil)) (nomark _))
          (pss_one ps_break)
          pss_nil)
        (pss_cons (ps_expr (pe_bm PySem.F.plainAttrs_list PySem.F.slot_list_append PySem.F.type_list_append mt_append (pv 5) (pa_cons (pe_ix ix_tup (pe_ix ix_tup (pv 3) (pv 7) (fun _ _ => rfl)) (pe_ix ix_list (pv 4) (pv 7) (fun _ _ => rfl)) (fun _ _ => rfl)) pa_nil)))
        (pss_one (ps_augS (pv 4) (pv 7) get_list pe_int ip_add set_list))))))
    (pss_one (ps_ret (pe_callTy call_tuple_of (by rfl) bi.m_tuple (by decide +kernel) (pa_cons (pv 5) pa_nil)))))))), ?_⟩
    refine ⟨_, rfl, _, rfl, (by show 2 ≤ sizeLine; decide), fun R nR => ?_⟩
    have sR : Same H (upd H R (.tup [.ref a, .ref b])) := same_new (Same.refl _) nR
    have eR : upd H R (.tup [.ref a, .ref b]) R = some (.tup [.ref a, .ref b]) := upd_same
    show tSeq _ _ _ _ (upd H R (.tup [.ref a, .ref b]))
    generalize upd H R (.tup [.ref a, .ref b]) = H1 at sR eR
    refine ⟨(by show 2 ≤ sizeLine; decide), fun U nU => ?_⟩
    have sU : Same H1 (upd H1 U (.lst [.int 0, .int 0])) := same_new (Same.refl _) nU
    have eU : upd H1 U (.lst [.int 0, .int 0]) U = some (.lst [.int ((0 : Nat) : Int), .int ((0 : Nat) : Int)]) := upd_same
    show tSeq _ _ _ _ (upd H1 U (.lst [.int 0, .int 0]))
    generalize upd H1 U (.lst [.int 0, .int 0]) = H2 at sU eU
    refine ⟨Nat.zero_le _, fun B nB => ?_⟩
    have sB : Same H1 (upd H2 B (.lst [])) := same_new sU nB
    have nB1 : H1 B = none := sU.free nB
    have UB : U ≠ B := ne_of_none eU nB
    have eB : upd H2 B (.lst []) B = some (.lst (([] : List Addr).map V.ref)) := upd_same
    have eU3 : upd H2 B (.lst []) U = some (.lst [.int ((0 : Nat) : Int), .int ((0 : Nat) : Int)]) := (upd_ne UB).trans eU
    show tSeq _ _ _ _ (upd H2 B (.lst []))
    generalize upd H2 B (.lst []) = H3 at sB eB eU3
    have fin : ∀ (x6 x7 : Option V) (H' : Hp), Same H1 H' → H' B = some (.lst ((bl (pk ts) 0 60 as bs).map V.ref)) → ∀ l, H' l = none → Q (.ref l) (upd H' l (.tup ((bl (pk ts) 0 60 as bs).map V.ref))) := fun x6 x7 H' sm eB' l nl =>
      q _ l ((sR.trans sm).trans (same_new (Same.refl _) nl)) ((sR.trans sm).free nl) upd_same
    refine ⟨60, rfl, by decide, by decide, for_range (n := 60) (fun k σ' H' => ∃ (x6 x7 : Option V) (u v : Nat) (out : List Addr), σ' = [some (.ref a), some (.ref b), some (.ref c), some (.ref R), some (.ref U), some (.ref B), x6, x7] ∧ Same H1 H' ∧ H' U = some (.lst [.int (u : Nat), .int (v : Nat)]) ∧ H' B = some (.lst (out.map V.ref)) ∧ u ≤ as.length ∧ v ≤ bs.length ∧ out.length = k ∧ out ++ bl (pk ts) k (60 - k) (as.drop u) (bs.drop v) = bl (pk ts) 0 60 as bs) ⟨_, _, 0, 0, [], rfl, sB, eU3, eB, Nat.zero_le _, Nat.zero_le _, rfl, rfl⟩ (fun k σ' H' hk hm => ?_) (fun σ' H' hm => ?_)⟩
    · obtain ⟨x6, x7, u, v, out, rfl, sm, eU', eB', hu, hv, ho, hb⟩ := hm
      refine ⟨_, rfl, _, rfl, c, ts, _, rfl, (hc.mono (Tups.same (sR.trans sm))), gp, by omega, by omega, fun H4 s4 => ?_⟩
      rw [Int.zero_add]
      have eR4 := s4 _ _ (sm _ _ eR)
      have eU4 := s4 _ _ eU'
      have eB4 := s4 _ _ eB'
      have ea4 := s4 _ _ (sm _ _ (sR _ _ ea))
      have eb4 := s4 _ _ (sm _ _ (sR _ _ eb))
      have sm4 := sm.trans s4
      obtain ⟨m, hm60⟩ : ∃ m, 60 - k = m + 1 := ⟨60 - k - 1, by omega⟩
      rw [hm60] at hb
      have hm1 : 60 - (k + 1) = m := by omega
      rcases sort_two ((k : Nat) : Int) ts with e | e
      · have fk : pk ts k = 0 := e
        rw [e]
        refine ⟨_, rfl, _, rfl, U, _, 0, _, rfl, rfl, SqL.of eU4, atI_nat (j := 0) rfl, _, rfl, _, rfl, R, _, 0, _, rfl, rfl, SqT.of eR4, atI_nat (j := 0) rfl, a, _, rfl, .inr (SqT.of ea4), rfl, _, rfl, ite2 (fun e2 => ?_) (fun e2 => ?_)⟩
        · have e3 : (u : Int) = ((as.map V.ref).length : Int) := V.int.inj (of_decide_eq_true e2)
          rw [List.length_map] at e3
          rw [List.drop_of_length_le (show as.length ≤ u by omega), bl_0nil fk, List.append_nil] at hb
          refine ⟨_, rfl, B, _, rfl, .inl ⟨SqL.of eB4, fun l nl => ?_⟩⟩
          rw [hb]
          exact fin none none H4 sm4 (by rw [← hb]; exact eB4) l nl
        · have e3 : u < as.length := by
            have : ¬ (u : Int) = ((as.map V.ref).length : Int) := fun z => e2 (decide_eq_true (by rw [z]))
            rw [List.length_map] at this
            omega
          have ex : as[u]? = some as[u] := List.getElem?_eq_getElem e3
          rw [drop_get ex, bl_0cons fk] at hb
          refine ⟨_, rfl, .inl ⟨rfl, _, SqL.of eB4⟩, _, rfl, _, rfl, R, _, 0, _, rfl, rfl, SqT.of eR4, atI_nat (j := 0) rfl, _, rfl, _, rfl, U, _, 0, _, rfl, rfl, SqL.of eU4, atI_nat (j := 0) rfl, a, _, _, .ref as[u], rfl, rfl, SqT.of ea4, atI_nat (j := u) (by rw [List.getElem?_map, ex]; rfl), ?_⟩
          refine ⟨B, _, _, rfl, rfl, eB4, ?_, ?_⟩
          · rw [List.length_map]
            exact small1000 (by omega)
          have eU5 : upd H4 B (.lst (out.map V.ref ++ [.ref as[u]])) U = some (.lst [.int (u : Nat), .int (v : Nat)]) := (upd_ne UB).trans eU4
          refine ⟨_, rfl, _, rfl, U, _, 0, _, rfl, rfl, SqL.of eU5, rfl, _, _, rfl, rfl, U, _, 0, 0, rfl, rfl, eU5, rfl, ?_⟩
          refine ⟨_, _, u + 1, v, out ++ [as[u]], rfl, same_mine (same_mine sm4 nB1) nU, upd_same, ?_, by omega, hv, by rw [List.length_append, ho]; rfl, ?_⟩
          · rw [upd_ne UB.symm, upd_same, List.map_append]
            rfl
          · rw [hm1, List.append_assoc]
            exact hb
      · have fk : ¬ pk ts k = 0 := by
          show ¬ pickOf ((k : Nat) : Int) ts = 0
          omega
        rw [e]
        refine ⟨_, rfl, _, rfl, U, _, 1, _, rfl, rfl, SqL.of eU4, atI_nat (j := 1) rfl, _, rfl, _, rfl, R, _, 1, _, rfl, rfl, SqT.of eR4, atI_nat (j := 1) rfl, b, _, rfl, .inr (SqT.of eb4), rfl, _, rfl, ite2 (fun e2 => ?_) (fun e2 => ?_)⟩
        · have e3 : (v : Int) = ((bs.map V.ref).length : Int) := V.int.inj (of_decide_eq_true e2)
          rw [List.length_map] at e3
          rw [List.drop_of_length_le (show bs.length ≤ v by omega), bl_1nil fk, List.append_nil] at hb
          refine ⟨_, rfl, B, _, rfl, .inl ⟨SqL.of eB4, fun l nl => ?_⟩⟩
          rw [hb]
          exact fin none none H4 sm4 (by rw [← hb]; exact eB4) l nl
        · have e3 : v < bs.length := by
            have : ¬ (v : Int) = ((bs.map V.ref).length : Int) := fun z => e2 (decide_eq_true (by rw [z]))
            rw [List.length_map] at this
            omega
          have ex : bs[v]? = some bs[v] := List.getElem?_eq_getElem e3
          rw [drop_get ex, bl_1cons fk] at hb
          refine ⟨_, rfl, .inl ⟨rfl, _, SqL.of eB4⟩, _, rfl, _, rfl, R, _, 1, _, rfl, rfl, SqT.of eR4, atI_nat (j := 1) rfl, _, rfl, _, rfl, U, _, 1, _, rfl, rfl, SqL.of eU4, atI_nat (j := 1) rfl, b, _, _, .ref bs[v], rfl, rfl, SqT.of eb4, atI_nat (j := v) (by rw [List.getElem?_map, ex]; rfl), ?_⟩
          refine ⟨B, _, _, rfl, rfl, eB4, ?_, ?_⟩
          · rw [List.length_map]
            exact small1000 (by omega)
          have eU5 : upd H4 B (.lst (out.map V.ref ++ [.ref bs[v]])) U = some (.lst [.int (u : Nat), .int (v : Nat)]) := (upd_ne UB).trans eU4
          refine ⟨_, rfl, _, rfl, U, _, 1, _, rfl, rfl, SqL.of eU5, rfl, _, _, rfl, rfl, U, _, 1, 1, rfl, rfl, eU5, rfl, ?_⟩
          refine ⟨_, _, u, v + 1, out ++ [bs[v]], rfl, same_mine (same_mine sm4 nB1) nU, upd_same, ?_, hu, by omega, by rw [List.length_append, ho]; rfl, ?_⟩
          · rw [upd_ne UB.symm, upd_same, List.map_append]
            rfl
          · rw [hm1, List.append_assoc]
            exact hb
    · obtain ⟨x6, x7, u, v, out, rfl, sm, eU', eB', hu, hv, ho, hb⟩ := hm
      have hb : out ++ [] = bl (pk ts) 0 60 as bs := hb
      rw [List.append_nil] at hb
      refine ⟨_, rfl, B, _, rfl, .inl ⟨SqL.of eB', fun l nl => ?_⟩⟩
      rw [hb]
      exact fin none none H' sm (by rw [← hb]; exact eB') l nl
theorem ok__law_parts {f fB fG : Addr} {fd fdB fdG : FuncData} (F : Fun K "_law_parts" "_law_parts" s__law_parts f fd) (bi : Bi mg) (C__law_pick : Cal P w K mg base "_law_pick" P__law_pick 1 spTakeC fB fdB) (C__law_number : Cal P w K mg base "_law_number" P__law_number 3 spNumC fG fdG) : FnOk P w K mg base CX0 4 f fd P__law_parts spParts30 := by
  refine F.ok sc__law_parts (fun vs H Q E h => ?_) (fun cdv A outer s H vs Q E hr h => ?_)
  · obtain ⟨p, T, rfl, _⟩ := h
    rfl
  · obtain ⟨p, T, rfl, hp, hT, q⟩ := h
    refine ⟨_, (pss_cons (ps_par (i := 1) (j := 2) rfl sc__law_parts.nd rfl rfl (by decide) rfl rfl (pa_cons (pe_lst pa_nil) (pa_cons pe_int pa_nil)) rfl)
    (pss_cons (ps_for PassesOwn.never rfl (pi_range1 rfl bi.m_range (pa_cons (pe_op op_add pe_int (pe_call (C__law_pick.G.mono (by decide)) hr (by rfl) C__law_pick.g C__law_pick.kp C__law_pick.b .nil pass0 (pa_cons (pv 0) (pa_cons pe_int pa_nil)))) pa_nil)) (pg_name (i := 3) sc__law_parts.nd rfl (.inl rfl))
      (pss_cons (ps_par (i := 4) (j := 5) rfl sc__law_parts.nd rfl rfl (by decide) rfl rfl (pa_cons (pe_call (C__law_number.G.mono (by decide)) hr (by rfl) C__law_number.g C__law_number.kp C__law_number.b .nil pass0 (pa_cons (pv 0) pa_nil)) (pa_cons (pe_call (C__law_number.G.mono (by decide)) hr (by rfl) C__law_number.g C__law_number.kp C__law_number.b .nil pass0 (pa_cons (pv 0) pa_nil)) pa_nil)) rfl)
        (pss_cons (ps_expr (pe_bm PySem.F.plainAttrs_list PySem.F.slot_list_append PySem.F.type_list_append mt_append (pv 1) (pa_cons (pe_ifExp (pt_cmpR op_gt (pe_op op_add (pv 4) (pv 5)) pe_int (nomark _)) (pe_tup (pa_cons (pv 2) (pa_cons (pv 4) (pa_cons (pv 5) pa_nil)))) (pe_tup (pa_cons (pv 2) (pa_cons pe_int (pa_cons pe_int pa_nil))))) pa_nil)))
        (pss_one (ps_set (i := 2) sc__law_parts.nd rfl (.inl rfl) (pe_op op_add (pe_op op_add (pv 2) pe_int) (pe_call (C__law_pick.G.mono (by decide)) hr (by rfl) C__law_pick.g C__law_pick.kp C__law_pick.b .nil pass0 (pa_cons (pv 0) (pa_cons pe_int pa_nil)))))))))
    (pss_one (ps_ret (pe_callTy call_tuple_of (by rfl) bi.m_tuple (by decide +kernel) (pa_cons (pv 1) pa_nil)))))), ?_⟩
    refine ⟨Nat.zero_le _, fun R nR => ⟨_, _, rfl, ?_⟩⟩
    have nRp := hp.fresh nR
    refine ⟨_, rfl, p, T, _, rfl, hp.new nR, by omega, ⟨by decide, by decide⟩, fun d H1 d0 d1 hp1 k1 => ?_⟩
    refine ⟨_, _, rfl, rfl, _, rfl, by omega, by omega, ?_⟩
    obtain ⟨N, hN⟩ : ∃ N : Nat, 1 + d = N := ⟨(1 + d).toNat, by omega⟩
    rw [hN, Int.toNat_natCast]
    have hN1 : 1 ≤ N ∧ N ≤ 8 := by omega
    have kR : Keep p p H H1 := (Keep.refl.new nR).trans k1
    refine for_range (n := N) (fun i σ' H' => ∃ (x3 x4 x5 : Option V) (st : Int) (as : List Addr) (ts : List Mx), σ' = [some (.ref p), some (.ref R), some (.int st), x3, x4, x5] ∧ PotC H' p (T + 1 + 30 * i) ∧ Keep p p H H' ∧ H' R = some (.lst (as.map V.ref)) ∧ TupsAt H' as (ts.map rowV) ∧ ts.length = i ∧ 0 ≤ st ∧ st < 1 + (i : Int) * 2 ^ 141 ∧ (i = 0 → st = 0) ∧ (∀ t ∈ ts, GoodM t) ∧ ∀ t, ts[0]? = some t → t.1 = 0) ⟨_, _, _, 0, [], [], rfl, hp1, kR, k1.at nRp upd_same, TupsAt.nil, rfl, by decide, by decide, fun _ => rfl, (fun t ht => by cases ht), fun t ht => by cases ht⟩ (fun i σ' H' hi hm => ?_) (fun σ' H' hm => ?_)
    · obtain ⟨x3, x4, x5, st, as, ts, rfl, hpi, ki, eR, tu, hl, s0, s1, sz, ok, ok0⟩ := hm
      refine ⟨_, rfl, p, _, rfl, hpi, by omega, fun m H2 hm hp2 k2 => ?_⟩
      refine ⟨_, rfl, p, _, rfl, hp2, by omega, fun n H3 hn hp3 k3 => ?_⟩
      refine ⟨_, _, rfl, ?_⟩
      have k23 := k2.trans k3
      have eR3 := k23.at nRp eR
      have tu3 := tu.mono (k23.tupsC hpi)
      have hal : as.length = i := by rw [tu.1, List.length_map, hl]
      have st150 : st < 2 ^ 150 := by
        have : (i : Int) * 2 ^ 141 ≤ 8 * 2 ^ 141 := Int.mul_le_mul_of_nonneg_right (by omega) (by decide)
        omega
      -- what follows, of either part
      have fin : ∀ (t : Mx), t.1 = st → GoodM t → ∀ (z : Addr), H3 z = none → ∃ l xs y, V.ref R = V.ref l ∧ [V.ref z] = [y] ∧ upd H3 z (.tup (rowV t)) l = some (.lst xs) ∧ xs.length < sizeLine ∧ (xs = as.map V.ref ∧ y = .ref z ∧ l = R) := fun t e g z nz => by
        refine ⟨R, _, _, rfl, rfl, ?_, ?_, rfl, rfl, rfl⟩
        · rw [upd_ne (ne_of_none eR3 nz)]
          exact eR3
        · rw [List.length_map]
          exact small1000 (by omega)
      have go : ∀ (t : Mx), t.1 = st → GoodM t → ∀ (z : Addr), H3 z = none → ∀ (d : Int) (H5 : Hp), NumC d → PotC H5 p (T + 1 + 30 * i + 10 + 10 + 10) → Keep p p (upd (upd H3 z (.tup (rowV t))) R (.lst (as.map V.ref ++ [.ref z]))) H5 →
          ∃ (x3 x4 x5 : Option V) (st' : Int) (as : List Addr) (ts : List Mx), [some (V.ref p), some (.ref R), some (.int (st + 1 + d)), some (.int (0 + i)), some (.int m), some (.int n)] = [some (V.ref p), some (.ref R), some (.int st'), x3, x4, x5] ∧ PotC H5 p (T + 1 + 30 * (i + 1)) ∧ Keep p p H H5 ∧ H5 R = some (.lst (as.map V.ref)) ∧ TupsAt H5 as (ts.map rowV) ∧ ts.length = i + 1 ∧ 0 ≤ st' ∧ st' < 1 + ((i + 1 : Nat) : Int) * 2 ^ 141 ∧ (i + 1 = 0 → st' = 0) ∧ (∀ t ∈ ts, GoodM t) ∧ ∀ t, ts[0]? = some t → t.1 = 0 := fun t e g z nz d H5 hd hp5 k5 => by
        have hp4 : PotC (upd (upd H3 z (.tup (rowV t))) R (.lst (as.map V.ref ++ [.ref z]))) p (T + 1 + 30 * i + 10 + 10) := (hp3.new nz).other nRp
        have k4 : Keep p p H (upd (upd H3 z (.tup (rowV t))) R (.lst (as.map V.ref ++ [.ref z]))) := ((ki.trans k23).new nz).mine nR
        have eRz : upd H3 z (.tup (rowV t)) R = some (.lst (as.map V.ref)) := by
          rw [upd_ne (ne_of_none eR3 nz)]
          exact eR3
        have tz := (tu3.mono (Tups.new (o := .tup (rowV t)) nz)).snoc (a := z) (xs := rowV t) upd_same
        refine ⟨_, _, _, _, as ++ [z], ts ++ [t], rfl, hp5.mono (by omega), k4.trans k5, k5.at nRp ?_, ?_, ?_, ?_, ?_, fun h => by omega, fun y hy => ?_, fun y hy => ?_⟩
        · rw [upd_same, List.map_append]
          rfl
        · rw [List.map_append]
          exact (tz.mono (Tups.ls eRz)).mono (k5.tupsC hp4)
        · rw [List.length_append, hl]
          rfl
        · have := hd.1
          omega
        · have := hd.2
          have e2 : ((i + 1 : Nat) : Int) * 2 ^ 141 = (i : Int) * 2 ^ 141 + 2 ^ 141 := by
            rw [Int.natCast_add, Int.add_mul]
            rfl
          rw [e2]
          omega
        · rcases List.mem_append.mp hy with h | h
          · exact ok y h
          · simp only [List.mem_cons, List.not_mem_nil, or_false] at h
            rw [h]
            exact g
        · cases ts with
          | nil =>
            have : t = y := Option.some.inj hy
            rw [← this, e]
            exact sz hl.symm
          | cons u r => exact ok0 y hy
      refine ⟨_, rfl, .inl ⟨rfl, _, SqL.of eR3⟩, _, rfl, _, rfl, _, _, rfl, rfl, _, _, rfl, rfl, _, rfl, ite2 (fun e => ?_) (fun e => ?_)⟩
      · have e' : m + n > 0 := of_decide_eq_true e
        have g : GoodM (st, m, n) := ⟨s0, st150, hm, hn, e'⟩
        refine ⟨_, rfl, _, rfl, _, rfl, (by show 3 ≤ sizeLine; decide), fun z nz => ?_⟩
        refine ⟨R, _, _, rfl, rfl, (upd_ne (ne_of_none eR3 nz)).trans eR3, ?_, ?_⟩
        · rw [List.length_map]
          exact small1000 (by omega)
        refine ⟨_, rfl, _, _, rfl, rfl, _, rfl, p, _, _, rfl, (hp3.new nz).other nRp, by omega, ⟨by decide, by decide⟩, fun d H5 d0' d1' hp5 k5 => ⟨_, _, rfl, rfl, ?_⟩⟩
        exact go (st, m, n) rfl g z nz d H5 ⟨d0', Int.lt_trans d1' (by decide)⟩ (hp5.mono (by omega)) k5
      · have n0 : NumC 0 := ⟨by decide, by decide⟩
        have n1 : NumC 1 := ⟨by decide, by decide⟩
        have n2 : (0 : Int) < 0 + 1 := by decide
        have g : GoodM (st, 0, 1) := ⟨s0, st150, n0, n1, n2⟩
        refine ⟨_, rfl, (by show 3 ≤ sizeLine; decide), fun z nz => ?_⟩
        refine ⟨R, _, _, rfl, rfl, (upd_ne (ne_of_none eR3 nz)).trans eR3, ?_, ?_⟩
        · rw [List.length_map]
          exact small1000 (by omega)
        refine ⟨_, rfl, _, _, rfl, rfl, _, rfl, p, _, _, rfl, (hp3.new nz).other nRp, by omega, ⟨by decide, by decide⟩, fun d H5 d0' d1' hp5 k5 => ⟨_, _, rfl, rfl, ?_⟩⟩
        exact go (st, 0, 1) rfl g z nz d H5 ⟨d0', Int.lt_trans d1' (by decide)⟩ (hp5.mono (by omega)) k5
    · obtain ⟨x3, x4, x5, st, as, ts, rfl, hpi, ki, eR, tu, hl, s0, s1, sz, ok, ok0⟩ := hm
      refine ⟨_, rfl, R, _, rfl, .inl ⟨SqL.of eR, fun z nz => ?_⟩⟩
      refine q _ z ts ⟨as, upd_same, tu.mono (Tups.new nz)⟩ ⟨by omega, by omega, ok, ok0⟩ (ki.freeC hpi nz) ((hpi.new nz).mono (by omega)) (ki.new nz)
theorem ok__law_wisps {fB f : Addr} {fdB fd : FuncData} (F : Fun K "_law_wisps" "_law_wisps" s__law_wisps f fd) (bi : Bi mg) (C__law_pick : Cal P w K mg base "_law_pick" P__law_pick 1 spTakeC fB fdB) : FnOk P w K mg base CX0 2 f fd P__law_wisps spWisps31 := by
  refine F.ok sc__law_wisps (fun vs H Q E h => ?_) (fun cdv A outer s H vs Q E hr h => ?_)
  · obtain ⟨p, T, so, rfl, _⟩ := h
    rfl
  · obtain ⟨p, T, so, rfl, hp, hT, q⟩ := h
    refine ⟨_, (pss_cons (ps_set (i := 2) sc__law_wisps.nd rfl (.inl rfl) (pe_ix ix_list (pe_lst (pa_cons (pe_call (C__law_pick.G.mono (by decide)) hr (by rfl) C__law_pick.g C__law_pick.kp C__law_pick.b .nil pass0 (pa_cons (pv 0) (pa_cons pe_int pa_nil))) (pa_cons (pe_call (C__law_pick.G.mono (by decide)) hr (by rfl) C__law_pick.g C__law_pick.kp C__law_pick.b .nil pass0 (pa_cons (pv 0) (pa_cons pe_int pa_nil))) (pa_cons pe_int pa_nil)))) (pe_call (C__law_pick.G.mono (by decide)) hr (by rfl) C__law_pick.g C__law_pick.kp C__law_pick.b .nil pass0 (pa_cons (pv 0) (pa_cons pe_int pa_nil))) (fun _ _ => rfl)))
    (pss_cons (ps_asg (pe_tup (pa_cons (pe_ix ix_list (pe_lst (pa_cons pe_int (pa_cons pe_int (pa_cons pe_int pa_nil)))) (pe_call (C__law_pick.G.mono (by decide)) hr (by rfl) C__law_pick.g C__law_pick.kp C__law_pick.b .nil pass0 (pa_cons (pv 0) (pa_cons pe_int pa_nil))) (fun _ _ => rfl)) (pa_cons (pe_ix ix_list (pe_lst (pa_cons pe_int (pa_cons (pe_op op_pow pe_int pe_int) pa_nil))) (pe_call (C__law_pick.G.mono (by decide)) hr (by rfl) C__law_pick.g C__law_pick.kp C__law_pick.b .nil pass0 (pa_cons (pv 0) (pa_cons pe_int pa_nil))) (fun _ _ => rfl)) pa_nil))) (pg_tup rfl (pgs_cons (pg_name (i := 3) sc__law_wisps.nd rfl (.inr rfl)) (pgs_cons (pg_name (i := 4) sc__law_wisps.nd rfl (.inr rfl)) pgs_nil))))
    (pss_cons (ps_set (i := 5) sc__law_wisps.nd rfl (.inl rfl) (pe_lst pa_nil))
    (pss_cons (ps_for PassesOwn.never rfl (pi_range1 rfl bi.m_range (pa_cons (pv 2) pa_nil)) (pg_name (i := 6) sc__law_wisps.nd rfl (.inr rfl))
      (pss_cons (ps_setLc (i := 7) (own := [("_law_at", 8)]) (g := (gName 8)) (tt := tYes) rfl sc__law_wisps.nd rfl rfl (sw_true rfl rfl rfl (by decide +kernel)) (pi_range1 rfl bi.m_range (pa_cons (pv 3) pa_nil)) (blkOk_by (N := N__law_wisps) (sc := defScope s__law_wisps) (by decide +kernel)) (fun _ _ _ _ _ => (pg_name (i := 8) sc__law_wisps.nd rfl (.inl rfl) (.inr rfl))) (fun _ _ _ _ _ => pts_nil) (fun _ _ _ _ _ => (pe_tup (pa_cons (pe_op op_add (pe_op op_add (pe_op op_mul (pe_op op_sub (pv 3) (pv 8)) (pv 4)) (pe_op op_mul pe_int (pv 6))) pe_int) (pa_cons (pe_op op_add pe_int (pe_op op_mod (pe_op op_add (pv 8) (pv 6)) pe_int)) pa_nil)))))
        (pss_one (ps_expr (pe_bm PySem.F.plainAttrs_list PySem.F.slot_list_append PySem.F.type_list_append mt_append (pv 5) (pa_cons (pe_tup (pa_cons (pv 1) (pa_cons (pe_callTy call_tuple_of (by rfl) bi.m_tuple (by decide +kernel) (pa_cons (pe_lc (own := [("_law_at", 8), ("_law_strong", 9), ("_law_long", 10)]) (g := (gTup K 2 (gCons (gName 8) (gCons (gTup K 2 (gCons (gName 9) (gCons (gName 10) gNil))) gNil)))) (tt := tYes) rfl sc__law_wisps.nd (pi_enum (by rfl) bi.m_enumerate (pa_cons (pv 7) pa_nil)) (blkOk_by (N := N__law_wisps) (sc := defScope s__law_wisps) (by decide +kernel)) (fun _ _ _ _ _ => (pg_tup rfl (pgs_cons (pg_name (i := 8) sc__law_wisps.nd rfl (.inl rfl) (.inr rfl)) (pgs_cons (pg_tup rfl (pgs_cons (pg_name (i := 9) sc__law_wisps.nd rfl (.inl rfl) (.inr rfl)) (pgs_cons (pg_name (i := 10) sc__law_wisps.nd rfl (.inl rfl) (.inr rfl)) pgs_nil))) pgs_nil)))) (fun _ _ _ _ _ => pts_nil) (fun _ _ _ _ _ => (pe_tup (pa_cons (pe_op op_sub (pe_op op_add (pv 9) (pv 3)) (pv 8)) (pa_cons (pv 10) pa_nil))))) pa_nil)) pa_nil))) pa_nil))))))
    (pss_one (ps_ret (pe_callTy call_tuple_of (by rfl) bi.m_tuple (by decide +kernel) (pa_cons (pv 5) pa_nil)))))))), ?_⟩
    -- count
    refine ⟨_, rfl, p, T, _, rfl, hp, by omega, ⟨by decide, by decide⟩, fun d1 H1 a1 b1 hp1 k1 => ?_⟩
    refine ⟨_, rfl, p, _, _, rfl, hp1, by omega, ⟨by decide, by decide⟩, fun d2 H2 a2 b2 hp2 k2 => ?_⟩
    refine ⟨(by show 3 ≤ sizeLine; decide), fun Z nZ => ?_⟩
    refine ⟨_, rfl, p, _, _, rfl, hp2.new nZ, by omega, ⟨by decide, by decide⟩, fun d3 H3 a3 b3 hp3 k3 => ?_⟩
    have nZp := hp2.fresh nZ
    have eZ := k3.at nZp (upd_same (H := H2) (o := .lst [.int d1, .int d2, .int 60]))
    have ix : ∃ n : Nat, n ≤ 60 ∧ atI [V.int d1, V.int d2, V.int 60] d3 = some (.int (n : Int)) := by
      have hw : d3 = 0 ∨ d3 = 1 ∨ d3 = 2 := by omega
      rcases hw with rfl | rfl | rfl
      · exact ⟨d1.toNat, by omega, by rw [Int.toNat_of_nonneg a1]; rfl⟩
      · exact ⟨d2.toNat, by omega, by rw [Int.toNat_of_nonneg a2]; rfl⟩
      · exact ⟨60, Nat.le_refl _, rfl⟩
    obtain ⟨N, hN, eN⟩ := ix
    refine ⟨Z, _, d3, _, rfl, rfl, SqL.of eZ, eN, ?_⟩
    have kH3 : Keep p p H H3 := ((k1.trans k2).new nZ).trans k3
    -- size, far
    refine ⟨(by show 3 ≤ sizeLine; decide), fun Y nY => ?_⟩
    refine ⟨_, rfl, p, _, _, rfl, hp3.new nY, by omega, ⟨by decide, by decide⟩, fun d4 H4 a4 b4 hp4 k4 => ?_⟩
    have nYp := hp3.fresh nY
    have eY := k4.at nYp (upd_same (H := H3) (o := .lst [.int 1, .int 2, .int 8]))
    have ix2 : ∃ n : Nat, n ≤ 8 ∧ atI [V.int 1, V.int 2, V.int 8] d4 = some (.int (n : Int)) := by
      have hw : d4 = 0 ∨ d4 = 1 ∨ d4 = 2 := by omega
      rcases hw with rfl | rfl | rfl
      · exact ⟨1, by decide, rfl⟩
      · exact ⟨2, by decide, rfl⟩
      · exact ⟨8, by decide, rfl⟩
    obtain ⟨S, hS, eS⟩ := ix2
    refine ⟨Y, _, d4, _, rfl, rfl, SqL.of eY, eS, ?_⟩
    refine ⟨_, _, rfl, rfl, ⟨by decide, by decide, by decide⟩, (by show 2 ≤ sizeLine; decide), fun X nX => ?_⟩
    refine ⟨_, rfl, p, _, _, rfl, hp4.new nX, by omega, ⟨by decide, by decide⟩, fun d5 H5 a5 b5 hp5 k5 => ?_⟩
    have nXp := hp4.fresh nX
    have eX := k5.at nXp (upd_same (H := H4) (o := .lst [.int 1, .int (10 ^ (37 : Int).toNat)]))
    have ix3 : ∃ n : Int, atI [V.int 1, V.int (10 ^ (37 : Int).toNat)] d5 = some (.int n) := by
      have hw : d5 = 0 ∨ d5 = 1 := by omega
      rcases hw with rfl | rfl
      · exact ⟨1, rfl⟩
      · exact ⟨_, rfl⟩
    obtain ⟨far, efar⟩ := ix3
    refine ⟨X, _, d5, _, rfl, rfl, SqL.of eX, efar, (by show 2 ≤ sizeLine; decide), fun W nW => ?_⟩
    refine ⟨W, _, rfl, SqT.of upd_same, rfl, _, _, rfl, _, _, rfl, rfl, ?_⟩
    have k35 : Keep p p H3 (upd H5 W (.tup [.int (S : Int), .int far])) := (((Keep.refl.new nY).trans k4).new nX).trans k5 |>.new nW
    have kH : Keep p p H (upd H5 W (.tup [.int (S : Int), .int far])) := kH3.trans k35
    have hp6 := hp5.new (o := .tup [.int (S : Int), .int far]) nW
    show tSeq _ _ _ _ (upd H5 W (.tup [.int (S : Int), .int far]))
    generalize upd H5 W (.tup [.int (S : Int), .int far]) = H6 at kH hp6
    clear k35 kH3
    -- the wisps
    refine ⟨Nat.zero_le _, fun R nR => ?_⟩
    have nRp := hp6.fresh nR
    have nRH : H R = none := kH.freeC hp6 nR
    refine ⟨_, rfl, _, rfl, by omega, by omega, ?_⟩
    rw [Int.toNat_natCast]
    refine for_range (n := N) (fun i σ' H' => ∃ (x6 x7 x8 x9 x10 : Option V) (as : List Addr), σ' = [some (.ref p), some (.int so), some (.int (N : Int)), some (.int (S : Int)), some (.int far), some (.ref R), x6, x7, x8, x9, x10] ∧ PotC H' p (T + 5) ∧ Keep p p H H' ∧ H' R = some (.lst (as.map V.ref)) ∧ as.length = i ∧ WispsAt H' as) ⟨_, _, _, _, _, [], rfl, (hp6.new nR).mono (by omega), kH.new nR, upd_same, rfl, fun a ha => by cases ha⟩ (fun i σ' H' hi hm => ?_) (fun σ' H' hm => ?_)
    · obtain ⟨x6, x7, x8, x9, x10, as, rfl, hpi, ki, eR, hl, wa⟩ := hm
      -- steps
      refine ⟨_, rfl, _, rfl, by omega, by omega, fun D nD => ?_⟩
      rw [Int.toNat_natCast]
      have nDp := hpi.fresh nD
      have DR : R ≠ D := ne_of_none eR nD
      refine lc_range (n := S) (fun j H2 => ∃ (cs : List Addr) (ps : List (Int × Int)), Same H' H2 ∧ H2 D = some (.lst (cs.map V.ref)) ∧ TupsAt H2 cs (ps.map stepV) ∧ cs.length = j) ⟨[], [], same_new (Same.refl _) nD, upd_same, TupsAt.nil, rfl⟩ (fun j H2 hj hm => ?_) (fun H2 hm => ?_)
      · obtain ⟨cs, ps, sm, eD, tu, hcl⟩ := hm
        refine ⟨rfl, yesIte ?_⟩
        refine ⟨_, rfl, _, rfl, _, _, rfl, rfl, _, rfl, _, _, rfl, rfl, .inl ⟨by omega, by omega⟩, _, rfl, _, _, rfl, rfl, .inl ⟨by decide, by decide⟩, _, _, rfl, rfl, _, _, rfl, rfl, _, rfl, _, rfl, _, _, rfl, rfl, _, _, rfl, rfl, (by show (0 : Int) < 3; decide), _, _, rfl, rfl, (by show 2 ≤ sizeLine; decide), fun z nz => ?_⟩
        have eDz := (upd_ne (o := .tup [.int (((S : Int) - (0 + j)) * far + 100 * (0 + i) + 1), .int (1 + (0 + (j : Int) + (0 + i)) % 3)]) (ne_of_none eD nz)).trans eD
        refine ⟨_, eDz, ?_, cs ++ [z], ps ++ [(((S : Int) - (0 + j)) * far + 100 * (0 + i) + 1, 1 + (0 + (j : Int) + (0 + i)) % 3)], same_mine (same_new sm nz) nD, ?_, ?_, ?_⟩
        · rw [List.length_map]
          exact small1000 (by omega)
        · rw [upd_same, List.map_append]
          rfl
        · rw [List.map_append]
          exact ((tu.mono (Tups.new nz)).snoc upd_same).mono (Tups.ls eDz)
        · rw [List.length_append, hcl]
          rfl
      obtain ⟨cs, ps, sm, eD, tu, hcl⟩ := hm
      have eR2 := sm _ _ eR
      refine ⟨_, rfl, .inl ⟨rfl, _, SqL.of eR2⟩, _, rfl, _, rfl, D, _, rfl, SqL.of eD, fun D2 nD2 => ?_⟩
      refine lc_it (walk_enum (xs := cs.map V.ref)) (fun j H3 => ∃ (es : List Addr) (qs : List (Int × Int)), Same H2 H3 ∧ H3 D2 = some (.lst (es.map V.ref)) ∧ TupsAt H3 es (qs.map stepV) ∧ es.length = j) ⟨[], [], same_new (Same.refl _) nD2, upd_same, TupsAt.nil, rfl⟩ (fun j H3 hj hm => ?_) (fun j x H3 Hb hj hm hy => ?_) (fun H3 hm => ?_)
      · obtain ⟨es, qs, sm3, _⟩ := hm
        exact SqL.of (sm3 _ _ eD)
      · obtain ⟨es, qs, sm3, eD3, tu3, hel⟩ := hm
        obtain ⟨c, y1, y2, rfl, nc, rfl, f1, f2⟩ := hy
        have e1 : y1 = .int (j : Nat) := (Option.some.inj f1).symm
        subst e1
        obtain ⟨b, t, g, rfl, _, eb⟩ := step_get tu f2
        have sc : Same H2 (upd H3 c (.tup [.int (j : Nat), .ref b])) := same_new sm3 nc
        refine ⟨c, _, rfl, SqT.of upd_same, rfl, _, _, rfl, _, _, rfl, b, _, rfl, SqT.of (sc _ _ eb), rfl, _, _, rfl, _, _, rfl, rfl, rfl, rfl, yesIte ?_⟩
        have eDc := (upd_ne (o := .tup [.int (j : Nat), .ref b]) (ne_of_none eD3 nc)).trans eD3
        have tuc := tu3.mono (Tups.new (o := .tup [.int (j : Nat), .ref b]) nc)
        generalize upd H3 c (.tup [.int (j : Nat), .ref b]) = H4 at sc eDc tuc
        refine ⟨_, rfl, _, rfl, _, _, rfl, rfl, _, rfl, _, _, rfl, rfl, _, rfl, (by show 2 ≤ sizeLine; decide), fun z nz => ?_⟩
        have eDz := (upd_ne (o := .tup [.int (t + S - j), .int g]) (ne_of_none eDc nz)).trans eDc
        have hj8 : j < 8 := by
          have := (List.getElem?_eq_some_iff.mp f2).1
          rw [List.length_map] at this
          omega
        refine ⟨_, eDz, ?_, es ++ [z], qs ++ [(t + S - j, g)], same_mine (same_new sc nz) nD2, ?_, ?_, ?_⟩
        · rw [List.length_map]
          exact small1000 (by omega)
        · rw [upd_same, List.map_append]
          rfl
        · rw [List.map_append]
          exact ((tuc.mono (Tups.new nz)).snoc upd_same).mono (Tups.ls eDz)
        · rw [List.length_append, hel]
          rfl
      obtain ⟨es, qs, sm3, eD3, tu3, hel⟩ := hm
      refine ⟨D2, _, rfl, .inl ⟨SqL.of eD3, fun t nt => ?_⟩⟩
      refine ⟨(by show 2 ≤ sizeLine; decide), fun z nz => ?_⟩
      have st : Same H3 (upd H3 t (.tup (es.map V.ref))) := same_new (Same.refl _) nt
      have sz : Same H3 (upd (upd H3 t (.tup (es.map V.ref))) z (.tup [.int so, .ref t])) := same_new st nz
      have et : upd (upd H3 t (.tup (es.map V.ref))) z (.tup [.int so, .ref t]) t = some (.tup (es.map V.ref)) := (upd_ne (ne_of_none upd_same nz)).trans upd_same
      have wz : WispAt (upd (upd H3 t (.tup (es.map V.ref))) z (.tup [.int so, .ref t])) z so qs := ⟨t, es, upd_same, et, tu3.mono (Tups.same sz)⟩
      have sall := (sm.trans sm3).trans sz
      have eRz := sall _ _ eR
      refine ⟨R, _, _, rfl, rfl, eRz, ?_, ?_⟩
      · rw [List.length_map]
        exact small1000 (by omega)
      have tR := Tups.ls (o := .lst (as.map V.ref ++ [.ref z])) eRz
      refine ⟨_, _, _, _, _, as ++ [z], rfl, (hpi.same sall).other nRp, (ki.trans (Same.keep sall)).mine nRH, ?_, ?_, fun b hb => ?_⟩
      · rw [upd_same, List.map_append]
        rfl
      · rw [List.length_append, hl]
        rfl
      · rcases List.mem_append.mp hb with h | h
        · exact (wa.mono (Tups.same sall)).mono tR b h
        · simp only [List.mem_cons, List.not_mem_nil, or_false] at h
          rw [h]
          exact ⟨so, qs, wz.mono tR⟩
    · obtain ⟨x6, x7, x8, x9, x10, as, rfl, hpi, ki, eR, hl, wa⟩ := hm
      refine ⟨_, rfl, R, _, rfl, .inl ⟨SqL.of eR, fun o no => ?_⟩⟩
      exact q _ o as (ki.freeC hpi no) upd_same (by omega) (wa.mono (Tups.new no)) ((hpi.new no).mono (by omega)) (ki.new no)
theorem ok__law_sort {f : Addr} {fd : FuncData} {k : Nat} (F : Fun K "_law_sort" "_law_sort" s__law_sort f fd) (bi : Bi mg) : FnOk P w K mg base CX0 (k + 1) f fd P__law_sort spSortBy := by
  refine F.ok sc__law_sort (fun vs H Q E h => ?_) (fun cdv A outer s H vs Q E hr h => ?_)
  · obtain ⟨a, ts, k, rfl, _⟩ := h
    rfl
  · obtain ⟨a, ts, k, rfl, ⟨as, ea, tu⟩, gp, k0, k1, q⟩ := h
    refine ⟨_, (pss_cons (ps_set (i := 2) sc__law_sort.nd rfl (.inl rfl) (pe_ix ix_tup (pv 0) pe_int (fun _ _ => rfl)))
    (pss_cons (ps_for PassesOwn.never rfl (pi_tup (pv 0)) (pg_name (i := 3) sc__law_sort.nd rfl (.inl rfl))
      (pss_one (ps_if (pt_cmpR op_le (pe_ix ix_tup (pv 3) pe_int (fun _ _ => rfl)) (pv 1) (nomark _))
          (pss_one (ps_set (i := 2) sc__law_sort.nd rfl (.inl rfl) (pv 3)))
          pss_nil)))
    (pss_cons (ps_asg (pv 2) (pg_tup rfl (pgs_cons (pg_name (i := 4) sc__law_sort.nd rfl (.inl rfl)) (pgs_cons (pg_name (i := 5) sc__law_sort.nd rfl (.inl rfl)) (pgs_cons (pg_name (i := 6) sc__law_sort.nd rfl (.inl rfl)) pgs_nil)))))
    (pss_cons (ps_set (i := 7) sc__law_sort.nd rfl (.inl rfl) (pe_op op_fdivW (pe_op op_mulW (pe_op op_sub (pv 1) (pv 4)) (pv 5)) (pe_op op_add (pv 5) (pv 6))))
    (pss_one (ps_ret (pe_ifExp (pt_cmpR op_gt (pe_op op_fdivW (pe_op op_mulW (pe_op op_add (pe_op op_sub (pv 1) (pv 4)) pe_int) (pv 5)) (pe_op op_add (pv 5) (pv 6))) (pv 7) (nomark _)) pe_int pe_int))))))), ?_⟩
    obtain ⟨t0, r0, e0, z0⟩ := good_head gp
    have hd : ts.headD (0, 1, 1) = t0 := by rw [e0]; rfl
    have hl : (as.map V.ref).length = ts.length := by
      rw [List.length_map, tu.1, List.length_map]
    have q' : Q (.int (sA k (selF k t0 ts))) H := by
      have := q H (Same.refl H)
      unfold pickOf at this
      rw [hd] at this
      exact this
    obtain ⟨b0, hb0⟩ : ∃ b0, (as.map V.ref)[0]? = some b0 := ⟨_, List.getElem?_eq_getElem (by rw [hl]; exact gp.1)⟩
    obtain ⟨c0, st0, m0, n0, rfl, et0, eb0⟩ := row_get tu hb0
    have et0' : t0 = (st0, m0, n0) := by
      rw [e0] at et0
      exact Option.some.inj et0
    refine ⟨_, rfl, a, _, 0, _, rfl, rfl, SqT.of ea, atI_nat (j := 0) hb0, ?_⟩
    refine ⟨_, rfl, a, rfl, ⟨_, SqT.of ea⟩, for_tup (xs := as.map V.ref) (fun i σ' H' => H' = H ∧ ∃ (x3 x4 x5 x6 x7 : Option V) (c : Addr), σ' = [some (.ref a), some (.int k), some (.ref c), x3, x4, x5, x6, x7] ∧ H c = some (.tup (rowV (selF k t0 (ts.take i))))) ⟨rfl, _, _, _, _, _, c0, rfl, ?_⟩ (fun i σ' H' hi hm => ?_) (fun i x σ' H' hx hm => ?_) (fun σ' H' hm => ?_)⟩
    · show H c0 = some (.tup (rowV t0))
      rw [et0']
      exact eb0
    · obtain ⟨rfl, _⟩ := hm
      exact SqT.of ea
    · obtain ⟨rfl, x3, x4, x5, x6, x7, c, rfl, ec⟩ := hm
      obtain ⟨b, st, m, n, rfl, et, eb⟩ := row_get tu hx
      refine ⟨_, rfl, b, _, 0, _, rfl, rfl, SqT.of eb, atI_nat (j := 0) rfl, _, rfl, _, _, rfl, rfl, _, rfl, ite2 (fun e => ?_) (fun e => ?_)⟩
      · have e' : st ≤ k := of_decide_eq_true e
        refine ⟨_, rfl, rfl, _, _, _, _, _, b, rfl, ?_⟩
        rw [sel_take t0 et, if_pos e']
        exact eb
      · have e' : ¬ st ≤ k := of_decide_eq_false (Bool.eq_false_iff.mpr e)
        refine ⟨rfl, _, _, _, _, _, c, rfl, ?_⟩
        rw [sel_take t0 et, if_neg e']
        exact ec
    · obtain ⟨rfl, x3, x4, x5, x6, x7, c, rfl, ec⟩ := hm
      rw [hl, List.take_length] at ec
      have hs := selF_ok (k := k) (S := GoodM) ts t0 (gp.2.2.1 t0 (by rw [e0]; simp)) (by omega) gp.2.2.1
      generalize selF k t0 ts = d at ec hs q'
      obtain ⟨⟨g0, g1, g2, g3, g4⟩, g5⟩ := hs
      obtain ⟨d1, d2, d3⟩ := d
      have g0 : 0 ≤ d1 := g0
      have g2 : NumC d2 := g2
      have g3 : NumC d3 := g3
      have g4 : 0 < d2 + d3 := g4
      have g5 : d1 ≤ k := g5
      obtain ⟨u0, u1⟩ := g2
      obtain ⟨v0, v1⟩ := g3
      refine ⟨_, rfl, c, _, rfl, SqT.of ec, rfl, _, _, rfl, _, _, rfl, _, _, rfl, rfl, ?_⟩
      have w1 : CMulW (k - d1) d2 := wmul (by omega) (by omega) u0 (by omega)
      have w2 : CMulW (k - d1 + 1) d2 := wmul (by omega) (by omega) u0 (by omega)
      have w3 : CDivW 0 (d2 + d3) := wdiv g4 (by omega)
      refine ⟨_, rfl, _, rfl, _, _, rfl, rfl, _, rfl, _, _, rfl, rfl, w1, _, rfl, _, rfl, _, _, rfl, rfl, _, _, rfl, rfl, w3, ?_⟩
      refine ⟨_, rfl, _, rfl, _, _, rfl, rfl, _, _, rfl, rfl, _, rfl, _, _, rfl, rfl, w2, _, rfl, _, rfl, _, _, rfl, rfl, _, _, rfl, rfl, w3, _, rfl, _, _, rfl, rfl, _, rfl, ?_⟩
      have q2 : Q (.int (if (k - d1 + 1) * d2 / (d2 + d3) > (k - d1) * d2 / (d2 + d3) then 0 else 1)) H' := q'
      refine ite2 (fun e => ?_) (fun e => ?_)
      · have e' : (k - d1 + 1) * d2 / (d2 + d3) > (k - d1) * d2 / (d2 + d3) := of_decide_eq_true e
        rw [if_pos e'] at q2
        exact q2
      · have e' : ¬ (k - d1 + 1) * d2 / (d2 + d3) > (k - d1) * d2 / (d2 + d3) := of_decide_eq_false (Bool.eq_false_iff.mpr e)
        rw [if_neg e'] at q2
        exact q2
theorem ok__law_blended {fS f : Addr} {fdS fd : FuncData} (F : Fun K "_law_blended" "_law_blended" s__law_blended f fd) (bi : Bi mg) (C__law_sort : Cal P w K mg base "_law_sort" P__law_sort 1 spSortBy fS fdS) : FnOk P w K mg base CX0 2 f fd P__law_blended spLawBlended := by
  refine F.ok sc__law_blended (fun vs H Q E h => ?_) (fun cdv A outer s H vs Q E hr h => ?_)
  · obtain ⟨r, a, b, c, as, bs, ts, rfl, _⟩ := h
    rfl
  · obtain ⟨r, a, b, c, as, bs, ts, rfl, er, ea, eb, la, lb, wa, wb, hc, gp, q⟩ := h
    have hu64 := hr.units
    refine ⟨_, (pss_cons (ps_par (i := 2) (j := 3) rfl sc__law_blended.nd rfl rfl (by decide) rfl rfl (pa_cons (pe_lst (pa_cons (pe_callTy call_list_of (by rfl) bi.m_list (by decide +kernel) (pa_cons (pe_ix ix_list (pv 0) pe_int (fun _ _ => rfl)) pa_nil)) (pa_cons (pe_callTy call_list_of (by rfl) bi.m_list (by decide +kernel) (pa_cons (pe_ix ix_list (pv 0) pe_int (fun _ _ => rfl)) pa_nil)) pa_nil))) (pa_cons (pe_lst pa_nil) pa_nil)) rfl)
    (pss_cons (ps_for PassesOwn.never rfl (pi_range1 rfl bi.m_range (pa_cons pe_int pa_nil)) (pg_name (i := 4) sc__law_blended.nd rfl (.inl rfl))
      (pss_cons (ps_set (i := 5) sc__law_blended.nd rfl (.inl rfl) (pe_ix ix_list (pv 2) (pe_call (C__law_sort.G.mono (by decide)) hr (by rfl) C__law_sort.g C__law_sort.kp C__law_sort.b .nil pass0 (pa_cons (pv 1) (pa_cons (pv 4) pa_nil))) (fun _ _ => rfl)))
        (pss_cons (ps_if (pt_cmpR (op_eqD hu64) (pv 5) (pe_lst pa_nil) (nomark _))
          (pss_one (ps_ret (pe_callTy call_tuple_of (by rfl) bi.m_tuple (by decide +kernel) (pa_cons (pv 3) pa_nil))))
          pss_nil)
        (pss_one (ps_expr (pe_bm PySem.F.plainAttrs_list PySem.F.slot_list_append PySem.F.type_list_append mt_append (pv 3) (pa_cons (pe_bm PySem.F.plainAttrs_list PySem.F.slot_list_pop PySem.F.type_list_pop mt_popAt (pv 5) (pa_cons pe_int pa_nil)) pa_nil)))))))
    (pss_one (ps_ret (pe_callTy call_tuple_of (by rfl) bi.m_tuple (by decide +kernel) (pa_cons (pv 3) pa_nil)))))), ?_⟩
    refine ⟨_, rfl, r, _, 0, _, rfl, rfl, SqL.of er, atI_nat (j := 0) rfl, a, _, rfl, .inr (SqT.of ea), fun A1 nA1 => ?_⟩
    have s1 : Same H (upd H A1 (.lst (as.map V.ref))) := same_new (Same.refl _) nA1
    have eA1 : upd H A1 (.lst (as.map V.ref)) A1 = some (.lst (as.map V.ref)) := upd_same
    generalize upd H A1 (.lst (as.map V.ref)) = H1 at s1 eA1
    refine ⟨_, rfl, r, _, 1, _, rfl, rfl, SqL.of (s1 _ _ er), atI_nat (j := 1) rfl, b, _, rfl, .inr (SqT.of (s1 _ _ eb)), fun B1 nB1 => ?_⟩
    have s2 : Same H (upd H1 B1 (.lst (bs.map V.ref))) := same_new s1 nB1
    have nB1H : H B1 = none := s1.free nB1
    have AB : A1 ≠ B1 := ne_of_none eA1 nB1
    have eA2 : upd H1 B1 (.lst (bs.map V.ref)) A1 = some (.lst (as.map V.ref)) := (upd_ne AB).trans eA1
    have eB2 : upd H1 B1 (.lst (bs.map V.ref)) B1 = some (.lst (bs.map V.ref)) := upd_same
    generalize upd H1 B1 (.lst (bs.map V.ref)) = H2 at s2 eA2 eB2
    refine ⟨(by show 2 ≤ sizeLine; decide), fun L nL => ?_⟩
    have s3 : Same H (upd H2 L (.lst [.ref A1, .ref B1])) := same_new s2 nL
    have nLH : H L = none := s2.free nL
    have AL : A1 ≠ L := ne_of_none eA2 nL
    have BL : B1 ≠ L := ne_of_none eB2 nL
    have eA3 : upd H2 L (.lst [.ref A1, .ref B1]) A1 = some (.lst (as.map V.ref)) := (upd_ne AL).trans eA2
    have eB3 : upd H2 L (.lst [.ref A1, .ref B1]) B1 = some (.lst (bs.map V.ref)) := (upd_ne BL).trans eB2
    have eL3 : upd H2 L (.lst [.ref A1, .ref B1]) L = some (.lst [.ref A1, .ref B1]) := upd_same
    generalize upd H2 L (.lst [.ref A1, .ref B1]) = H3 at s3 eA3 eB3 eL3
    refine ⟨Nat.zero_le _, fun R nR => ⟨_, _, rfl, ?_⟩⟩
    have s4 : Same H (upd H3 R (.lst [])) := same_new s3 nR
    have nRH : H R = none := s3.free nR
    have AR : A1 ≠ R := ne_of_none eA3 nR
    have BR : B1 ≠ R := ne_of_none eB3 nR
    have LR : L ≠ R := ne_of_none eL3 nR
    have eA4 : upd H3 R (.lst []) A1 = some (.lst ((as.drop 0).map V.ref)) := (upd_ne AR).trans eA3
    have eB4 : upd H3 R (.lst []) B1 = some (.lst ((bs.drop 0).map V.ref)) := (upd_ne BR).trans eB3
    have eL4 : upd H3 R (.lst []) L = some (.lst [.ref A1, .ref B1]) := (upd_ne LR).trans eL3
    have eR4 : upd H3 R (.lst []) R = some (.lst (([] : List Addr).map V.ref)) := upd_same
    show tSeq _ _ _ _ (upd H3 R (.lst []))
    generalize upd H3 R (.lst []) = H4 at s4 eA4 eB4 eL4 eR4
    have fin : ∀ (H' : Hp), Same H H' → H' R = some (.lst ((bl (pk ts) 0 60 as bs).map V.ref)) → ∀ l, H' l = none → Q (.ref l) (upd H' l (.tup ((bl (pk ts) 0 60 as bs).map V.ref))) := fun H' sm eR' l nl =>
      q _ l (sm.trans (same_new (Same.refl _) nl)) (sm.free nl) upd_same
    refine ⟨60, rfl, by decide, by decide, for_range (n := 60) (fun k σ' H' => ∃ (x4 x5 : Option V) (u v : Nat) (out : List Addr), σ' = [some (.ref r), some (.ref c), some (.ref L), some (.ref R), x4, x5] ∧ Same H H' ∧ H' L = some (.lst [.ref A1, .ref B1]) ∧ H' A1 = some (.lst ((as.drop u).map V.ref)) ∧ H' B1 = some (.lst ((bs.drop v).map V.ref)) ∧ H' R = some (.lst (out.map V.ref)) ∧ out.length = k ∧ out ++ bl (pk ts) k (60 - k) (as.drop u) (bs.drop v) = bl (pk ts) 0 60 as bs) ⟨_, _, 0, 0, [], rfl, s4, eL4, eA4, eB4, eR4, rfl, rfl⟩ (fun k σ' H' hk hm => ?_) (fun σ' H' hm => ?_)⟩
    · obtain ⟨x4, x5, u, v, out, rfl, sm, eL', eA', eB', eR', ho, hb⟩ := hm
      refine ⟨_, rfl, _, rfl, _, rfl, c, ts, _, rfl, (hc.mono (Tups.same sm)), gp, by omega, by omega, fun H5 s5 => ?_⟩
      rw [Int.zero_add]
      have eL5 := s5 _ _ eL'
      have eA5 := s5 _ _ eA'
      have eB5 := s5 _ _ eB'
      have eR5 := s5 _ _ eR'
      have sm5 := sm.trans s5
      obtain ⟨m, hm60⟩ : ∃ m, 60 - k = m + 1 := ⟨60 - k - 1, by omega⟩
      rw [hm60] at hb
      have hm1 : 60 - (k + 1) = m := by omega
      rcases sort_two ((k : Nat) : Int) ts with e | e
      · have fk : pk ts k = 0 := e
        rw [e]
        refine ⟨L, _, 0, _, rfl, rfl, SqL.of eL5, atI_nat (j := 0) rfl, ?_⟩
        refine ⟨_, rfl, Nat.zero_le _, fun Z nZ => ?_⟩
        have wd := (wa.mono (Tups.same sm5)).mono (Tups.new (o := .lst []) nZ)
        have wd : WispsAt (upd H5 Z (.lst [])) (as.drop u) := fun x hx => wd x (List.mem_of_mem_drop hx)
        obtain ⟨ds, d1, d2, d3⟩ := wisps_dp (K := K) wd
        have eA6 : upd H5 Z (.lst []) A1 = some (.lst ((as.drop u).map V.ref)) := (upd_ne (ne_of_none eA5 nZ)).trans eA5
        have eB6 : upd H5 Z (.lst []) B1 = some (.lst ((bs.drop v).map V.ref)) := (upd_ne (ne_of_none eB5 nZ)).trans eB5
        have eL6 : upd H5 Z (.lst []) L = some (.lst [.ref A1, .ref B1]) := (upd_ne (ne_of_none eL5 nZ)).trans eL5
        have eR6 : upd H5 Z (.lst []) R = some (.lst (out.map V.ref)) := (upd_ne (ne_of_none eR5 nZ)).trans eR5
        have s6 : Same H (upd H5 Z (.lst [])) := same_new sm5 nZ
        refine ⟨_, _, .lst (SqL.of eA6) d1, .lst (SqL.of upd_same) .nil, (shT d2 d3).2, rfl, _, rfl, ?_⟩
        clear eA5 eB5 eL5 eR5 sm5
        cases hd : as.drop u with
        | nil =>
          rw [hd] at d1 hb
          cases d1
          rw [bl_0nil fk, List.append_nil] at hb
          refine iteT ?_
          refine ⟨_, rfl, R, _, rfl, .inl ⟨SqL.of eR6, fun l nl => ?_⟩⟩
          rw [hb]
          exact fin _ s6 (by rw [← hb]; exact eR6) l nl
        | cons x rr =>
          rw [hd] at d1 hb eA6
          rw [bl_0cons fk] at hb
          have hds : ∃ d0 dr, ds = d0 :: dr := by
            cases d1
            exact ⟨_, _, rfl⟩
          obtain ⟨d0, dr, rfl⟩ := hds
          refine iteF ?_
          have eud : rr = as.drop (u + 1) := by
            have h1 : u < as.length := by
              rcases Nat.lt_or_ge u as.length with h | h
              · exact h
              · rw [List.drop_of_length_le h] at hd
                cases hd
            have h2 := List.drop_eq_getElem_cons h1
            rw [hd] at h2
            exact (List.cons.inj h2).2
          refine ⟨_, rfl, .inl ⟨rfl, _, SqL.of eR6⟩, _, rfl, .inl ⟨rfl, _, SqL.of eA6⟩, A1, _, 0, 0, .ref x, rfl, rfl, eA6, by decide, by decide, ?_, rfl, ?_⟩
          · show seqIndex? 0 ((rr.map V.ref).length + 1) = some 0
            unfold seqIndex?
            simp
          have eR7 : upd (upd H5 Z (.lst [])) A1 (.lst (rr.map V.ref)) R = some (.lst (out.map V.ref)) := (upd_ne AR.symm).trans eR6
          refine ⟨R, _, _, rfl, rfl, eR7, ?_, ?_⟩
          · rw [List.length_map]
            exact small1000 (by omega)
          refine ⟨_, _, u + 1, v, out ++ [x], rfl, same_mine (same_mine s6 nA1) nRH, ?_, ?_, ?_, ?_, by rw [List.length_append, ho]; rfl, ?_⟩
          · rw [upd_ne LR, upd_ne AL.symm]
            exact eL6
          · rw [upd_ne AR, upd_same, ← eud]
            rfl
          · rw [upd_ne BR, upd_ne AB.symm]
            exact eB6
          · rw [upd_same, List.map_append]
            rfl
          · rw [hm1, List.append_assoc, ← eud]
            exact hb
      · have fk : ¬ pk ts k = 0 := by
          show ¬ pickOf ((k : Nat) : Int) ts = 0
          omega
        rw [e]
        refine ⟨L, _, 1, _, rfl, rfl, SqL.of eL5, atI_nat (j := 1) rfl, ?_⟩
        refine ⟨_, rfl, Nat.zero_le _, fun Z nZ => ?_⟩
        have wd := (wb.mono (Tups.same sm5)).mono (Tups.new (o := .lst []) nZ)
        have wd : WispsAt (upd H5 Z (.lst [])) (bs.drop v) := fun x hx => wd x (List.mem_of_mem_drop hx)
        obtain ⟨ds, d1, d2, d3⟩ := wisps_dp (K := K) wd
        have eA6 : upd H5 Z (.lst []) A1 = some (.lst ((as.drop u).map V.ref)) := (upd_ne (ne_of_none eA5 nZ)).trans eA5
        have eB6 : upd H5 Z (.lst []) B1 = some (.lst ((bs.drop v).map V.ref)) := (upd_ne (ne_of_none eB5 nZ)).trans eB5
        have eL6 : upd H5 Z (.lst []) L = some (.lst [.ref A1, .ref B1]) := (upd_ne (ne_of_none eL5 nZ)).trans eL5
        have eR6 : upd H5 Z (.lst []) R = some (.lst (out.map V.ref)) := (upd_ne (ne_of_none eR5 nZ)).trans eR5
        have s6 : Same H (upd H5 Z (.lst [])) := same_new sm5 nZ
        refine ⟨_, _, .lst (SqL.of eB6) d1, .lst (SqL.of upd_same) .nil, (shT d2 d3).2, rfl, _, rfl, ?_⟩
        clear eA5 eB5 eL5 eR5 sm5
        cases hd : bs.drop v with
        | nil =>
          rw [hd] at d1 hb
          cases d1
          rw [bl_1nil fk, List.append_nil] at hb
          refine iteT ?_
          refine ⟨_, rfl, R, _, rfl, .inl ⟨SqL.of eR6, fun l nl => ?_⟩⟩
          rw [hb]
          exact fin _ s6 (by rw [← hb]; exact eR6) l nl
        | cons x rr =>
          rw [hd] at d1 hb eB6
          rw [bl_1cons fk] at hb
          have hds : ∃ d0 dr, ds = d0 :: dr := by
            cases d1
            exact ⟨_, _, rfl⟩
          obtain ⟨d0, dr, rfl⟩ := hds
          refine iteF ?_
          have eud : rr = bs.drop (v + 1) := by
            have h1 : v < bs.length := by
              rcases Nat.lt_or_ge v bs.length with h | h
              · exact h
              · rw [List.drop_of_length_le h] at hd
                cases hd
            have h2 := List.drop_eq_getElem_cons h1
            rw [hd] at h2
            exact (List.cons.inj h2).2
          refine ⟨_, rfl, .inl ⟨rfl, _, SqL.of eR6⟩, _, rfl, .inl ⟨rfl, _, SqL.of eB6⟩, B1, _, 0, 0, .ref x, rfl, rfl, eB6, by decide, by decide, ?_, rfl, ?_⟩
          · show seqIndex? 0 ((rr.map V.ref).length + 1) = some 0
            unfold seqIndex?
            simp
          have eR7 : upd (upd H5 Z (.lst [])) B1 (.lst (rr.map V.ref)) R = some (.lst (out.map V.ref)) := (upd_ne BR.symm).trans eR6
          refine ⟨R, _, _, rfl, rfl, eR7, ?_, ?_⟩
          · rw [List.length_map]
            exact small1000 (by omega)
          refine ⟨_, _, u, v + 1, out ++ [x], rfl, same_mine (same_mine s6 nB1H) nRH, ?_, ?_, ?_, ?_, by rw [List.length_append, ho]; rfl, ?_⟩
          · rw [upd_ne LR, upd_ne BL.symm]
            exact eL6
          · rw [upd_ne AR, upd_ne AB]
            exact eA6
          · rw [upd_ne BR, upd_same, ← eud]
            rfl
          · rw [upd_same, List.map_append]
            rfl
          · rw [hm1, List.append_assoc, ← eud]
            exact hb
    · obtain ⟨x4, x5, u, v, out, rfl, sm, eL', eA', eB', eR', ho, hb⟩ := hm
      have hb : out ++ [] = bl (pk ts) 0 60 as bs := hb
      rw [List.append_nil] at hb
      refine ⟨_, rfl, R, _, rfl, .inl ⟨SqL.of eR', fun l nl => ?_⟩⟩
      rw [hb]
      exact fin _ sm (by rw [← hb]; exact eR') l nl
theorem ok_law {fP fM fN fT fR f : Addr} {fdP fdM fdN fdT fdR fd : FuncData} (F : Fun K "law" "law" s_law f fd) (bi : Bi mg)
    (C__law_pot : Cal P w K mg base "_law_pot" P__law_pot 1 (spBeginC K) fP fdP) (C__law_wisps : Cal P w K mg base "_law_wisps" P__law_wisps 2 spWisps31 fN fdN) (C__law_parts : Cal P w K mg base "_law_parts" P__law_parts 4 spParts30 fM fdM) (C_blended : Cal P w K mg base "blended" P_blended 4 spBlended fT fdT)
    (C__law_blended : Cal P w K mg base "_law_blended" P__law_blended 2 spLawBlended fR fdR) : FnOk P w K mg base CX0 6 f fd P_law (spLaw K) := by
  refine F.ok sc_law (fun vs H Q E h => ?_) (fun cdv A outer s H vs Q E hr h => ?_)
  · obtain ⟨a, ns, rfl, _⟩ := h
    rfl
  · obtain ⟨a, ns, rfl, hS, hn, q⟩ := h
    have hu64 := hr.units
    refine ⟨_, (pss_cons (ps_for PassesOwn.never rfl (pi_range1 rfl bi.m_range (pa_cons (pe_callB (call_max2 rfl) (by rfl) bi.m_max (by decide +kernel) (pa_cons pe_int (pa_cons (pe_callB (call_min2 rfl) (by rfl) bi.m_min (by decide +kernel) (pa_cons pe_int (pa_cons (pe_callB call_len_seq (by rfl) bi.m_len (by decide +kernel) (pa_cons (pv 0) pa_nil)) pa_nil))) pa_nil))) pa_nil)) (pg_name (i := 1) sc_law.nd rfl (.inl rfl))
      (pss_cons (ps_set (i := 2) sc_law.nd rfl (.inr rfl) (pe_call (C__law_pot.G.mono (by decide)) hr (by rfl) C__law_pot.g C__law_pot.kp C__law_pot.b .nil pass0 (pa_cons (pv 0) (pa_cons (pv 1) pa_nil))))
        (pss_cons (ps_par (i := 3) (j := 4) rfl sc_law.nd rfl rfl (by decide) rfl rfl (pa_cons (pe_lc (own := [("_law_sort_here", 7)]) (g := (gName 7)) (tt := tYes) rfl sc_law.nd (pi_tup (pe_tup (pa_cons pe_int (pa_cons pe_int pa_nil)))) (blkOk_by (N := N_law) (sc := defScope s_law) (by decide +kernel)) (fun _ _ _ _ _ => (pg_name (i := 7) sc_law.nd rfl (.inl rfl) (.inr rfl))) (fun _ _ _ _ _ => pts_nil) (fun _ _ _ _ _ => (pe_call (C__law_wisps.G.mono (by decide)) hr (by rfl) C__law_wisps.g C__law_wisps.kp C__law_wisps.b .nil pass0 (pa_cons (pv 2) (pa_cons (pv 7) pa_nil))))) (pa_cons (pe_lst (pa_cons (pe_call (C__law_parts.G.mono (by decide)) hr (by rfl) C__law_parts.g C__law_parts.kp C__law_parts.b .nil pass0 (pa_cons (pv 2) pa_nil)) (pa_cons (pe_call (C__law_parts.G.mono (by decide)) hr (by rfl) C__law_parts.g C__law_parts.kp C__law_parts.b .nil pass0 (pa_cons (pv 2) pa_nil)) pa_nil))) pa_nil)) rfl)
        (pss_one (ps_for PassesOwn.never rfl (pi_tup (pe_tup (pa_cons (pe_ix ix_list (pv 4) pe_int (fun _ _ => rfl)) (pa_cons (pe_ix ix_list (pv 4) pe_int (fun _ _ => rfl)) (pa_cons (pe_ix ix_list (pv 4) pe_int (fun _ _ => rfl)) pa_nil))))) (pg_name (i := 5) sc_law.nd rfl (.inl rfl))
          (pss_cons (ps_set (i := 6) sc_law.nd rfl (.inl rfl) (pe_call (C_blended.G.mono (by decide)) hr (by rfl) C_blended.g C_blended.kp C_blended.b .nil pass0 (pa_cons (pe_ix ix_list (pv 3) pe_int (fun _ _ => rfl)) (pa_cons (pe_ix ix_list (pv 3) pe_int (fun _ _ => rfl)) (pa_cons (pv 5) pa_nil)))))
            (pss_one (ps_if (pw_or (pt_not (pt_val (pe_callB call_isi (by rfl) bi.m_isinstance (by decide +kernel) (pa_cons (pv 6) (pa_cons (pe_bltn (v := .ty "tuple") (by rfl) bi.m_tuple (by decide +kernel) rfl) pa_nil))))) (pw_or1 (pt_cmpR (op_neD hu64) (pv 6) (pe_call (C__law_blended.G.mono (by decide)) hr (by rfl) C__law_blended.g C__law_blended.kp C__law_blended.b .nil pass0 (pa_cons (pv 3) (pa_cons (pv 5) pa_nil))) (nomark _)))).pt
              (pss_one (ps_ret pe_bl))
              pss_nil))))))))
    (pss_one (ps_ret pe_bl))), ?_⟩
    refine ⟨_, rfl, a, _, rfl, .inl hS, _, _, rfl, _, _, rfl, _, rfl, ?_, ?_, ?_⟩
    · rw [List.length_map]
      split <;> split <;> omega
    · rw [List.length_map]
      split <;> split <;> omega
    generalize hN : Int.toNat _ = N
    have hN8 : N ≤ 8 := by
      rw [← hN, List.length_map]
      split <;> split <;> omega
    clear hN
    refine for_range (n := N) (fun i σ' H' => ∃ (x1 x2 x3 x4 x5 x6 x7 : Option V), σ' = [some (.ref a), x1, x2, x3, x4, x5, x6, x7] ∧ Same H H') ⟨_, _, _, _, _, _, _, rfl, Same.refl H⟩ (fun i σ' H' hi hm => ?_) (fun σ' H' hm => ?_)
    · obtain ⟨x1, x2, x3, x4, x5, x6, x7, rfl, sH⟩ := hm
      refine ⟨_, rfl, _, rfl, a, ns, 0 + i, rfl, sH.seq hS, hn, by omega, by omega, fun H1 p s1 np hp => ?_⟩
      -- the rows
      refine ⟨(by show 2 ≤ sizeLine; decide), fun y ny => ?_⟩
      refine ⟨y, rfl, ⟨_, SqT.of upd_same⟩, fun D nD => ?_⟩
      have sy : Same H1 (upd H1 y (.tup [.int 0, .int 1])) := same_new (Same.refl _) ny
      have ey : upd H1 y (.tup [.int 0, .int 1]) y = some (.tup [.int 0, .int 1]) := upd_same
      have hpy := hp.same sy
      generalize upd H1 y (.tup [.int 0, .int 1]) = H2 at sy ey nD hpy
      have nDp := hpy.fresh nD
      have nyp := hpy.notP ey
      refine lc_tup (xs := [.int 0, .int 1]) (fun j H3 => ∃ os : List Addr, PotC H3 p (10 * j) ∧ Keep p p H2 H3 ∧ H3 D = some (.lst (os.map V.ref)) ∧ os.length = j ∧ ∀ o ∈ os, ∃ as : List Addr, H3 o = some (.tup (as.map V.ref)) ∧ as.length ≤ 60 ∧ WispsAt H3 as) ⟨[], hpy.new nD, Keep.refl.new nD, upd_same, rfl, fun o ho => by cases ho⟩ (fun j H3 hj hm => by
        obtain ⟨os, _, k3, _⟩ := hm
        exact SqT.of (k3.at nyp ey)) (fun j x H3 hx hm => ?_) (fun H3 hm => ?_)
      · obtain ⟨os, hp3, k3, eD, hl, ok⟩ := hm
        have hj2 : j < 2 := (List.getElem?_eq_some_iff.mp hx).1
        obtain ⟨so, rfl⟩ : ∃ so : Int, x = .int so := by
          rcases List.mem_cons.mp (List.mem_of_getElem? hx) with h | h
          · exact ⟨_, h⟩
          · rcases List.mem_cons.mp h with h | h
            · exact ⟨_, h⟩
            · cases h
        refine ⟨rfl, yesIte ?_⟩
        refine ⟨_, rfl, _, rfl, p, _, so, rfl, hp3, by omega, fun H4 o as no eo hal wa hp4 k4 => ?_⟩
        have eD4 := k4.at nDp eD
        have tD := Tups.ls (o := .lst (os.map V.ref ++ [.ref o])) eD4
        refine ⟨_, eD4, ?_, os ++ [o], hp4.other nDp, (k3.trans k4).mine nD, ?_, ?_, fun z hz => ?_⟩
        · rw [List.length_map]
          exact small1000 (by omega)
        · rw [upd_same, List.map_append]
          rfl
        · rw [List.length_append, hl]
          rfl
        · rcases List.mem_append.mp hz with h | h
          · obtain ⟨bs, h1, h2, h3⟩ := ok z h
            exact ⟨bs, tD _ _ (k4.tupsC hp3 _ _ h1), h2, (h3.mono (k4.tupsC hp3)).mono tD⟩
          · simp only [List.mem_cons, List.not_mem_nil, or_false] at h
            rw [h]
            exact ⟨as, tD _ _ eo, hal, wa.mono tD⟩
      obtain ⟨os, hp3, k3, eD, hl, ok⟩ := hm
      have hl : os.length = 2 := hl
      obtain ⟨o1, o2, rfl⟩ : ∃ o1 o2, os = [o1, o2] := by
        match os, hl with
        | [o1, o2], _ => exact ⟨o1, o2, rfl⟩
      obtain ⟨as, ea, la, wa⟩ := ok o1 (by simp)
      obtain ⟨bs, eb, lb, wb⟩ := ok o2 (by simp)
      -- both
      refine ⟨_, rfl, p, _, rfl, hp3, by decide, fun H4 c ts hc gc nc hp4 k4 => ?_⟩
      refine ⟨_, rfl, p, _, rfl, hp4, by decide, fun H5 c' ts' hc' gc' nc' hp5 k5 => ?_⟩
      refine ⟨(by show 2 ≤ sizeLine; decide), fun B nB => ⟨_, _, rfl, ?_⟩⟩
      have t35 : Tups H3 (upd H5 B (.lst [.ref c, .ref c'])) := ((k4.tupsC hp3).trans (k5.tupsC hp4)).trans (Tups.new nB)
      have hc6 := (hc.mono (k5.tupsC hp4)).mono (Tups.new (o := .lst [.ref c, .ref c']) nB)
      have hc6' := hc'.mono (Tups.new (o := .lst [.ref c, .ref c']) nB)
      have eD6 : upd H5 B (.lst [.ref c, .ref c']) D = some (.lst [.ref o1, .ref o2]) := by
        have := k5.at nDp (k4.at nDp eD)
        rw [upd_ne (ne_of_none this nB)]
        exact this
      have eB6 : upd H5 B (.lst [.ref c, .ref c']) B = some (.lst [.ref c, .ref c']) := upd_same
      have s6 : Same H' (upd H5 B (.lst [.ref c, .ref c'])) := same_new (((k3.trans k4).trans k5).from (s1.trans sy) np) nB
      have ea6 := t35 _ _ ea
      have eb6 := t35 _ _ eb
      have wa6 := wa.mono t35
      have wb6 := wb.mono t35
      generalize upd H5 B (.lst [.ref c, .ref c']) = H6 at hc6 hc6' eD6 eB6 s6 ea6 eb6 wa6 wb6
      refine ⟨_, rfl, B, _, 0, _, rfl, rfl, SqL.of eB6, atI_nat (j := 0) rfl, _, rfl, B, _, 1, _, rfl, rfl, SqL.of eB6, atI_nat (j := 1) rfl, _, rfl, B, _, 0, _, rfl, rfl, SqL.of eB6, atI_nat (j := 0) rfl, (by show 3 ≤ sizeLine; decide), fun Y nY => ?_⟩
      have sY : Same H6 (upd H6 Y (.tup [.ref c, .ref c', .ref c])) := same_new (Same.refl _) nY
      have eY : upd H6 Y (.tup [.ref c, .ref c', .ref c]) Y = some (.tup [.ref c, .ref c', .ref c]) := upd_same
      refine ⟨Y, rfl, ⟨_, SqT.of eY⟩, ?_⟩
      generalize upd H6 Y (.tup [.ref c, .ref c', .ref c]) = H7 at sY eY
      refine for_tup (xs := [.ref c, .ref c', .ref c]) (fun j σ' Hj => ∃ (x5 x6 : Option V), σ' = [some (.ref a), some (.int (0 + i)), some (.ref p), some (.ref D), some (.ref B), x5, x6, x7] ∧ Same H6 Hj ∧ Same H7 Hj) ⟨_, _, rfl, sY, Same.refl _⟩ (fun j σ' Hj hj hm => ?_) (fun j x σ' Hj hx hm => ?_) (fun σ' Hj hm => ?_)
      · obtain ⟨x5, x6, rfl, sm, sm7⟩ := hm
        exact SqT.of (sm7 _ _ eY)
      · obtain ⟨x5, x6, rfl, sm, sm7⟩ := hm
        obtain ⟨b, us, rfl, hb, gb⟩ : ∃ b us, x = .ref b ∧ PartsAt H6 b us ∧ GoodP us := by
          have := List.mem_of_getElem? hx
          simp only [List.mem_cons, List.not_mem_nil, or_false] at this
          rcases this with h | h | h
          · exact ⟨c, ts, h, hc6, gc⟩
          · exact ⟨c', ts', h, hc6', gc'⟩
          · exact ⟨c, ts, h, hc6, gc⟩
        have eDj := sm _ _ eD6
        refine ⟨_, rfl, D, _, 0, _, rfl, rfl, SqL.of eDj, atI_nat (j := 0) rfl, _, rfl, D, _, 1, _, rfl, rfl, SqL.of eDj, atI_nat (j := 1) rfl, _, rfl, o1, o2, b, as, bs, us, rfl, sm _ _ ea6, sm _ _ eb6, la, lb, hb.mono (Tups.same sm), gb, fun Ha z sa nz ez => ?_⟩
        refine ⟨_, rfl, _, _, _, _, true, rfl, ClsV.ty "tuple", sqt_ty (SqT.of ez), kit_ty (by decide +kernel), true, rfl, ?_⟩
        refine iteNT ?_
        have sma := sm.trans sa
        refine ⟨_, rfl, _, rfl, _, rfl, D, o1, o2, b, as, bs, us, rfl, sma _ _ eD6, sma _ _ ea6, sma _ _ eb6, la, lb, wa6.mono (Tups.same sma), wb6.mono (Tups.same sma), hb.mono (Tups.same sma), gb, fun Hb z2 sb nz2 ez2 => ?_⟩
        have smb := sma.trans sb
        have wr : WispsAt Hb (bl (pk us) 0 60 as bs) := fun x hx => by
          rcases bl_mem _ _ _ _ _ x hx with h | h
          · exact wa6.mono (Tups.same smb) x h
          · exact wb6.mono (Tups.same smb) x h
        obtain ⟨ds, d1, d2, d3⟩ := wisps_dp (K := K) wr
        refine ⟨_, _, .tup (SqT.of (sb _ _ ez)) d1, .tup (SqT.of ez2) d1, (shT d2 d3).1, (shT d2 d3).1, _, rfl, ?_⟩
        rw [SeqAt.eqv_refl _ (Bool.and_eq_true_iff.mp (shT d2 d3).1).1]
        refine iteF ?_
        exact ⟨_, _, rfl, smb, (sm7.trans sa).trans sb⟩
      · obtain ⟨x5, x6, rfl, sm, sm7⟩ := hm
        exact ⟨_, _, _, _, _, _, _, rfl, sH.trans (s6.trans sm)⟩
    · exact q _
end
/-! ### the end of a law whose def is such a one -/
theorem lawG {P : Program} {w : World} {K : PySem.W.Frag} {mg mb : Str → Option Value} {k : Nat} {fa a : Addr} {fd : FuncData} {x : Str} {sp : Sp} {t : Shared} {ws : List Value} {ns : List Int} (kin : K.In t.heap) (gl : t.heap.Ns mainGlobals mg) (bl : t.heap.Ns builtinsNs mb)
    (bb : ∀ y : Str, y ≠ "__name__" → mb y = bootBuiltins y) (nol : t.heap.NoLimit) (gn : t.gens = #[]) (ea : t.heap.get? a = some { cls := .type "list", data := .seq ws.toArray }) (ia : IntsAre ws ns) (sz : ns.length ≤ sizeLine) (hr : Room k callerA)
    (F : ∀ bs : Heap, K.In bs → bs.Ns mainGlobals mg → FnG P w K mg bs k fa fd [x] sp) (bd : ∀ (s : Shared) (u : Value), BindsTo s fd ⟨[u], []⟩ [(x, u)]) (hs : ∀ H : Hp, SqL K H a (ns.map V.int) → sp [.ref a] H (fun v _ => v = .bl true) fun _ _ _ => False) :
    codeAny (model P w) callerA (.call (.ref fa) ⟨[.ref a], []⟩) (fun r s' => r = .ok (.ret (.bool true)) ∧ OldK t.heap s'.heap ∧ s'.os = t.os ∧ AllBare s'.gens) t := by
  have va := vals_ints ia
  have key : ∀ H : Hp, Only H → SqL K H a (ns.map V.int) → HOk P w H t.heap → (∀ b, H b ≠ none → b = a) → (H a ≠ none → K.lookup a = none) → codeAny (model P w) callerA (.call (.ref fa) ⟨[.ref a], []⟩)
      (fun r s' => r = .ok (.ret (.bool true)) ∧ OldK t.heap s'.heap ∧ s'.os = t.os ∧ AllBare s'.gens) t := fun H on sq hok only notK => by
    have free : ∀ {b : Addr} {o : Obj} {es : Array DictEntry} {n : Nat}, t.heap.get? b = some o → o.data = .dict es n → H b = none := fun {b o es n} e d => by
      rcases on b with z | ⟨ob, xs, z⟩
      · exact z
      · have e' : b = a := only b (by rw [z]; exact Option.some_ne_none _)
        rw [e', ea] at e
        cases e
        cases (show Data.seq ws.toArray _ = Data.dict es n from d)
    have nsB : ∀ {b : Addr} {m : Str → Option Value}, t.heap.Ns b m → (hidT t.heap H).Ns b m := fun ⟨o, es, n, e, d, r⟩ => ⟨o, es, n, hidT_get e (free e d), d, r⟩
    have kB : K.In (hidT t.heap H) := fun b o e => hidT_get (kin b o e) (by
      rcases on b with z | ⟨ob, xs, z⟩
      · exact z
      · have e' : b = a := only b (by rw [z]; exact Option.some_ne_none _)
        rw [e', notK (by rw [← e', z]; exact Option.some_ne_none _)] at e
        cases e)
    have md : Mod K mg (hidT t.heap H) := ⟨kB, nsB gl, ⟨mb, nsB bl, bb⟩, nol.elim fun mc z => ⟨mc, nsB z.1, z.2⟩⟩
    have e0 : Env0 P w K mg (hidT t.heap H) callerA [] t H := ⟨rfl, md, fun _ _ e => of_hidT e, Nat.le_of_eq (hidT_size _ _), trivial, (fun b hb => by cases hb), hok, .of_eq gn⟩
    refine codeAny_mono ((F _ kB (nsB gl)).goes callerA [] t H _ [.ref a] [.ref a] _ _ hr rfl e0 (bd t (.ref a)) (.cons rfl .nil) (hs H sq)) fun r s' h => ?_
    match r, h with
    | .error _, h => exact False.elim h
    | .ok .next, h => exact False.elim h
    | .ok .brk, h => exact False.elim h
    | .ok .cont, h => exact False.elim h
    | .ok (.ret u), h =>
      obtain ⟨v, H', eos, eb, un, ok', rv, q⟩ := h
      cases (show v = .bl true from q)
      cases (show u = Value.bool true from rv)
      refine ⟨rfl, OldK.of_keep fun b o e => ?_, eos, eb⟩
      rcases on b with z | ⟨ob, xs, z⟩
      · exact un.keep b o e z (fun y => by cases y) (fun y => by cases y)
      · obtain ⟨e1, _⟩ := hok b _ z
        obtain ⟨e2, _⟩ := ok' b _ (un.frzs b ob _ z)
        rw [e] at e1
        cases e1
        exact e2
  cases hk : K.lookup a with
  | some o =>
    have e := kin a o hk
    rw [ea] at e
    cases e
    exact key (fun _ => none) (fun _ => .inl rfl) (.inr ⟨_, ws.toArray, _, hk, rfl, rfl, rfl, (by rw [List.size_toArray, ia.length]; exact sz), by simpa using va⟩) (fun b u z => nomatch (show (none : Option HO) = some u from z)) (fun b z => absurd rfl z) (fun z => absurd rfl z)
  | none =>
    have at_ : ∀ b, (if b = a then some (HO.frz { cls := .type "list", data := .seq ws.toArray } (.lst (ns.map V.int))) else none) ≠ none → b = a := fun b z => by
      by_cases h : b = a
      · exact h
      · exact absurd (if_neg h) z
    refine key (fun b => if b = a then some (.frz { cls := .type "list", data := .seq ws.toArray } (.lst (ns.map V.int))) else none) (fun b => ?_) (.inl (.inr ⟨_, if_pos rfl⟩)) (fun b u z => ?_) at_ (fun _ => hk)
    · by_cases h : b = a
      · exact .inr ⟨_, _, if_pos h⟩
      · exact .inl (if_neg h)
    · have h : b = a := at_ b (fun y => by rw [show (if b = a then some (HO.frz { cls := .type "list", data := .seq ws.toArray } (.lst (ns.map V.int))) else none) = some u from z] at y; cases y)
      subst h
      have z' := (if_pos rfl).symm.trans z
      cases z'
      exact ⟨ea, by rw [List.length_map]; exact sz, ws, _, va, ea⟩
theorem walkG {l : PySem.W.OpenLaw} {n k : Nat} {q : Program} {loose : List Str} {XP : (Str → Option Value) → Heap → Prop} {YP : World → Heap → Prop} {d : DefRec} {K : Params → PySem.W.Frag} {sp : World → Sp} {x : Str} (hn : l.most = some n) (h2 : n ≤ sizeLine) (hd : d.params.defaults = []) (hr : Room k callerA)
    (hY : ∀ (w : World) (h : Heap), YP w h → (K w.params).In h) (F : ∀ (w : World) (mg : Str → Option Value) (fa : Addr) (h : Heap), (K w.params).In h → h.Ns mainGlobals mg → mg d.name = some (.ref fa) → ∃ fd : FuncData, (∀ (s : Shared) (u : Value), BindsTo s fd ⟨[u], []⟩ [(x, u)]) ∧
      ∀ bs : Heap, (K w.params).In bs → bs.Ns mainGlobals mg → FnG l.prog w (K w.params) mg bs k fa fd [x] (sp w)) (hs : ∀ (w : World) (H : Hp) (a : Addr) (ns : List Int), ns.length ≤ n → SqL (K w.params) H a (ns.map V.int) → sp w [.ref a] H (fun v _ => v = .bl true) fun _ _ _ => False) :
    PySem.W.WalkO q loose XP YP l.row.toRowW d [] (fun f vs => PySem.call f vs) := Att.attach_call hn hd fun w s t mg mb fa o pm cd dc a ws ns G Y ho hdt hcd hmg eo ia hl hg => by
  obtain ⟨fd, bd, hF⟩ := F w mg fa _ (hY w _ Y) G.T.g hmg
  exact lawG (hY w _ Y) G.T.g G.T.b G.T.builtins G.T.nolimit hg eo ia (Nat.le_trans hl h2) hr hF bd fun H sq => hs w H a ns hl sq
theorem all_mk {l : PySem.W.OpenLaw} {w : World} {K : PySem.W.Frag} {h : Heap} {mg : Str → Option Value} {fa f1 f2 f3 f4 f5 f6 f7 f8 f9 f10 f11 f12 f13 : Addr} {tk_MOST_WISPS : Tok} (X : K.In h) (G : h.Ns mainGlobals mg) (hfa : mg "law" = some (.ref fa))
    {od1 an1 od2 an2 od3 an3 od4 an4 od5 an5 od6 an6 od7 an7 od8 an8 od9 an9 od10 an10 od11 an11 od12 an12 od13 an13 : Option Addr} {sl1 sl2 sl3 sl4 sl5 sl6 sl7 sl8 sl9 sl10 sl11 sl12 sl13 : Array (Option Value)} {oc1 kV1 dc1 pm1 cd1 ct1 oc2 kV2 dc2 pm2 cd2 ct2 oc3 kV3 dc3 pm3 cd3 ct3 oc4 kV4 dc4 pm4 cd4 ct4 oc5 kV5 dc5 pm5 cd5 ct5 oc6 kV6 dc6 pm6 cd6 ct6 oc7 kV7 dc7 pm7 cd7 ct7 oc8 kV8 dc8 pm8 cd8 ct8 oc9 kV9 dc9 pm9 cd9 ct9 oc10 kV10 dc10 pm10 cd10 ct10 oc11 kV11 dc11 pm11 cd11 ct11 oc12 kV12 dc12 pm12 cd12 ct12 oc13 kV13 dc13 pm13 cd13 ct13 : Value}
    (a1 : PySem.W.nsIn K mainGlobals "taken" = some (some (.ref f1))) (l1 : K.lookup f1 = some ⟨oc1, od1, .func (PySem.W.fnOf "taken" "taken" (defArgs s_taken) (defBody s_taken) (defScope s_taken) .none kV1 dc1 pm1 an1 cd1 ct1), sl1⟩) (c1 : PySem.W.codeIn K cd1 "taken" = true) (k1 : PySem.W.keepIn K (.ref f1) = true)
    (a2 : PySem.W.nsIn K mainGlobals "sort_of" = some (some (.ref f2))) (l2 : K.lookup f2 = some ⟨oc2, od2, .func (PySem.W.fnOf "sort_of" "sort_of" (defArgs s_sort_of) (defBody s_sort_of) (defScope s_sort_of) .none kV2 dc2 pm2 an2 cd2 ct2), sl2⟩) (c2 : PySem.W.codeIn K cd2 "sort_of" = true) (k2 : PySem.W.keepIn K (.ref f2) = true)
    (a3 : PySem.W.nsIn K mainGlobals "sort_by" = some (some (.ref f3))) (l3 : K.lookup f3 = some ⟨oc3, od3, .func (PySem.W.fnOf "sort_by" "sort_by" (defArgs s_sort_by) (defBody s_sort_by) (defScope s_sort_by) .none kV3 dc3 pm3 an3 cd3 ct3), sl3⟩) (c3 : PySem.W.codeIn K cd3 "sort_by" = true) (k3 : PySem.W.keepIn K (.ref f3) = true)
    (a4 : PySem.W.nsIn K mainGlobals "blended" = some (some (.ref f4))) (l4 : K.lookup f4 = some ⟨oc4, od4, .func (PySem.W.fnOf "blended" "blended" (defArgs s_blended) (defBody s_blended) (defScope s_blended) .none kV4 dc4 pm4 an4 cd4 ct4), sl4⟩) (c4 : PySem.W.codeIn K cd4 "blended" = true) (k4 : PySem.W.keepIn K (.ref f4) = true)
    (a5 : PySem.W.nsIn K mainGlobals "_law_pot" = some (some (.ref f5))) (l5 : K.lookup f5 = some ⟨oc5, od5, .func (PySem.W.fnOf "_law_pot" "_law_pot" (defArgs s__law_pot) (defBody s__law_pot) (defScope s__law_pot) .none kV5 dc5 pm5 an5 cd5 ct5), sl5⟩) (c5 : PySem.W.codeIn K cd5 "_law_pot" = true) (k5 : PySem.W.keepIn K (.ref f5) = true)
    (a6 : PySem.W.nsIn K mainGlobals "_law_pick" = some (some (.ref f6))) (l6 : K.lookup f6 = some ⟨oc6, od6, .func (PySem.W.fnOf "_law_pick" "_law_pick" (defArgs s__law_pick) (defBody s__law_pick) (defScope s__law_pick) .none kV6 dc6 pm6 an6 cd6 ct6), sl6⟩) (c6 : PySem.W.codeIn K cd6 "_law_pick" = true) (k6 : PySem.W.keepIn K (.ref f6) = true)
    (a7 : PySem.W.nsIn K mainGlobals "_law_great" = some (some (.ref f7))) (l7 : K.lookup f7 = some ⟨oc7, od7, .func (PySem.W.fnOf "_law_great" "_law_great" (defArgs s__law_great) (defBody s__law_great) (defScope s__law_great) .none kV7 dc7 pm7 an7 cd7 ct7), sl7⟩) (c7 : PySem.W.codeIn K cd7 "_law_great" = true) (k7 : PySem.W.keepIn K (.ref f7) = true)
    (a8 : PySem.W.nsIn K mainGlobals "_law_number" = some (some (.ref f8))) (l8 : K.lookup f8 = some ⟨oc8, od8, .func (PySem.W.fnOf "_law_number" "_law_number" (defArgs s__law_number) (defBody s__law_number) (defScope s__law_number) .none kV8 dc8 pm8 an8 cd8 ct8), sl8⟩) (c8 : PySem.W.codeIn K cd8 "_law_number" = true) (k8 : PySem.W.keepIn K (.ref f8) = true)
    (a9 : PySem.W.nsIn K mainGlobals "_law_parts" = some (some (.ref f9))) (l9 : K.lookup f9 = some ⟨oc9, od9, .func (PySem.W.fnOf "_law_parts" "_law_parts" (defArgs s__law_parts) (defBody s__law_parts) (defScope s__law_parts) .none kV9 dc9 pm9 an9 cd9 ct9), sl9⟩) (c9 : PySem.W.codeIn K cd9 "_law_parts" = true) (k9 : PySem.W.keepIn K (.ref f9) = true)
    (a10 : PySem.W.nsIn K mainGlobals "_law_wisps" = some (some (.ref f10))) (l10 : K.lookup f10 = some ⟨oc10, od10, .func (PySem.W.fnOf "_law_wisps" "_law_wisps" (defArgs s__law_wisps) (defBody s__law_wisps) (defScope s__law_wisps) .none kV10 dc10 pm10 an10 cd10 ct10), sl10⟩) (c10 : PySem.W.codeIn K cd10 "_law_wisps" = true) (k10 : PySem.W.keepIn K (.ref f10) = true)
    (a11 : PySem.W.nsIn K mainGlobals "_law_sort" = some (some (.ref f11))) (l11 : K.lookup f11 = some ⟨oc11, od11, .func (PySem.W.fnOf "_law_sort" "_law_sort" (defArgs s__law_sort) (defBody s__law_sort) (defScope s__law_sort) .none kV11 dc11 pm11 an11 cd11 ct11), sl11⟩) (c11 : PySem.W.codeIn K cd11 "_law_sort" = true) (k11 : PySem.W.keepIn K (.ref f11) = true)
    (a12 : PySem.W.nsIn K mainGlobals "_law_blended" = some (some (.ref f12))) (l12 : K.lookup f12 = some ⟨oc12, od12, .func (PySem.W.fnOf "_law_blended" "_law_blended" (defArgs s__law_blended) (defBody s__law_blended) (defScope s__law_blended) .none kV12 dc12 pm12 an12 cd12 ct12), sl12⟩) (c12 : PySem.W.codeIn K cd12 "_law_blended" = true) (k12 : PySem.W.keepIn K (.ref f12) = true)
    (a13 : PySem.W.nsIn K mainGlobals "law" = some (some (.ref f13))) (l13 : K.lookup f13 = some ⟨oc13, od13, .func (PySem.W.fnOf "law" "law" (defArgs s_law) (defBody s_law) (defScope s_law) .none kV13 dc13 pm13 an13 cd13 ct13), sl13⟩) (c13 : PySem.W.codeIn K cd13 "law" = true) (k13 : PySem.W.keepIn K (.ref f13) = true)
    (z1 : PySem.W.nsIn K mainGlobals "len" = some none)
    (z2 : PySem.W.nsIn K mainGlobals "sum" = some none)
    (z3 : PySem.W.nsIn K mainGlobals "abs" = some none)
    (z4 : PySem.W.nsIn K mainGlobals "isinstance" = some none)
    (z5 : PySem.W.nsIn K mainGlobals "max" = some none)
    (z6 : PySem.W.nsIn K mainGlobals "min" = some none)
    (z7 : PySem.W.nsIn K mainGlobals "tuple" = some none)
    (z8 : PySem.W.nsIn K mainGlobals "list" = some none)
    (z9 : PySem.W.nsIn K mainGlobals "int" = some none)
    (z10 : PySem.W.nsIn K mainGlobals "bool" = some none)
    (z11 : PySem.W.nsIn K mainGlobals "range" = some none)
    (z12 : PySem.W.nsIn K mainGlobals "enumerate" = some none)
    (z13 : PySem.W.nsIn K mainGlobals "zip" = some none)
    (z14 : PySem.W.nsIn K mainGlobals "repr" = some none)
    (z15 : PySem.W.nsIn K mainGlobals "str" = some none)
    (z16 : PySem.W.nsIn K mainGlobals "sorted" = some none)
    (z17 : PySem.W.nsIn K mainGlobals "set" = some none)
    (z18 : PySem.W.nsIn K mainGlobals "all" = some none)
    (q_MOST_WISPS : PySem.W.nsIn K mainGlobals "MOST_WISPS" = some (some (.int 60 tk_MOST_WISPS))) :
    ∃ fd : FuncData, (∀ (s : Shared) (v : Value), BindsTo s fd ⟨[v], []⟩ [("_law_script", v)]) ∧ ∀ base : Heap, K.In base → base.Ns mainGlobals mg → FnOk l.prog w K mg base CX0 6 fa fd P_law (spLaw K) := by
  have e := hfa.symm.trans (PySem.W.mg_of X G a13)
  cases e
  have g_MOST_WISPS := PySem.W.mg_of X G q_MOST_WISPS
  have F1 := fun_mk (st := s_taken) l1 c1 k1
  have F2 := fun_mk (st := s_sort_of) l2 c2 k2
  have F3 := fun_mk (st := s_sort_by) l3 c3 k3
  have F4 := fun_mk (st := s_blended) l4 c4 k4
  have F5 := fun_mk (st := s__law_pot) l5 c5 k5
  have F6 := fun_mk (st := s__law_pick) l6 c6 k6
  have F7 := fun_mk (st := s__law_great) l7 c7 k7
  have F8 := fun_mk (st := s__law_number) l8 c8 k8
  have F9 := fun_mk (st := s__law_parts) l9 c9 k9
  have F10 := fun_mk (st := s__law_wisps) l10 c10 k10
  have F11 := fun_mk (st := s__law_sort) l11 c11 k11
  have F12 := fun_mk (st := s__law_blended) l12 c12 k12
  have F13 := fun_mk (st := s_law) l13 c13 k13
  have bi : Bi mg := ⟨PySem.W.mg_none_of X G z1, PySem.W.mg_none_of X G z2, PySem.W.mg_none_of X G z3, PySem.W.mg_none_of X G z4, PySem.W.mg_none_of X G z5, PySem.W.mg_none_of X G z6, PySem.W.mg_none_of X G z7, PySem.W.mg_none_of X G z8, PySem.W.mg_none_of X G z9, PySem.W.mg_none_of X G z10, PySem.W.mg_none_of X G z11, PySem.W.mg_none_of X G z12, PySem.W.mg_none_of X G z13, PySem.W.mg_none_of X G z14, PySem.W.mg_none_of X G z15, PySem.W.mg_none_of X G z16, PySem.W.mg_none_of X G z17, PySem.W.mg_none_of X G z18⟩
  refine ⟨PySem.W.fnOf "law" "law" (defArgs s_law) (defBody s_law) (defScope s_law) .none kV13 dc13 pm13 an13 cd13 ct13, fun s v => .of_eq rfl, fun base _ _ => ?_⟩
  have C_taken : Cal l.prog w K mg base "taken" P_taken 1 spTaken f1 _ := ⟨ok_taken F1 bi, PySem.W.mg_of X G a1, F1.kp, F1.binds (ps := P_taken) fun _ _ _ _ _ _ us hl => match us, hl with | [_, _], _ => rfl⟩
  have C_sort_of : Cal l.prog w K mg base "sort_of" P_sort_of 2 spSortOf f2 _ := ⟨ok_sort_of F2 bi C_taken, PySem.W.mg_of X G a2, F2.kp, F2.binds (ps := P_sort_of) fun _ _ _ _ _ _ us hl => match us, hl with | [_, _], _ => rfl⟩
  have C_sort_by : Cal l.prog w K mg base "sort_by" P_sort_by 3 spSortBy f3 _ := ⟨ok_sort_by F3 bi C_sort_of, PySem.W.mg_of X G a3, F3.kp, F3.binds (ps := P_sort_by) fun _ _ _ _ _ _ us hl => match us, hl with | [_, _], _ => rfl⟩
  have C_blended : Cal l.prog w K mg base "blended" P_blended 4 spBlended f4 _ := ⟨ok_blended F4 bi g_MOST_WISPS C_sort_by, PySem.W.mg_of X G a4, F4.kp, F4.binds (ps := P_blended) fun _ _ _ _ _ _ us hl => match us, hl with | [_, _, _], _ => rfl⟩
  have C__law_pot : Cal l.prog w K mg base "_law_pot" P__law_pot 1 (spBeginC K) f5 _ := ⟨ok__law_pot F5 bi, PySem.W.mg_of X G a5, F5.kp, F5.binds (ps := P__law_pot) fun _ _ _ _ _ _ us hl => match us, hl with | [_, _], _ => rfl⟩
  have C__law_pick : Cal l.prog w K mg base "_law_pick" P__law_pick 1 spTakeC f6 _ := ⟨ok__law_pick F6 bi, PySem.W.mg_of X G a6, F6.kp, F6.binds (ps := P__law_pick) fun _ _ _ _ _ _ us hl => match us, hl with | [_, _], _ => rfl⟩
  have C__law_great : Cal l.prog w K mg base "_law_great" P__law_great 2 spGreatC f7 _ := ⟨ok__law_great F7 bi C__law_pick, PySem.W.mg_of X G a7, F7.kp, F7.binds (ps := P__law_great) fun _ _ _ _ _ _ us hl => match us, hl with | [_], _ => rfl⟩
  have C__law_number : Cal l.prog w K mg base "_law_number" P__law_number 3 spNumC f8 _ := ⟨ok__law_number F8 bi C__law_pick C__law_great, PySem.W.mg_of X G a8, F8.kp, F8.binds (ps := P__law_number) fun _ _ _ _ _ _ us hl => match us, hl with | [_], _ => rfl⟩
  have C__law_parts : Cal l.prog w K mg base "_law_parts" P__law_parts 4 spParts30 f9 _ := ⟨ok__law_parts F9 bi C__law_pick C__law_number, PySem.W.mg_of X G a9, F9.kp, F9.binds (ps := P__law_parts) fun _ _ _ _ _ _ us hl => match us, hl with | [_], _ => rfl⟩
  have C__law_wisps : Cal l.prog w K mg base "_law_wisps" P__law_wisps 2 spWisps31 f10 _ := ⟨ok__law_wisps F10 bi C__law_pick, PySem.W.mg_of X G a10, F10.kp, F10.binds (ps := P__law_wisps) fun _ _ _ _ _ _ us hl => match us, hl with | [_, _], _ => rfl⟩
  have C__law_sort : Cal l.prog w K mg base "_law_sort" P__law_sort 1 spSortBy f11 _ := ⟨ok__law_sort F11 bi, PySem.W.mg_of X G a11, F11.kp, F11.binds (ps := P__law_sort) fun _ _ _ _ _ _ us hl => match us, hl with | [_, _], _ => rfl⟩
  have C__law_blended : Cal l.prog w K mg base "_law_blended" P__law_blended 2 spLawBlended f12 _ := ⟨ok__law_blended F12 bi C__law_sort, PySem.W.mg_of X G a12, F12.kp, F12.binds (ps := P__law_blended) fun _ _ _ _ _ _ us hl => match us, hl with | [_, _], _ => rfl⟩
  exact ok_law F13 bi C__law_pot C__law_wisps C__law_parts C_blended C__law_blended
end My
open PySem PySem.W PyProof.Rows
set_option maxHeartbeats 0 in
theorem PySem.Challenge.cw_evenstrand_k31_rows_blended_holds : PySem.Challenge.rw_evenstrand_k31_rows_blended.Holds := by
  w_on; o_law; k_head; (case hw => w_witness2)
  k_fill
  refine L2.walk_of (l := PySem.Challenge.rw_evenstrand_k31_rows_blended) (n := 63) (k := 6) (x := "_law_script") (CX := fun _ => L2.CX0) (sp := fun w => My.spLaw _) rfl (by decide) rfl ⟨rfl, by decide, by decide⟩ (fun w h Y => PySem.W.kIn_of Y) ?F (fun _ _ a ns hl _ hS => ⟨a, ns, rfl, hS, hl, fun _ => rfl⟩) (fun _ _ _ _ _ h => h)
  case F =>
    intro w mg fa h KX G hmg
    refine' My.all_mk KX G hmg ?a1 ?l1 ?c1 ?k1 ?a2 ?l2 ?c2 ?k2 ?a3 ?l3 ?c3 ?k3 ?a4 ?l4 ?c4 ?k4 ?a5 ?l5 ?c5 ?k5 ?a6 ?l6 ?c6 ?k6 ?a7 ?l7 ?c7 ?k7 ?a8 ?l8 ?c8 ?k8 ?a9 ?l9 ?c9 ?k9 ?a10 ?l10 ?c10 ?k10 ?a11 ?l11 ?c11 ?k11 ?a12 ?l12 ?c12 ?k12 ?a13 ?l13 ?c13 ?k13 ?z1 ?z2 ?z3 ?z4 ?z5 ?z6 ?z7 ?z8 ?z9 ?z10 ?z11 ?z12 ?z13 ?z14 ?z15 ?z16 ?z17 ?z18 ?q_MOST_WISPS
    (case a1 => k_is)
    (case l1 => k_is)
    (case c1 => k_is)
    (case k1 => k_is)
    (case a2 => k_is)
    (case l2 => k_is)
    (case c2 => k_is)
    (case k2 => k_is)
    (case a3 => k_is)
    (case l3 => k_is)
    (case c3 => k_is)
    (case k3 => k_is)
    (case a4 => k_is)
    (case l4 => k_is)
    (case c4 => k_is)
    (case k4 => k_is)
    (case a5 => k_is)
    (case l5 => k_is)
    (case c5 => k_is)
    (case k5 => k_is)
    (case a6 => k_is)
    (case l6 => k_is)
    (case c6 => k_is)
    (case k6 => k_is)
    (case a7 => k_is)
    (case l7 => k_is)
    (case c7 => k_is)
    (case k7 => k_is)
    (case a8 => k_is)
    (case l8 => k_is)
    (case c8 => k_is)
    (case k8 => k_is)
    (case a9 => k_is)
    (case l9 => k_is)
    (case c9 => k_is)
    (case k9 => k_is)
    (case a10 => k_is)
    (case l10 => k_is)
    (case c10 => k_is)
    (case k10 => k_is)
    (case a11 => k_is)
    (case l11 => k_is)
    (case c11 => k_is)
    (case k11 => k_is)
    (case a12 => k_is)
    (case l12 => k_is)
    (case c12 => k_is)
    (case k12 => k_is)
    (case a13 => k_is)
    (case l13 => k_is)
    (case c13 => k_is)
    (case k13 => k_is)
    (case z1 => k_is)
    (case z2 => k_is)
    (case z3 => k_is)
    (case z4 => k_is)
    (case z5 => k_is)
    (case z6 => k_is)
    (case z7 => k_is)
    (case z8 => k_is)
    (case z9 => k_is)
    (case z10 => k_is)
    (case z11 => k_is)
    (case z12 => k_is)
    (case z13 => k_is)
    (case z14 => k_is)
    (case z15 => k_is)
    (case z16 => k_is)
    (case z17 => k_is)
    (case z18 => k_is)
    (case q_MOST_WISPS => k_is)
