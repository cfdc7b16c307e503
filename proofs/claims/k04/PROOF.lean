import PyProof.Rows.All
import Wide.All
import OpenK.AllK
import Wide.FinOn
import HandS.ForMost
import HandS.Wide
import HandS.IsInst
import HandS.More
import HandS.TupAny
import HandS.Codes
import HandS.Zip
import PyProof.Rows.NestShow
import PyProof.ReprBulk
import PyProof.FitsInt
import PySem.Challenge.RW_evenstrand_k04_tails_and_heads
set_option Elab.async false
set_option linter.all false
set_option maxRecDepth 100000
set_option maxHeartbeats 4000000
namespace My
open PySem PySem.Spec PyProof.Rows L2
/-! ### defs that are called where no object is just being shown: there repr tells all of a thing -/
structure FnG (P : Program) (w : World) (K : PySem.W.Frag) (mg : Str → Option Value) (bs : Heap) (k : Nat) (f : Addr) (fd : FuncData) (ps : List Str) (sp : Sp) : Prop where
  long : ∀ us H Q E, sp us H Q E → us.length = ps.length
  goes : ∀ (B : Around) (ou : List Env) (t : Shared) (H : Hp) (ar : Args) (ws : List Value) (us : List V) (Q : VK) (E : XK), Room k B → B.guards = some [] → Env0 P w K mg bs B ou t H → BindsTo t fd ar (ps.zip ws) →
    Vals us ws → sp us H Q E → codeAny (model P w) B (.call (.ref f) ar) (CR CX0 ou P w H t Q E) t
section
variable {P : Program} {w : World} {K : PySem.W.Frag} {mg : Str → Option Value} {bs : Heap} {f : Addr} {fd : FuncData} {ps : List Str} {sp : Sp}
theorem FnG.up {j k : Nat} (F : FnG P w K mg bs j f fd ps sp) (h : j ≤ k) : FnG P w K mg bs k f fd ps sp := ⟨F.long, fun B ou t H ar ws us Q E r => F.goes B ou t H ar ws us Q E (r.mono h)⟩
theorem FnG.of {k : Nat} (F : FnOk P w K mg bs CX0 k f fd ps sp) : FnG P w K mg bs k f fd ps sp := ⟨F.len, fun B ou t H ar ws us Q E r _ => F.run B ou t H ar ws us Q E r⟩
/-- from the body's walk -/
theorem okG {x qual : Str} {st : Stmt} {N : List Str} {k : Nat} (F : Fun K x qual st f fd) (S : FnScope N ps (defScope st)) (ln : ∀ us H Q E, sp us H Q E → us.length = ps.length)
    (hb : ∀ (cv : Value) (B : Around) (ou : List Env) (t : Shared) (H : Hp) (us : List V) (Q : VK) (E : XK), Room k (B.deeper (envOfC qual (defScope st) t.heap.objs.size f cv)) → (B.deeper (envOfC qual (defScope st) t.heap.objs.size f cv)).guards = some [] → sp us H Q E →
      ∃ u, PSs (cxOf CX0 P w K mg bs N qual (defScope st) f cv B ou t H E).nox (defBody st) u ∧ u { nx := fun _ H' => Q .non H', rt := Q } (start N us) H) : FnG P w K mg bs (k + 1) f fd ps sp := by
  obtain ⟨oc, od, kV, dc, pm, an, cv, ct, sl, rfl, lk, hcv⟩ := F.ex
  refine ⟨ln, fun B ou t H ar ws us Q E r gd e0 bi va hs => ?_⟩
  have kin : K.In t.heap := e0.mod.kin.keeps fun b o e => (e0.bs b o e).1
  have nol : t.heap.NoLimit := e0.mod.nolimit.keeps fun b o e => (e0.bs b o e).1
  refine codeAny_call_function r.depth (kin _ _ lk) rfl S.co S.gen rfl (PySem.W.codeRec_of kin hcv) (bi _ _ _ _ (wpAny_newFunctionEnv_cells S.kind (fun ⟨y, v⟩ hy => ?_) fun en hen t1 z => ?_))
  · rcases S.par y (List.of_mem_zip hy).1 with l | l
    · exact .inl l
    · exact .inr ⟨l, PySem.W.cellsFrom_some _ _ _ (.inl l)⟩
  · subst hen
    refine ⟨nol.keeps z.toInCall.keep, codeAny_func ?_⟩
    obtain ⟨u, hu, hq⟩ := hb cv B ou t H us Q E (r.deeper _) gd hs
    refine wpAny_mono (hu.nox.run [] t1 (start N us) H _ (inv_start S r.hd e0 (ln _ _ _ _ hs) va z) hq) (fun fl t' ht => ?_) fun _ _ ht => ht
    cases fl with
    | ret y =>
      obtain ⟨v, σ', H', J, rv, q⟩ := ht
      exact ⟨v, H', J.os, J.bare, J.base, J.hok, rv, q⟩
    | next =>
      obtain ⟨σ', H', J, q⟩ := ht
      exact ⟨.non, H', J.os, J.bare, J.base, J.hok, rfl, q⟩
    | brk => exact ht.elim fun _ z => z.elim fun _ z => z.2.elim
    | cont => exact ht.elim fun _ z => z.elim fun _ z => z.2.elim
end
section
variable {X : Cx}
theorem pe_callG {k : Nat} {f : Addr} {fd : FuncData} {ps : List Str} {sp : Sp} {x : Str} {p pos : Pos} {e : Expr} {es : List Expr} {t : TA} (F : FnG X.prog X.w X.K X.mg X.base k f fd ps sp) (hr : Room k X.A) (gd : X.A.guards = some []) (hg : Gl X x) (hm : X.mg x = some (.ref f)) (kp : PySem.W.keepIn X.K (.ref f) = true)
    (bd : Binds X.K fd ps []) (ha : PA X (e :: es) t) (hdb : (x == ("__debug__" : Str)) = false := by decide) (hst : starEach (e :: es) X.env = (false, eval e X.env) :: starEach es X.env := by rfl)
    (hpl : (backTo pos (starEach es X.env)).any (·.1) = false := by rfl) : PE X (.Call (.Name x p) (e :: es) [] pos) (tCall sp [] E0 t) := by
  refine ⟨fun pins s σ H Q I h => wpAny_Call_Name_kw (ld_glob I hg hm (PySem.W.callWith_K (h₀ := X.base) I.ok.mod.kin kp (thn (ha.run pos pins s σ H _ I h) fun ws s1 ⟨us, H1, J, va, q⟩ => ⟨J.kIn, ?_⟩) hst hpl) hdb)⟩
  have q : sp (us ++ []) H1 Q E0 := q
  rw [List.append_nil] at q
  have hl : (ws ++ []).length = ps.length := by rw [List.append_nil, ← va.length]; exact F.long _ _ _ _ q
  have bt := bd s1 ws J.kIn hl
  rw [List.append_nil] at bt
  refine wpAny_call (codeAny_mono (F.goes X.A X.stack s1 H1 ⟨ws, []⟩ ws us Q E0 hr gd J.env0 bt va q) fun r s' hq => ?_)
  match r, hq with
  | .ok (.ret _), hq => exact J.after hq
  | .ok .next, hq => exact False.elim hq
  | .ok .brk, hq => exact False.elim hq
  | .ok .cont, hq => exact False.elim hq
  | .error _, hq => exact False.elim hq
/-- repr of a thing made of lists, tuples, texts, numbers, truths and None -/
def rRepr (K : PySem.W.Frag) : List V → Hp → VK → Prop := fun xs H Q => ∃ (a : Addr) (d : PyData), xs = [.ref a] ∧ Dp K H (.ref a) d ∧ d.showable = true ∧ d.hasDict = false ∧ d.depth ≤ 60 ∧ d.shown.length ≤ sizeLine ∧ Q (.str d.shown) H
theorem call_reprD (gd : X.A.guards = some []) (hu : X.A.units + 64 < cLine) : CallR X (.builtin "repr") (rRepr X.K) := by
  intro pins s σ H xs us Q I va h
  obtain ⟨a, d, rfl, dp, h1, h2, h3, h4, q⟩ := h
  rw [Vals.ref1 va]
  obtain ⟨as, rd⟩ := Dp.reads I d (.ref a) (.ref a) dp rfl
  exact repr_of_reads' rd h1 (PyData.noDict_hsm h2) gd (by omega) (fun _ _ e => e) (fun h' u tk hk => ⟨.str _, H, I.kept hk, ⟨_, rfl⟩, q⟩) h4
end
/-! ### the text -/
def topS (i : Nat) : Stmt := PySem.Challenge.pw_evenstrand_k04_tails_and_heads.main.body.getD i (.Pass ⟨0, 0, 0, 0⟩)
abbrev s_length_of : Stmt := topS 1
abbrev N_length_of : List Str := ["wisp", "thickness", "long"]
abbrev P_length_of : List Str := ["wisp"]
theorem sc_length_of : FnScope N_length_of P_length_of (defScope s_length_of) := ⟨rfl, rfl, rfl, by decide +kernel, rfl, by decide +kernel, by decide +kernel⟩
abbrev s_weight_of : Stmt := topS 2
abbrev N_weight_of : List Str := ["wisp", "thickness", "long"]
abbrev P_weight_of : List Str := ["wisp"]
theorem sc_weight_of : FnScope N_weight_of P_weight_of (defScope s_weight_of) := ⟨rfl, rfl, rfl, by decide +kernel, rfl, by decide +kernel, by decide +kernel⟩
abbrev s_thick_at : Stmt := topS 3
abbrev N_thick_at : List Str := ["wisp", "k", "thickness", "long"]
abbrev P_thick_at : List Str := ["wisp", "k"]
theorem sc_thick_at : FnScope N_thick_at P_thick_at (defScope s_thick_at) := ⟨rfl, rfl, rfl, by decide +kernel, rfl, by decide +kernel, by decide +kernel⟩
abbrev s_head : Stmt := topS 4
abbrev N_head : List Str := ["wisp", "k", "sort", "steps", "kept", "thickness", "long"]
abbrev P_head : List Str := ["wisp", "k"]
theorem sc_head : FnScope N_head P_head (defScope s_head) := ⟨rfl, rfl, rfl, by decide +kernel, rfl, by decide +kernel, by decide +kernel⟩
abbrev s_tail : Stmt := topS 5
abbrev N_tail : List Str := ["wisp", "k", "sort", "steps", "kept", "thickness", "long"]
abbrev P_tail : List Str := ["wisp", "k"]
theorem sc_tail : FnScope N_tail P_tail (defScope s_tail) := ⟨rfl, rfl, rfl, by decide +kernel, rfl, by decide +kernel, by decide +kernel⟩
abbrev s__law_blend : Stmt := topS 7
abbrev N__law_blend : List Str := ["_law_number", "_law_turn", "_law_seed", "_law_once"]
abbrev P__law_blend : List Str := ["_law_number", "_law_turn"]
theorem sc__law_blend : FnScope N__law_blend P__law_blend (defScope s__law_blend) := ⟨rfl, rfl, rfl, by decide +kernel, rfl, by decide +kernel, by decide +kernel⟩
abbrev s__law_pot : Stmt := topS 8
abbrev N__law_pot : List Str := ["_law_script"]
abbrev P__law_pot : List Str := ["_law_script"]
theorem sc__law_pot : FnScope N__law_pot P__law_pot (defScope s__law_pot) := ⟨rfl, rfl, rfl, by decide +kernel, rfl, by decide +kernel, by decide +kernel⟩
abbrev s__law_draw : Stmt := topS 9
abbrev N__law_draw : List Str := ["_law_pot_here", "_law_many", "_law_cell", "_law_digit"]
abbrev P__law_draw : List Str := ["_law_pot_here", "_law_many"]
theorem sc__law_draw : FnScope N__law_draw P__law_draw (defScope s__law_draw) := ⟨rfl, rfl, rfl, by decide +kernel, rfl, by decide +kernel, by decide +kernel⟩
abbrev s__law_great : Stmt := topS 10
abbrev N__law_great : List Str := ["_law_pot_here", "_law_way", "_law_number", "_law_turn"]
abbrev P__law_great : List Str := ["_law_pot_here"]
theorem sc__law_great : FnScope N__law_great P__law_great (defScope s__law_great) := ⟨rfl, rfl, rfl, by decide +kernel, rfl, by decide +kernel, by decide +kernel⟩
abbrev s__law_wisp : Stmt := topS 11
abbrev N__law_wisp : List Str := ["_law_pot_here", "_law_most", "_law_small", "_law_many", "_law_steps", "_law_strong_here", "_law_turn", "_law_more"]
abbrev P__law_wisp : List Str := ["_law_pot_here", "_law_most", "_law_small"]
theorem sc__law_wisp : FnScope N__law_wisp P__law_wisp (defScope s__law_wisp) := ⟨rfl, rfl, rfl, by decide +kernel, rfl, by decide +kernel, by decide +kernel⟩
abbrev s__law_whole : Stmt := topS 12
abbrev N__law_whole : List Str := ["_law_thing"]
abbrev P__law_whole : List Str := ["_law_thing"]
theorem sc__law_whole : FnScope N__law_whole P__law_whole (defScope s__law_whole) := ⟨rfl, rfl, rfl, by decide +kernel, rfl, by decide +kernel, by decide +kernel⟩
abbrev s__law_same : Stmt := topS 13
abbrev N__law_same : List Str := ["_law_found", "_law_due_here", "_law_one", "_law_other"]
abbrev P__law_same : List Str := ["_law_found", "_law_due_here"]
theorem sc__law_same : FnScope N__law_same P__law_same (defScope s__law_same) := ⟨rfl, rfl, rfl, by decide +kernel, rfl, by decide +kernel, by decide +kernel⟩
abbrev s__law_table : Stmt := topS 14
abbrev N__law_table : List Str := ["_law_wisp_here", "_law_found", "_law_begin", "_law_strong_here", "_law_long"]
abbrev P__law_table : List Str := ["_law_wisp_here"]
theorem sc__law_table : FnScope N__law_table P__law_table (defScope s__law_table) := ⟨rfl, rfl, rfl, by decide +kernel, rfl, by decide +kernel, by decide +kernel⟩
abbrev s__law_spots : Stmt := topS 15
abbrev N__law_spots : List Str := ["_law_pot_here", "_law_wisp_here", "_law_found", "_law_begin", "_law_end", "_law_strong_here"]
abbrev P__law_spots : List Str := ["_law_pot_here", "_law_wisp_here"]
theorem sc__law_spots : FnScope N__law_spots P__law_spots (defScope s__law_spots) := ⟨rfl, rfl, rfl, by decide +kernel, rfl, by decide +kernel, by decide +kernel⟩
abbrev s__law_strong : Stmt := topS 16
abbrev N__law_strong : List Str := ["_law_wisp_here", "_law_k", "_law_begin", "_law_end", "_law_strong_here"]
abbrev P__law_strong : List Str := ["_law_wisp_here", "_law_k"]
theorem sc__law_strong : FnScope N__law_strong P__law_strong (defScope s__law_strong) := ⟨rfl, rfl, rfl, by decide +kernel, rfl, by decide +kernel, by decide +kernel⟩
abbrev s__law_due : Stmt := topS 17
abbrev N__law_due : List Str := ["_law_wisp_here", "_law_k", "_law_some", "_law_one", "_law_begin", "_law_end", "_law_strong_here"]
abbrev P__law_due : List Str := ["_law_wisp_here", "_law_k"]
theorem sc__law_due : FnScope N__law_due P__law_due (defScope s__law_due) := ⟨rfl, rfl, rfl, by decide +kernel, rfl, by decide +kernel, by decide +kernel⟩
abbrev s__law_right : Stmt := topS 18
abbrev N__law_right : List Str := ["_law_pot_here", "_law_wisp_here", "_law_before", "_law_weight", "_law_last", "_law_k", "_law_found", "_law_spot", "_law_part", "_law_one"]
abbrev P__law_right : List Str := ["_law_pot_here", "_law_wisp_here"]
theorem sc__law_right : FnScope N__law_right P__law_right (defScope s__law_right) := ⟨rfl, rfl, rfl, by decide +kernel, rfl, by decide +kernel, by decide +kernel⟩
abbrev s_law : Stmt := topS 19
abbrev N_law : List Str := ["_law_script", "_law_pot_here", "_law_turn", "_law_small", "_law_wisps", "_law_wisp_here"]
abbrev P_law : List Str := ["_law_script"]
theorem sc_law : FnScope N_law P_law (defScope s_law) := ⟨rfl, rfl, rfl, by decide +kernel, rfl, by decide +kernel, by decide +kernel⟩
/-! ### the names that are still the built-in ones -/
structure Bi (mg : Str → Option Value) : Prop where
  m_len : mg "len" = none
  m_sum : mg "sum" = none
  m_abs : mg "abs" = none
  m_isinstance : mg "isinstance" = none
  m_max : mg "max" = none
  m_min : mg "min" = none
  m_tuple : mg "tuple" = none
  m_list : mg "list" = none
  m_int : mg "int" = none
  m_bool : mg "bool" = none
  m_range : mg "range" = none
  m_enumerate : mg "enumerate" = none
  m_zip : mg "zip" = none
  m_repr : mg "repr" = none
  m_str : mg "str" = none
  m_sorted : mg "sorted" = none
  m_set : mg "set" = none
  m_all : mg "all" = none
/-! ### a def as its callers use it -/
structure Cal (P : Program) (w : World) (K : PySem.W.Frag) (mg : Str → Option Value) (base : Heap) (x : Str) (ps : List Str) (k : Nat) (sp : Sp) (f : Addr) (fd : FuncData) : Prop where
  G : FnOk P w K mg base CX0 k f fd ps sp
  g : mg x = some (.ref f)
  kp : PySem.W.keepIn K (.ref f) = true
  b : Binds K fd ps []
structure CalG (P : Program) (w : World) (K : PySem.W.Frag) (mg : Str → Option Value) (base : Heap) (x : Str) (ps : List Str) (k : Nat) (sp : Sp) (f : Addr) (fd : FuncData) : Prop where
  G : FnG P w K mg base k f fd ps sp
  g : mg x = some (.ref f)
  kp : PySem.W.keepIn K (.ref f) = true
  b : Binds K fd ps []
/-! ### heaps -/
def Keep (p l : Addr) (H H' : Hp) : Prop := ∀ a o, a ≠ p → a ≠ l → H a = some o → H' a = some o
theorem Keep.refl {p l : Addr} {H : Hp} : Keep p l H H := fun _ _ _ _ h => h
theorem Keep.trans {p l : Addr} {H H1 H2 : Hp} (a : Keep p l H H1) (b : Keep p l H1 H2) : Keep p l H H2 := fun c o n1 n2 h => b c o n1 n2 (a c o n1 n2 h)
theorem Keep.new {p l : Addr} {H H1 : Hp} {a : Addr} {o : HO} (k : Keep p l H H1) (h : H1 a = none) : Keep p l H (upd H1 a o) := fun c u n1 n2 e => by
  have e1 := k c u n1 n2 e
  rw [upd_ne (ne_of_none e1 h)]
  exact e1
theorem Keep.own {p l : Addr} {H H1 : Hp} {o : HO} (k : Keep p l H H1) : Keep p l H (upd H1 p o) := fun c u n1 n2 e => by
  rw [upd_ne n1]
  exact k c u n1 n2 e
theorem Keep.own2 {p l : Addr} {H H1 : Hp} {o : HO} (k : Keep p l H H1) : Keep p l H (upd H1 l o) := fun c u n1 n2 e => by
  rw [upd_ne n2]
  exact k c u n1 n2 e
/-- an object that was not there at H may change -/
theorem Keep.mine {p l a : Addr} {H H1 : Hp} {o : HO} (k : Keep p l H H1) (h : H a = none) : Keep p l H (upd H1 a o) := fun c u n1 n2 e => by
  rw [upd_ne (ne_of_none e h)]
  exact k c u n1 n2 e
def Tups (H H' : Hp) : Prop := ∀ a xs, H a = some (.tup xs) → H' a = some (.tup xs)
theorem Tups.refl {H : Hp} : Tups H H := fun _ _ h => h
theorem Tups.trans {H H1 H2 : Hp} (a : Tups H H1) (b : Tups H1 H2) : Tups H H2 := fun c xs h => b c xs (a c xs h)
theorem Tups.new {H : Hp} {a : Addr} {o : HO} (h : H a = none) : Tups H (upd H a o) := fun c xs e => by
  rw [upd_ne (ne_of_none e h)]
  exact e
theorem Tups.ls {H : Hp} {a : Addr} {xs : List V} {o : HO} (h : H a = some (.lst xs)) : Tups H (upd H a o) := fun c ys e => by
  have n : c ≠ a := ne_of e h (by intro z; cases z)
  rw [upd_ne n]
  exact e
theorem Tups.same {H H' : Hp} (h : Same H H') : Tups H H' := fun a xs e => h a _ e
/-- the pot: the cells that are left, the great number at hand, the seed, how many were drawn -/
def Pot (H : Hp) (p l : Addr) (T : Nat) : Prop := ∃ (ns : List Int) (c m : Int) (t : Nat), H p = some (.lst [.ref l, .int c, .int m, .int (t : Int)]) ∧ H l = some (.lst (ns.map V.int)) ∧ 0 ≤ c ∧ t ≤ T ∧ ns.length ≤ 63
theorem Pot.ne {H : Hp} {p l : Addr} {T : Nat} (h : Pot H p l T) : p ≠ l := by
  obtain ⟨ns, c, m, t, h1, h2, _⟩ := h
  intro e
  rw [e, h2] at h1
  cases ns with
  | nil => exact absurd h1 (by intro z; cases z)
  | cons n r => exact absurd h1 (by intro z; cases z)
theorem Pot.mono {H : Hp} {p l : Addr} {T U : Nat} (h : Pot H p l T) (e : T ≤ U) : Pot H p l U := by
  obtain ⟨ns, c, m, t, h1, h2, h3, h4, h5⟩ := h
  exact ⟨ns, c, m, t, h1, h2, h3, Nat.le_trans h4 e, h5⟩
theorem Pot.new {H : Hp} {p l a : Addr} {T : Nat} {o : HO} (h : Pot H p l T) (n : H a = none) : Pot (upd H a o) p l T := by
  obtain ⟨ns, c, m, t, h1, h2, h3⟩ := h
  exact ⟨ns, c, m, t, by rw [upd_ne (ne_of_none h1 n)]; exact h1, by rw [upd_ne (ne_of_none h2 n)]; exact h2, h3⟩
theorem Pot.other {H : Hp} {p l a : Addr} {T : Nat} {o : HO} (h : Pot H p l T) (n1 : a ≠ p) (n2 : a ≠ l) : Pot (upd H a o) p l T := by
  obtain ⟨ns, c, m, t, h1, h2, h3⟩ := h
  exact ⟨ns, c, m, t, by rw [upd_ne n1.symm]; exact h1, by rw [upd_ne n2.symm]; exact h2, h3⟩
theorem Pot.notP {H : Hp} {p l a : Addr} {T : Nat} {xs : List V} (h : Pot H p l T) (e : H a = some (.tup xs)) : a ≠ p ∧ a ≠ l := by
  obtain ⟨ns, c, m, t, h1, h2, h3⟩ := h
  exact ⟨ne_of e h1 (by intro z; cases z), ne_of e h2 (by intro z; cases z)⟩
theorem Pot.fresh {H : Hp} {p l a : Addr} {T : Nat} (h : Pot H p l T) (e : H a = none) : a ≠ p ∧ a ≠ l := by
  obtain ⟨ns, c, m, t, h1, h2, h3⟩ := h
  exact ⟨(ne_of_none h1 e).symm, (ne_of_none h2 e).symm⟩
theorem Keep.tups {p l : Addr} {H H' : Hp} {T : Nat} (k : Keep p l H H') (h : Pot H p l T) : Tups H H' := fun a xs e => by
  obtain ⟨n1, n2⟩ := h.notP e
  exact k a _ n1 n2 e
/-! ### what is drawn -/
def spBlend : Sp := fun vs H Q _ => ∃ (n : Int) (t : Int), vs = [.int n, .int t] ∧ 0 ≤ t ∧ t < 2 ^ 62 ∧ ∀ r, Q (.int r) H
def spDraw : Sp := fun vs H Q _ => ∃ (p l : Addr) (T : Nat) (many : Int), vs = [.ref p, .int many] ∧ Pot H p l T ∧ T < 2 ^ 40 ∧ CDivW 0 many ∧
  ∀ d H', 0 ≤ d → d < many → Pot H' p l (T + 1) → Keep p l H H' → Q (.int d) H'
def spGreat : Sp := fun vs H Q _ => ∃ (p l : Addr) (T : Nat), vs = [.ref p] ∧ Pot H p l T ∧ T < 2 ^ 39 ∧
  ∀ d H', 0 ≤ d → d < 2 ^ 122 → Pot H' p l (T + 5) → Keep p l H H' → Q (.int d) H'
/-! ### tuples at addresses -/
def TupsAt (H : Hp) (as : List Addr) (xss : List (List V)) : Prop := as.length = xss.length ∧ ∀ (i : Nat) (a : Addr), as[i]? = some a → ∃ xs, xss[i]? = some xs ∧ H a = some (.tup xs)
theorem TupsAt.nil {H : Hp} : TupsAt H [] [] := ⟨rfl, fun i a h => by simp at h⟩
theorem TupsAt.mono {H H' : Hp} {as : List Addr} {xss : List (List V)} (h : TupsAt H as xss) (t : Tups H H') : TupsAt H' as xss := ⟨h.1, fun i a e => by
  obtain ⟨xs, h1, h2⟩ := h.2 i a e
  exact ⟨xs, h1, t a xs h2⟩⟩
theorem TupsAt.cons {H : Hp} {as : List Addr} {xss : List (List V)} {a : Addr} {xs : List V} (h : TupsAt H as xss) (e : H a = some (.tup xs)) : TupsAt H (a :: as) (xs :: xss) := by
  refine ⟨by simp [h.1], fun i b hb => ?_⟩
  cases i with
  | zero =>
    have : a = b := Option.some.inj hb
    subst this
    exact ⟨xs, rfl, e⟩
  | succ j => exact h.2 j b hb
theorem TupsAt.snoc {H : Hp} {as : List Addr} {xss : List (List V)} {a : Addr} {xs : List V} (h : TupsAt H as xss) (e : H a = some (.tup xs)) : TupsAt H (as ++ [a]) (xss ++ [xs]) := by
  refine ⟨by simp [h.1], fun i b hb => ?_⟩
  by_cases hi : i < as.length
  · rw [List.getElem?_append_left hi] at hb
    obtain ⟨ys, h1, h2⟩ := h.2 i b hb
    exact ⟨ys, by rw [List.getElem?_append_left (by rw [← h.1]; exact hi)]; exact h1, h2⟩
  · rw [List.getElem?_append_right (by omega)] at hb
    have hz : i - as.length = 0 := by
      cases hk : i - as.length with
      | zero => rfl
      | succ n =>
        rw [hk] at hb
        simp at hb
    rw [hz] at hb
    have : a = b := Option.some.inj hb
    subst this
    refine ⟨xs, ?_, e⟩
    rw [List.getElem?_append_right (by rw [← h.1]; omega), ← h.1, hz]
    rfl
theorem TupsAt.get {H : Hp} {as : List Addr} {xss : List (List V)} (h : TupsAt H as xss) {i : Nat} {v : V} (e : (as.map V.ref)[i]? = some v) : ∃ a xs, v = .ref a ∧ as[i]? = some a ∧ xss[i]? = some xs ∧ H a = some (.tup xs) := by
  rw [List.getElem?_map] at e
  cases q : as[i]? with
  | none =>
    rw [q] at e
    cases e
  | some a =>
    rw [q] at e
    have e' : V.ref a = v := Option.some.inj e
    obtain ⟨xs, h1, h2⟩ := h.2 i a q
    exact ⟨a, xs, e'.symm, rfl, h1, h2⟩
/-! ### wisps -/
abbrev stepV (p : Int × Int) : List V := [.int p.1, .int p.2]
def WispAt (H : Hp) (a : Addr) (s : Int) (ps : List (Int × Int)) : Prop := ∃ (st : Addr) (as : List Addr), H a = some (.tup [.int s, .ref st]) ∧ H st = some (.tup (as.map V.ref)) ∧ TupsAt H as (ps.map stepV)
theorem WispAt.mono {H H' : Hp} {a : Addr} {s : Int} {ps : List (Int × Int)} (h : WispAt H a s ps) (t : Tups H H') : WispAt H' a s ps := by
  obtain ⟨st, as, h1, h2, h3⟩ := h
  exact ⟨st, as, t _ _ h1, t _ _ h2, h3.mono t⟩
theorem step_get {H : Hp} {as : List Addr} {ps : List (Int × Int)} (h : TupsAt H as (ps.map stepV)) {i : Nat} {v : V} (e : (as.map V.ref)[i]? = some v) : ∃ a t g, v = .ref a ∧ ps[i]? = some (t, g) ∧ H a = some (.tup [.int t, .int g]) := by
  obtain ⟨a, xs, h1, _, h2, h3⟩ := h.get e
  rw [List.getElem?_map] at h2
  cases q : ps[i]? with
  | none =>
    rw [q] at h2
    cases h2
  | some p =>
    rw [q] at h2
    have e' : stepV p = xs := Option.some.inj h2
    subst e'
    exact ⟨a, p.1, p.2, h1, rfl, h3⟩
def Good (ps : List (Int × Int)) : Prop := 1 ≤ ps.length ∧ ps.length ≤ 10 ∧ ∀ p ∈ ps, 1 ≤ p.1 ∧ p.1 < 2 ^ 200 ∧ 1 ≤ p.2 ∧ p.2 < 2 ^ 200
def Falls (ps : List (Int × Int)) : Prop := ps.Pairwise (fun a b => b.1 < a.1)
def Small (ps : List (Int × Int)) : Prop := ∀ p ∈ ps, p.1 ≤ 1000 ∧ p.2 ≤ 3
def spPot (K : PySem.W.Frag) : Sp := fun vs H Q _ => ∃ (a : Addr) (ns : List Int), vs = [.ref a] ∧ SqL K H a (ns.map V.int) ∧ ns.length ≤ 63 ∧
  ∀ H' p l, Same H H' → H p = none → H l = none → Pot H' p l 0 → Q (.ref p) H'
def spWisp : Sp := fun vs H Q _ => ∃ (p l : Addr) (T : Nat) (most : Int) (small : Bool), vs = [.ref p, .int most, .bl small] ∧ Pot H p l T ∧ T < 2 ^ 38 ∧ 3 ≤ most ∧ most ≤ 10 ∧
  ∀ H' a s ps, Pot H' p l (T + 150) → Keep p l H H' → WispAt H' a s ps → 0 ≤ s → s ≤ 1 → Good ps → (ps.length : Int) ≤ most → Falls ps → (small = true → Small ps) → H a = none → Q (.ref a) H'
def spWhole : Sp := fun vs H Q _ => ∃ i : Int, vs = [.int i] ∧ Q (.bl true) H
theorem Keep.free {p l a : Addr} {H H' : Hp} {T : Nat} (k : Keep p l H H') (hp : Pot H' p l T) (h : H' a = none) : H a = none := by
  obtain ⟨n1, n2⟩ := hp.fresh h
  cases q : H a with
  | none => rfl
  | some o =>
    rw [k a o n1 n2 q] at h
    cases h
/-! ### the mirrors -/
def longs (ps : List (Int × Int)) : Int := (ps.map (·.2)).sum
def weigh (ps : List (Int × Int)) : Int := (ps.map fun p => p.1 * p.2).sum
def thickAt : List (Int × Int) → Int → Int
  | [], _ => 0
  | (t, g) :: r, k => if k < g then t else thickAt r (k - g)
abbrev rowV (t : Int × Int × Int) : List V := [.int t.1, .int t.2.1, .int t.2.2]
def tableOf : Int → List (Int × Int) → List (Int × Int × Int)
  | _, [] => []
  | b, (t, g) :: r => (b, b + g, t) :: tableOf (b + g) r
def inRow (k : Int) (t : Int × Int × Int) : Bool := decide (t.1 ≤ k) && decide (k < t.2.1)
def strongOf (k : Int) (ts : List (Int × Int × Int)) : Int := ((ts.filter (inRow k)).map (·.2.2)).sum
theorem longs_nonneg : ∀ {ps : List (Int × Int)}, (∀ p ∈ ps, 1 ≤ p.2) → 0 ≤ longs ps
  | [], _ => by decide
  | p :: r, h => by
    have h1 := h p (by simp)
    have h2 := longs_nonneg (ps := r) fun x hx => h x (by simp [hx])
    unfold longs at *
    rw [List.map_cons, List.sum_cons]
    omega
theorem longs_cons {p : Int × Int} {r : List (Int × Int)} : longs (p :: r) = p.2 + longs r := by
  unfold longs
  rw [List.map_cons, List.sum_cons]
theorem weigh_cons {p : Int × Int} {r : List (Int × Int)} : weigh (p :: r) = p.1 * p.2 + weigh r := by
  unfold weigh
  rw [List.map_cons, List.sum_cons]
theorem table_len : ∀ (ps : List (Int × Int)) (b : Int), (tableOf b ps).length = ps.length
  | [], _ => rfl
  | (t, g) :: r, b => by
    show (tableOf (b + g) r).length + 1 = r.length + 1
    rw [table_len r]
theorem table_get : ∀ (ps : List (Int × Int)) (b : Int) (i : Nat) (t g : Int), ps[i]? = some (t, g) → (tableOf b ps)[i]? = some (b + longs (ps.take i), b + longs (ps.take (i + 1)), t)
  | [], _, _, _, _, h => by simp at h
  | (t', g') :: r, b, 0, t, g, h => by
    have e := Option.some.inj h
    obtain ⟨rfl, rfl⟩ := Prod.mk.inj e
    show some (b, b + g', t') = some (b + longs [], b + longs [(t', g')], t')
    unfold longs
    simp
  | (t', g') :: r, b, i + 1, t, g, h => by
    show (tableOf (b + g') r)[i]? = some (b + longs ((t', g') :: r.take i), b + longs ((t', g') :: r.take (i + 1)), t)
    rw [table_get r (b + g') i t g h, longs_cons, longs_cons]
    simp only [Int.add_assoc]
theorem strong_cons {k : Int} {t : Int × Int × Int} {ts : List (Int × Int × Int)} : strongOf k (t :: ts) = (if inRow k t = true then t.2.2 else 0) + strongOf k ts := by
  unfold strongOf
  rw [List.filter_cons]
  split
  · rw [List.map_cons, List.sum_cons]
  · rw [Int.zero_add]
theorem strong_table : ∀ (ps : List (Int × Int)) (b k : Int), (∀ p ∈ ps, 1 ≤ p.2) → strongOf k (tableOf b ps) = if k < b then 0 else thickAt ps (k - b)
  | [], b, k, _ => by
    show (0 : Int) = if k < b then 0 else 0
    split <;> rfl
  | (t, g) :: r, b, k, h => by
    have hg : 1 ≤ g := h (t, g) (by simp)
    have ih := strong_table r (b + g) k fun x hx => h x (by simp [hx])
    show strongOf k ((b, b + g, t) :: tableOf (b + g) r) = if k < b then 0 else if k - b < g then t else thickAt r (k - b - g)
    rw [strong_cons, ih]
    have e : k - b - g = k - (b + g) := by omega
    rw [e]
    by_cases h1 : k < b
    · rw [if_pos h1, if_pos (show k < b + g by omega), if_neg]
      · rfl
      · intro z
        have := (Bool.and_eq_true_iff.mp z).1
        have := of_decide_eq_true this
        simp only at this
        omega
    · by_cases h2 : k - b < g
      · rw [if_neg h1, if_pos h2, if_pos (show k < b + g by omega), if_pos]
        · show t + 0 = t
          omega
        · exact Bool.and_eq_true_iff.mpr ⟨decide_eq_true (show b ≤ k by omega), decide_eq_true (show k < b + g by omega)⟩
      · rw [if_neg h1, if_neg h2, if_neg (show ¬ k < b + g by omega), if_neg]
        · omega
        · intro z
          have := of_decide_eq_true (Bool.and_eq_true_iff.mp z).2
          simp only at this
          omega
def dueOf (ts : List (Int × Int × Int)) : Int := (ts.map fun t => (t.2.1 - t.1) * t.2.2).sum
theorem due_table : ∀ (ps : List (Int × Int)) (b : Int), dueOf (tableOf b ps) = weigh ps
  | [], _ => rfl
  | (t, g) :: r, b => by
    have ih := due_table r (b + g)
    show ((b, b + g, t) :: tableOf (b + g) r |>.map fun t => (t.2.1 - t.1) * t.2.2).sum = weigh ((t, g) :: r)
    rw [weigh_cons, List.map_cons, List.sum_cons, ← ih]
    show (b + g - b) * t + dueOf _ = t * g + dueOf _
    rw [show b + g - b = g by omega, Int.mul_comm]
def sumTo (n : Nat) (f : Int → Int) : Int := ((List.range n).map fun (i : Nat) => f (i : Int)).sum
theorem sumTo_succ (n : Nat) (f : Int → Int) : sumTo (n + 1) f = sumTo n f + f n := by
  unfold sumTo
  rw [List.range_succ, List.map_append, List.sum_append]
  simp
theorem sumTo_const (t : Int) : ∀ n : Nat, sumTo n (fun _ => t) = n * t
  | 0 => by simp [sumTo]
  | n + 1 => by
    rw [sumTo_succ, sumTo_const t n, Int.natCast_add, Int.add_mul]
    simp
theorem sumTo_add (f : Int → Int) (n : Nat) : ∀ m : Nat, sumTo (n + m) f = sumTo n f + sumTo m (fun k => f (n + k))
  | 0 => by simp [sumTo]
  | m + 1 => by
    rw [← Nat.add_assoc, sumTo_succ, sumTo_succ, sumTo_add f n m, Int.natCast_add, Int.add_assoc]
theorem sumTo_congr {f g : Int → Int} : ∀ n : Nat, (∀ i : Nat, i < n → f i = g i) → sumTo n f = sumTo n g
  | 0, _ => rfl
  | n + 1, h => by
    rw [sumTo_succ, sumTo_succ, sumTo_congr n (fun i hi => h i (by omega)), h n (by omega)]
theorem sumTo_thick : ∀ (ps : List (Int × Int)) (n : Nat), (∀ p ∈ ps, 1 ≤ p.2) → longs ps ≤ n → sumTo n (thickAt ps) = weigh ps
  | [], n, _, _ => by
    rw [show thickAt [] = fun _ => 0 from funext fun _ => rfl, sumTo_const]
    simp [weigh]
  | (t, g) :: r, n, h, hl => by
    have hg : 1 ≤ g := h (t, g) (by simp)
    rw [longs_cons] at hl
    have hl : g + longs r ≤ n := hl
    have h0 := longs_nonneg (ps := r) fun x hx => h x (by simp [hx])
    obtain ⟨G, rfl⟩ : ∃ G : Nat, g = G := ⟨g.toNat, by omega⟩
    obtain ⟨m, rfl⟩ : ∃ m : Nat, n = G + m := ⟨n - G, by omega⟩
    rw [sumTo_add, weigh_cons]
    have ih := sumTo_thick r m (fun x hx => h x (by simp [hx])) (by omega)
    have e1 : sumTo G (thickAt ((t, (G : Int)) :: r)) = G * t := by
      rw [← sumTo_const t G]
      refine sumTo_congr G fun i hi => ?_
      show (if (i : Int) < G then t else _) = t
      rw [if_pos (by omega)]
    have e2 : sumTo m (fun k => thickAt ((t, (G : Int)) :: r) (G + k)) = sumTo m (thickAt r) := by
      refine sumTo_congr m fun i _ => ?_
      show (if (G : Int) + i < G then t else thickAt r ((G : Int) + i - G)) = thickAt r i
      rw [if_neg (by omega), show (G : Int) + i - G = i by omega]
    rw [e1, e2, ih, Int.mul_comm]
theorem take_map_succ {α β : Type} {l : List α} {i : Nat} {x : α} (f : α → β) (h : l[i]? = some x) : (l.take (i + 1)).map f = (l.take i).map f ++ [f x] := by
  rw [List.take_add_one, h, List.map_append]
  rfl
theorem longs_take {ps : List (Int × Int)} {i : Nat} {t g : Int} (h : ps[i]? = some (t, g)) : longs (ps.take (i + 1)) = longs (ps.take i) + g := by
  unfold longs
  rw [take_map_succ _ h, List.sum_append]
  simp
theorem Same.wisp {H H' : Hp} {a : Addr} {s : Int} {ps : List (Int × Int)} (e : Same H H') (h : WispAt H a s ps) : WispAt H' a s ps := h.mono (Tups.same e)
theorem same_new {H H1 : Hp} {p : Addr} {o : HO} (k : Same H H1) (h : H1 p = none) : Same H (upd H1 p o) := fun b x e => by
  have e1 := k b x e
  rw [upd_ne (ne_of_none e1 h)]
  exact e1
theorem same_mine {H H1 : Hp} {p : Addr} {o : HO} (k : Same H H1) (h : H p = none) : Same H (upd H1 p o) := fun b x e => by
  rw [upd_ne (ne_of_none e h)]
  exact k b x e
theorem Same.free' {H H' : Hp} (e : Same H H') {l : Addr} (h : H' l = none) : H l = none := Same.free e h
theorem mul_ok {ps : List (Int × Int)} (h : Good ps) {i : Nat} {t g : Int} (e : ps[i]? = some (t, g)) : CMulW t g := by
  obtain ⟨_, _, h3⟩ := h
  have := h3 (t, g) (List.mem_of_getElem? e)
  refine wide_mul (a := 200) (b := 200) ?_ ?_ (by decide) (by decide) (by decide)
  · have h1 : t < 2 ^ 200 := this.2.1
    have h0 : 1 ≤ t := this.1
    have h2 : (t.natAbs : Int) = t := by omega
    have h3 : (t.natAbs : Int) < ((2 ^ 200 : Nat) : Int) := by rw [h2]; exact h1
    exact Int.ofNat_lt.mp h3
  · have h1 : g < 2 ^ 200 := this.2.2.2
    have h0 : 1 ≤ g := this.2.2.1
    have h2 : (g.natAbs : Int) = g := by omega
    have h3 : (g.natAbs : Int) < ((2 ^ 200 : Nat) : Int) := by rw [h2]; exact h1
    exact Int.ofNat_lt.mp h3
def spLen : Sp := fun vs H Q _ => ∃ (a : Addr) (s : Int) (ps : List (Int × Int)), vs = [.ref a] ∧ WispAt H a s ps ∧ Good ps ∧ ∀ H', Same H H' → Q (.int (longs ps)) H'
def spWeight : Sp := fun vs H Q _ => ∃ (a : Addr) (s : Int) (ps : List (Int × Int)), vs = [.ref a] ∧ WispAt H a s ps ∧ Good ps ∧ ∀ H', Same H H' → Q (.int (weigh ps)) H'
def spThick : Sp := fun vs H Q _ => ∃ (a : Addr) (s : Int) (ps : List (Int × Int)) (k : Int), vs = [.ref a, .int k] ∧ WispAt H a s ps ∧ Q (.int (thickAt ps k)) H
def TableAt (H : Hp) (o : Addr) (ts : List (Int × Int × Int)) : Prop := ∃ as, H o = some (.lst (as.map V.ref)) ∧ TupsAt H as (ts.map rowV)
def spTable : Sp := fun vs H Q _ => ∃ (a : Addr) (s : Int) (ps : List (Int × Int)), vs = [.ref a] ∧ WispAt H a s ps ∧ ps.length ≤ 10 ∧ ∀ H' o, Same H H' → H o = none → TableAt H' o (tableOf 0 ps) → Q (.ref o) H'
def spStrong : Sp := fun vs H Q _ => ∃ (a : Addr) (s : Int) (ps : List (Int × Int)) (k : Int), vs = [.ref a, .int k] ∧ WispAt H a s ps ∧ Good ps ∧ 0 ≤ k ∧ ∀ H', Same H H' → Q (.int (thickAt ps k)) H'
def spSpots : Sp := fun vs H Q _ => ∃ (p l : Addr) (T : Nat) (a : Addr) (s : Int) (ps : List (Int × Int)), vs = [.ref p, .ref a] ∧ Pot H p l T ∧ T < 2 ^ 38 ∧ WispAt H a s ps ∧ Good ps ∧
  ∀ (H' : Hp) (o : Addr) (ns : List Int), Pot H' p l (T + 10) → Keep p l H H' → H o = none → H' o = some (.lst (ns.map V.int)) → (∀ n ∈ ns, (0 : Int) ≤ n) → ns.length ≤ 100 → Q (.ref o) H'
theorem row_get {H : Hp} {as : List Addr} {ts : List (Int × Int × Int)} (h : TupsAt H as (ts.map rowV)) {i : Nat} {v : V} (e : (as.map V.ref)[i]? = some v) : ∃ a b c d, v = .ref a ∧ ts[i]? = some (b, c, d) ∧ H a = some (.tup [.int b, .int c, .int d]) := by
  obtain ⟨a, xs, h1, _, h2, h3⟩ := h.get e
  rw [List.getElem?_map] at h2
  cases q : ts[i]? with
  | none =>
    rw [q] at h2
    cases h2
  | some p =>
    rw [q] at h2
    have e' : rowV p = xs := Option.some.inj h2
    subst e'
    exact ⟨a, p.1, p.2.1, p.2.2, h1, rfl, h3⟩
theorem yesIte {σ : L2.St} {H : Hp} {A B : Hp → Prop} (h : A H) : tYes σ H (fun b H3 => if b = true then A H3 else B H3) := by
  show if true = true then A H else B H
  rw [if_pos rfl]
  exact h
def spRight : Sp := fun vs H Q _ => ∃ (p l : Addr) (T : Nat) (a : Addr) (s : Int) (ps : List (Int × Int)) (small : Bool), vs = [.ref p, .ref a, .bl small] ∧ Pot H p l T ∧ T < 2 ^ 37 ∧ WispAt H a s ps ∧ Good ps ∧ (small = true → Small ps) ∧
  ∀ (H' : Hp), Pot H' p l (T + 15) → Keep p l H H' → Q (.bl true) H'
theorem Pot.same {H H' : Hp} {p l : Addr} {T : Nat} (h : Pot H p l T) (e : Same H H') : Pot H' p l T := by
  obtain ⟨ns, c, m, t, h1, h2, h3⟩ := h
  exact ⟨ns, c, m, t, e _ _ h1, e _ _ h2, h3⟩
theorem Same.keep {p l : Addr} {H H' : Hp} (e : Same H H') : Keep p l H H' := fun c o _ _ h => e c o h
theorem WispAt.keep {p l : Addr} {H H' : Hp} {T : Nat} {a : Addr} {s : Int} {ps : List (Int × Int)} (h : WispAt H a s ps) (k : Keep p l H H') (hp : Pot H p l T) : WispAt H' a s ps := h.mono (k.tups hp)
theorem longs_small : ∀ {ps : List (Int × Int)}, Small ps → longs ps ≤ 3 * ps.length
  | [], _ => by decide
  | p :: r, h => by
    have h1 := h p (by simp)
    have h2 := longs_small (ps := r) fun x hx => h x (by simp [hx])
    rw [longs_cons, List.length_cons]
    omega
theorem table_last : ∀ (ps : List (Int × Int)) (b : Int), ps ≠ [] → ∃ b' t, (tableOf b ps).getLast? = some (b', b + longs ps, t)
  | [], _, h => absurd rfl h
  | [(t, g)], b, _ => ⟨b, t, by
    show some (b, b + g, t) = some (b, b + longs [(t, g)], t)
    rw [longs_cons]
    show some (b, b + g, t) = some (b, b + (g + 0), t)
    rw [Int.add_zero]⟩
  | (t, g) :: x :: r, b, _ => by
    obtain ⟨b', t', h⟩ := table_last (x :: r) (b + g) (by simp)
    refine ⟨b', t', ?_⟩
    have e : tableOf b ((t, g) :: x :: r) = (b, b + g, t) :: tableOf (b + g) (x :: r) := rfl
    have e2 : ∃ y ys, tableOf (b + g) (x :: r) = y :: ys := ⟨_, _, rfl⟩
    obtain ⟨y, ys, e2⟩ := e2
    rw [e, e2, List.getLast?_cons_cons, ← e2, h, longs_cons (p := (t, g)), Int.add_assoc]
theorem mulw_symm {i j : Int} (h : CMulW i j) : CMulW j i := by
  unfold CMulW at *
  omega
theorem iteNT {A B : Prop} (h : B) : if (!true) = true then A else B := by
  rw [if_neg (by decide)]
  exact h
def spLaw (K : PySem.W.Frag) : Sp := fun vs H Q _ => ∃ (a : Addr) (ns : List Int), vs = [.ref a] ∧ SqL K H a (ns.map V.int) ∧ ns.length ≤ 63 ∧ ∀ H', Q (.bl true) H'
/-! ### things made of tuples and whole numbers, looked at part by part -/
theorem lcZip {K : PySem.W.Frag} {a b : Addr} {xs ys : List V} {g : TG} {tt : TT} {te : TE} {us : List Nat} {σ : L2.St} {H1 : Hp} {D : Addr} {Qd : Hp → Prop} (hl : xs.length = ys.length) (Pv : Nat → Hp → Prop) (h0 : Pv 0 (upd H1 D (.lst []))) (hq : ∀ i H, Pv i H → SqT K H a xs ∧ SqT K H b ys)
    (hs : ∀ i x y T H, xs[i]? = some x → ys[i]? = some y → H T = none → Pv i H → g (.ref T) (wipe σ us) (upd H T (.tup [x, y])) fun σ2 H2 => wipe σ2 us = wipe σ us ∧ tt σ2 H2 fun c H3 =>
      if c = true then te σ2 H3 fun y H4 => ∃ acc, H4 D = some (.lst acc) ∧ acc.length < sizeLine ∧ Pv (i + 1) (upd H4 D (.lst (acc ++ [y]))) else Pv (i + 1) H3) (hd : ∀ H, Pv xs.length H → Qd H) :
    ∃ W : Nat → Nat → Hp → Prop, (∃ m, W 0 m (upd H1 D (.lst []))) ∧ ∀ i m H, W i m H →
      ((RZ.ItzT K a b).stop i H ∧ Qd H) ∨ ((RZ.ItzT K a b).go i H ∧ ∃ Nx : Hp → Prop, (∀ H', Nx H' → ∃ m', m' < m ∧ W (i + 1) m' H') ∧ ∀ x H', (RZ.ItzT K a b).yld i H x H' → g x (wipe σ us) H' fun σ2 H2 => wipe σ2 us = wipe σ us ∧ tt σ2 H2 fun c H3 =>
        if c = true then te σ2 H3 fun y H4 => ∃ acc, H4 D = some (.lst acc) ∧ acc.length < sizeLine ∧ Nx (upd H4 D (.lst (acc ++ [y]))) else Nx H3) := by
  refine ⟨fun i m H => i + m = xs.length ∧ Pv i H, ⟨xs.length, Nat.zero_add _, h0⟩, fun i m H ⟨em, p⟩ => ?_⟩
  obtain ⟨q1, q2⟩ := hq i H p
  by_cases hi : i < xs.length
  · have g1 : xs[i]? = some xs[i] := List.getElem?_eq_getElem hi
    have g2 : ys[i]? = some (ys[i]'(by omega)) := List.getElem?_eq_getElem (by omega)
    refine .inr ⟨⟨xs, ys, _, _, q1, q2, g1, g2⟩, Pv (i + 1), fun H' p' => ⟨m - 1, by omega, by omega, p'⟩, fun v H' hy => ?_⟩
    obtain ⟨T, x, y, rfl, nT, rfl, f1, f2⟩ := hy
    exact hs i x y T H (f1 _ q1) (f2 _ q2) nT p
  · have e : i = xs.length := by omega
    subst e
    exact .inl ⟨⟨xs, ys, q1, q2, .inl (Nat.le_refl _)⟩, hd H p⟩
theorem sqt_ty {K : PySem.W.Frag} {H : Hp} {a : Addr} {xs : List V} (h : SqT K H a xs) : TyX K H (.ref a) (.type "tuple") := by
  rcases h with (h | ⟨o, h⟩) | ⟨o, its, n, hk, hc, _⟩
  · exact .base (.tup h)
  · exact .fTuple h
  · exact .kTuple hk hc
theorem Same.sqt {K : PySem.W.Frag} {H H' : Hp} {a : Addr} {xs : List V} (e : Same H H') (h : SqT K H a xs) : SqT K H' a xs := by
  rcases h with (h | ⟨o, h⟩) | h
  · exact .inl (.inl (e _ _ h))
  · exact .inl (.inr ⟨o, e _ _ h⟩)
  · exact .inr h
inductive TI : PyData → Prop where
  | int (i : Int) : TI (.int i)
  | tup {xs : List PyData} (h : ∀ x ∈ xs, TI x) (hl : xs.length ≤ 1000) : TI (.tuple xs)
theorem depth_mem : ∀ {xs : List PyData} {x : PyData}, x ∈ xs → x.depth ≤ PyData.depthAll xs
  | y :: r, x, h => by
    show x.depth ≤ max y.depth (PyData.depthAll r)
    rcases List.mem_cons.mp h with rfl | h
    · exact Nat.le_max_left _ _
    · exact Nat.le_trans (depth_mem h) (Nat.le_max_right _ _)
mutual
theorem Dp.same {K : PySem.W.Frag} {H H' : Hp} (e : Same H H') : ∀ {v : V} (d : PyData), Dp K H v d → Dp K H' v d
  | _, .none, .non => .non
  | _, .bool _, .bl _ => .bl _
  | _, .int _, .int _ => .int _
  | _, .str _, .str _ => .str _
  | _, .list ds, .lst h a => .lst (e.seq h) (DpAll.same e ds a)
  | _, .tuple ds, .tup h a => .tup (Same.sqt e h) (DpAll.same e ds a)
theorem DpAll.same {K : PySem.W.Frag} {H H' : Hp} (e : Same H H') : ∀ {vs : List V} (ds : List PyData), DpAll K H vs ds → DpAll K H' vs ds
  | _, [], .nil => .nil
  | _, d :: ds, .cons h a => .cons (Dp.same e d h) (DpAll.same e ds a)
end
theorem DpAll.len {K : PySem.W.Frag} {H : Hp} : ∀ {vs : List V} {ds : List PyData}, DpAll K H vs ds → vs.length = ds.length
  | _, _, .nil => rfl
  | _, _, .cons _ a => congrArg (· + 1) (DpAll.len a)
theorem DpAll.at {K : PySem.W.Frag} {H : Hp} : ∀ {vs : List V} {ds : List PyData} {i : Nat} {v : V}, DpAll K H vs ds → vs[i]? = some v → ∃ d, ds[i]? = some d ∧ Dp K H v d
  | _, _, _, _, .nil, h => by simp at h
  | _, _, 0, v, .cons h a, e => ⟨_, rfl, by have e' := Option.some.inj e; rw [← e']; exact h⟩
  | _, _, i + 1, v, .cons h a, e => DpAll.at (i := i) a e
def spSame (K : PySem.W.Frag) (n : Nat) : Sp := fun vs H Q _ => ∃ (x y : V) (d : PyData), vs = [x, y] ∧ TI d ∧ d.depth < n ∧ Dp K H x d ∧ Dp K H y d ∧ ∀ H', Same H H' → Q (.bl true) H'
def wispD (s : Int) (ps : List (Int × Int)) : PyData := .tuple [.int s, .tuple (ps.map fun p => .tuple [.int p.1, .int p.2])]
theorem wisp_ti {s : Int} {ps : List (Int × Int)} (h : ps.length ≤ 1000) : TI (wispD s ps) := by
  refine .tup (fun x hx => ?_) (by show 2 ≤ 1000; decide)
  simp only [List.mem_cons, List.not_mem_nil, or_false] at hx
  rcases hx with rfl | rfl
  · exact .int _
  · refine .tup (fun x hx => ?_) (by rw [List.length_map]; exact h)
    obtain ⟨p, _, rfl⟩ := List.mem_map.mp hx
    refine .tup (fun x hx => ?_) (by show 2 ≤ 1000; decide)
    simp only [List.mem_cons, List.not_mem_nil, or_false] at hx
    rcases hx with rfl | rfl
    · exact .int _
    · exact .int _
theorem wisp_depth (s : Int) (ps : List (Int × Int)) : (wispD s ps).depth ≤ 3 := by
  have h : PyData.depthAll (ps.map fun p => PyData.tuple [.int p.1, .int p.2]) ≤ 1 := by
    induction ps with
    | nil => decide
    | cons p r ih => exact Nat.max_le.mpr ⟨by show max 0 (max 0 0) + 1 ≤ 1; decide, ih⟩
  show max 0 (max (PyData.depthAll (ps.map fun p => PyData.tuple [.int p.1, .int p.2]) + 1) 0) + 1 ≤ 3
  omega
theorem tups_dp {K : PySem.W.Frag} {H : Hp} : ∀ {as : List Addr} {ps : List (Int × Int)}, TupsAt H as (ps.map stepV) → DpAll K H (as.map V.ref) (ps.map fun p => .tuple [.int p.1, .int p.2])
  | [], [], _ => .nil
  | [], p :: r, h => absurd h.1 (by simp)
  | a :: r, [], h => absurd h.1 (by simp)
  | a :: as, p :: ps, h => by
    obtain ⟨xs, h1, h2⟩ := h.2 0 a rfl
    have e : stepV p = xs := Option.some.inj h1
    subst e
    exact .cons (.tup (SqT.of h2) (.cons (.int _) (.cons (.int _) .nil))) (tups_dp ⟨Nat.succ.inj (by simpa using h.1), fun i b hb => h.2 (i + 1) b hb⟩)
theorem WispAt.dp {K : PySem.W.Frag} {H : Hp} {a : Addr} {s : Int} {ps : List (Int × Int)} (h : WispAt H a s ps) : Dp K H (.ref a) (wispD s ps) := by
  obtain ⟨st, as, h1, h2, h3⟩ := h
  exact .tup (SqT.of h1) (.cons (.int s) (.cons (.tup (SqT.of h2) (tups_dp h3)) .nil))
/-! ### how long what repr tells is -/
/-- all numbers of a thing are below 2 ^ 400 -/
inductive Sh : PyData → Prop where
  | non : Sh .none
  | bl (b : Bool) : Sh (.bool b)
  | int {i : Int} (h : i.natAbs.log2 < 400) : Sh (.int i)
  | lst {xs : List PyData} (h : ∀ x ∈ xs, Sh x) : Sh (.list xs)
  | tup {xs : List PyData} (h : ∀ x ∈ xs, Sh x) : Sh (.tuple xs)
theorem sh_all {xs : List PyData} (h : ∀ x ∈ xs, x.showable = true ∧ x.hasDict = false ∧ x.leavesShort 401 = true) : PyData.showableAll xs = true ∧ PyData.hasDictAll xs = false ∧ PyData.leavesShortAll 401 xs = true := by
  induction xs with
  | nil => exact ⟨rfl, rfl, rfl⟩
  | cons x r ih =>
    obtain ⟨h1, h2, h3⟩ := h x (by simp)
    obtain ⟨g1, g2, g3⟩ := ih fun y hy => h y (by simp [hy])
    refine ⟨?_, ?_, ?_⟩
    · show (x.showable && PyData.showableAll r) = true
      rw [h1, g1]
      rfl
    · show (x.hasDict || PyData.hasDictAll r) = false
      rw [h2, g2]
      rfl
    · show (x.leavesShort 401 && PyData.leavesShortAll 401 r) = true
      rw [h3, g3]
      rfl
theorem Sh.ok {d : PyData} (h : Sh d) : d.showable = true ∧ d.hasDict = false ∧ d.leavesShort 401 = true := by
  induction h with
  | non => exact ⟨rfl, rfl, rfl⟩
  | bl b => exact ⟨rfl, rfl, rfl⟩
  | int h =>
    refine ⟨decide_eq_true (by omega), rfl, decide_eq_true ?_⟩
    have := int_text_length_le (by decide) h
    show (Str.ofString (toString _)).length ≤ 401
    rw [PySem.ofString_length]
    exact this
  | lst _ ih => exact sh_all ih
  | tup _ ih => exact sh_all ih
theorem Sh.fits {d : PyData} (h : Sh d) (hb : d.bulk ≤ 20000) : d.shown.length ≤ sizeLine := by
  have h1 := PyData.shown_le_bulk 401 (by decide) d h.ok.2.2
  have h2 : (401 + 2) * d.bulk ≤ (401 + 2) * 20000 := Nat.mul_le_mul_left _ hb
  rw [sizeLine_eq]
  omega
theorem log_lt {i : Int} (h0 : 0 ≤ i) (h : i < 2 ^ 250) : i.natAbs.log2 < 400 := by
  by_cases hz : i.natAbs = 0
  · rw [hz]
    decide
  · have h2 : (i.natAbs : Int) = i := by omega
    have h3 : (i.natAbs : Int) < ((2 ^ 250 : Nat) : Int) := by rw [h2]; exact h
    have h4 : i.natAbs < 2 ^ 250 := Int.ofNat_lt.mp h3
    have := (Nat.log2_lt hz).mpr h4
    omega
theorem sh_nat {i : Int} (h0 : 0 ≤ i) (h : i < 2 ^ 200) : Sh (.int i) := .int (log_lt h0 (Int.lt_trans h (by decide)))
theorem wisp_sh {s : Int} {ps : List (Int × Int)} (h0 : 0 ≤ s) (h1 : s ≤ 1) (g : Good ps) : Sh (wispD s ps) := by
  refine .tup fun x hx => ?_
  simp only [List.mem_cons, List.not_mem_nil, or_false] at hx
  rcases hx with rfl | rfl
  · exact sh_nat h0 (Int.lt_of_le_of_lt h1 (by decide))
  · refine .tup fun x hx => ?_
    obtain ⟨p, hp, rfl⟩ := List.mem_map.mp hx
    have hg := g.2.2 p hp
    refine .tup fun x hx => ?_
    simp only [List.mem_cons, List.not_mem_nil, or_false] at hx
    rcases hx with rfl | rfl
    · exact sh_nat (by omega) hg.2.1
    · exact sh_nat (by omega) hg.2.2.2
theorem wisp_bulk (s : Int) (ps : List (Int × Int)) : (wispD s ps).bulk ≤ 3 * ps.length + 2 := by
  have h : PyData.bulkAll (ps.map fun p => PyData.tuple [.int p.1, .int p.2]) = 3 * ps.length := by
    induction ps with
    | nil => rfl
    | cons p r ih =>
      show (0 + 1 + (0 + 1 + 0)) + 1 + PyData.bulkAll (r.map fun p => PyData.tuple [.int p.1, .int p.2]) = 3 * (r.length + 1)
      rw [ih]
      omega
  show 0 + 1 + (PyData.bulkAll (ps.map fun p => PyData.tuple [.int p.1, .int p.2]) + 1 + 0) ≤ 3 * ps.length + 2
  omega
theorem last_row {H : Hp} {as : List Addr} {ps : List (Int × Int)} (tu : TupsAt H as ((tableOf 0 ps).map rowV)) (gd : 1 ≤ ps.length) : ∃ z b t, atI (as.map V.ref) (-1) = some (.ref z) ∧ H z = some (.tup [.int b, .int (longs ps), .int t]) := by
  have hne : ps ≠ [] := fun e => by
    rw [e] at gd
    exact absurd gd (by decide)
  obtain ⟨b', t', hl⟩ := table_last ps 0 hne
  rw [Int.zero_add, List.getLast?_eq_getElem?] at hl
  have hlen : as.length = (tableOf 0 ps).length := by
    have := tu.1
    rw [List.length_map] at this
    exact this
  have hpos : 0 < (tableOf 0 ps).length := by
    rw [table_len]
    omega
  have hi : (tableOf 0 ps).length - 1 < as.length := by omega
  have e1 : (as.map V.ref)[(tableOf 0 ps).length - 1]? = some (.ref as[(tableOf 0 ps).length - 1]) := by
    rw [List.getElem?_map, List.getElem?_eq_getElem hi]
    rfl
  obtain ⟨z, b, c, d, e2, e3, e4⟩ := row_get tu e1
  rw [hl] at e3
  have e5 := Option.some.inj e3
  obtain ⟨e6, e7⟩ := Prod.mk.inj e5
  obtain ⟨e8, e9⟩ := Prod.mk.inj e7
  rw [← e6, ← e8, ← e9] at e4
  refine ⟨z, b', t', ?_, e4⟩
  have h0 : as.map V.ref ≠ [] := fun e => by
    have := congrArg List.length e
    rw [List.length_map, hlen] at this
    have this : (tableOf 0 ps).length = 0 := this
    omega
  have h2 : (as.map V.ref).getLast h0 = .ref z := by
    have := List.getLast?_eq_getLast h0
    rw [List.getLast?_eq_getElem?, List.length_map, hlen, e1] at this
    exact (Option.some.inj this).symm.trans e2
  have h1 := List.dropLast_concat_getLast h0
  rw [h2] at h1
  rw [← h1]
  exact atI_last _ _
theorem longs_lt {ps : List (Int × Int)} (g : Good ps) : longs ps < 2 ^ 204 := by
  have h : ∀ qs : List (Int × Int), (∀ p ∈ qs, p.2 < 2 ^ 200) → longs qs ≤ qs.length * 2 ^ 200 := by
    intro qs
    induction qs with
    | nil => intro _; decide
    | cons p r ih =>
      intro hq
      have h1 := hq p (by simp)
      have h2 := ih fun x hx => hq x (by simp [hx])
      rw [longs_cons, List.length_cons, Int.natCast_add, Int.add_mul]
      have h3 : ((1 : Nat) : Int) * 2 ^ 200 = 2 ^ 200 := by decide
      rw [h3]
      omega
  have h1 := h ps fun p hp => (g.2.2 p hp).2.2.2
  have h2 : (ps.length : Int) * 2 ^ 200 ≤ 10 * 2 ^ 200 := Int.mul_le_mul_of_nonneg_right (by have := g.2.1; omega) (by decide)
  have h3 : (10 : Int) * 2 ^ 200 < 2 ^ 204 := by decide
  omega
theorem fit_of {b : Int} (h0 : 1 ≤ b) (h : b < 2 ^ 210) : CDivW 0 b := by
  refine wide_div (b := 210) (by omega) ?_ (by decide) (by decide)
  have h2 : (b.natAbs : Int) = b := by omega
  have h3 : (b.natAbs : Int) < ((2 ^ 210 : Nat) : Int) := by rw [h2]; exact h
  exact Int.ofNat_lt.mp h3
def spRightG : Sp := fun vs H Q _ => ∃ (p l : Addr) (T : Nat) (a : Addr) (s : Int) (ps : List (Int × Int)), vs = [.ref p, .ref a] ∧ Pot H p l T ∧ T < 2 ^ 36 ∧ WispAt H a s ps ∧ Good ps ∧ 0 ≤ s ∧ s ≤ 1 ∧
  ∀ (H' : Hp), Pot H' p l (T + 2000) → Keep p l H H' → Q (.bl true) H'
theorem int_get {ns : List Int} {i : Nat} {x : V} (h : (ns.map V.int)[i]? = some x) : ∃ n, x = .int n ∧ ns[i]? = some n := by
  rw [List.getElem?_map] at h
  cases q : ns[i]? with
  | none =>
    rw [q] at h
    cases h
  | some n =>
    rw [q] at h
    exact ⟨n, (Option.some.inj h).symm, rfl⟩
theorem filter_take_succ {α : Type} {l : List α} {i : Nat} {x : α} (p : α → Bool) (h : l[i]? = some x) : (l.take (i + 1)).filter p = (l.take i).filter p ++ (if p x = true then [x] else []) := by
  rw [List.take_add_one, h, List.filter_append]
  show _ ++ List.filter p [x] = _
  rw [List.filter_cons]
  rfl
/-! ### heads -/
def headOf : List (Int × Int) → Int → List (Int × Int)
  | [], _ => []
  | (t, g) :: r, k => (if 0 < k then [(t, if k < g then k else g)] else []) ++ headOf r (k - g)
theorem head_none : ∀ (ps : List (Int × Int)) (k : Int), k ≤ 0 → (∀ p ∈ ps, 1 ≤ p.2) → headOf ps k = []
  | [], _, _, _ => rfl
  | (t, g) :: r, k, h, hg => by
    have h1 : 1 ≤ g := hg (t, g) (by simp)
    show (if 0 < k then _ else []) ++ headOf r (k - g) = []
    rw [if_neg (by omega), head_none r (k - g) (by omega) fun x hx => hg x (by simp [hx])]
    rfl
theorem head_thick : ∀ (ps : List (Int × Int)) (k j : Int), 0 ≤ j → (∀ p ∈ ps, 1 ≤ p.2) → thickAt (headOf ps k) j = if j < k then thickAt ps j else 0
  | [], k, j, _, _ => by
    show (0 : Int) = if j < k then 0 else 0
    split <;> rfl
  | (t, g) :: r, k, j, hj, hg => by
    have h1 : 1 ≤ g := hg (t, g) (by simp)
    have hr : ∀ p ∈ r, 1 ≤ p.2 := fun x hx => hg x (by simp [hx])
    by_cases hk : 0 < k
    · have e : headOf ((t, g) :: r) k = (t, if k < g then k else g) :: headOf r (k - g) := by
        show (if 0 < k then _ else []) ++ headOf r (k - g) = _
        rw [if_pos hk]
        rfl
      rw [e]
      show (if j < (if k < g then k else g) then t else thickAt (headOf r (k - g)) (j - (if k < g then k else g))) = if j < k then (if j < g then t else thickAt r (j - g)) else 0
      by_cases h2 : k < g
      · rw [if_pos h2, head_none r (k - g) (by omega) hr]
        by_cases h3 : j < k
        · rw [if_pos h3, if_pos h3, if_pos (by omega)]
        · rw [if_neg h3, if_neg h3]
          rfl
      · rw [if_neg h2]
        by_cases h3 : j < g
        · rw [if_pos h3, if_pos (show j < k by omega), if_pos h3]
        · rw [if_neg h3, head_thick r (k - g) (j - g) (by omega) hr]
          by_cases h4 : j < k
          · rw [if_pos h4, if_pos (show j - g < k - g by omega), if_neg h3]
          · rw [if_neg h4, if_neg (show ¬ j - g < k - g by omega)]
    · rw [head_none _ k (by omega) hg, if_neg (by omega)]
      rfl
theorem head_longs : ∀ (ps : List (Int × Int)) (k : Int), 0 ≤ k → k ≤ longs ps → (∀ p ∈ ps, 1 ≤ p.2) → longs (headOf ps k) = k
  | [], k, h0, h1, _ => by
    have : longs [] = 0 := rfl
    show (0 : Int) = k
    omega
  | (t, g) :: r, k, h0, h1, hg => by
    have hg1 : 1 ≤ g := hg (t, g) (by simp)
    have hr : ∀ p ∈ r, 1 ≤ p.2 := fun x hx => hg x (by simp [hx])
    rw [longs_cons] at h1
    have h1 : k ≤ g + longs r := h1
    by_cases hk : 0 < k
    · have e : headOf ((t, g) :: r) k = (t, if k < g then k else g) :: headOf r (k - g) := by
        show (if 0 < k then _ else []) ++ headOf r (k - g) = _
        rw [if_pos hk]
        rfl
      rw [e, longs_cons]
      show (if k < g then k else g) + longs (headOf r (k - g)) = k
      by_cases h2 : k < g
      · rw [if_pos h2, head_none r (k - g) (by omega) hr]
        show k + 0 = k
        omega
      · rw [if_neg h2, head_longs r (k - g) (by omega) (by omega) hr]
        omega
    · rw [head_none _ k (by omega) hg]
      show (0 : Int) = k
      omega
theorem head_all : ∀ (ps : List (Int × Int)) (k : Int), longs ps ≤ k → (∀ p ∈ ps, 1 ≤ p.2) → headOf ps k = ps
  | [], _, _, _ => rfl
  | (t, g) :: r, k, h, hg => by
    have hg1 : 1 ≤ g := hg (t, g) (by simp)
    have hr : ∀ p ∈ r, 1 ≤ p.2 := fun x hx => hg x (by simp [hx])
    rw [longs_cons] at h
    have h : g + longs r ≤ k := h
    have h0 := longs_nonneg hr
    show (if 0 < k then [(t, if k < g then k else g)] else []) ++ headOf r (k - g) = (t, g) :: r
    rw [if_pos (by omega), if_neg (by omega), head_all r (k - g) (by omega) hr]
    rfl
theorem head_mem : ∀ {ps : List (Int × Int)} {k : Int} {p : Int × Int}, p ∈ headOf ps k → ∃ g, (p.1, g) ∈ ps ∧ 1 ≤ p.2 + (if 1 ≤ g then 0 else 1 - g) ∧ p.2 ≤ g
  | [], _, _, h => by cases h
  | (t, g) :: r, k, p, h => by
    have h : p ∈ (if 0 < k then [(t, if k < g then k else g)] else []) ++ headOf r (k - g) := h
    rcases List.mem_append.mp h with h | h
    · by_cases hk : 0 < k
      · rw [if_pos hk] at h
        simp only [List.mem_cons, List.not_mem_nil, or_false] at h
        subst h
        refine ⟨g, by simp, ?_, ?_⟩
        · show 1 ≤ (if k < g then k else g) + (if 1 ≤ g then 0 else 1 - g)
          split <;> split <;> omega
        · show (if k < g then k else g) ≤ g
          split <;> omega
      · rw [if_neg hk] at h
        cases h
    · obtain ⟨g', h1, h2⟩ := head_mem h
      exact ⟨g', by simp [h1], h2⟩
theorem head_len : ∀ (ps : List (Int × Int)) (k : Int), (headOf ps k).length ≤ ps.length
  | [], _ => Nat.le_refl _
  | (t, g) :: r, k => by
    show ((if 0 < k then [(t, if k < g then k else g)] else []) ++ headOf r (k - g)).length ≤ r.length + 1
    rw [List.length_append]
    have := head_len r (k - g)
    split
    · show 1 + _ ≤ _
      omega
    · show 0 + _ ≤ _
      omega
theorem head_good {ps : List (Int × Int)} {k : Int} (g : Good ps) (h : 1 ≤ k) : Good (headOf ps k) := by
  refine ⟨?_, Nat.le_trans (head_len ps k) g.2.1, fun p hp => ?_⟩
  · cases ps with
    | nil => exact absurd g.1 (by decide)
    | cons p r =>
      show 1 ≤ ((if 0 < k then [(p.1, if k < p.2 then k else p.2)] else []) ++ headOf r (k - p.2)).length
      rw [if_pos (by omega), List.length_append]
      show 1 ≤ 1 + _
      omega
  · obtain ⟨g', h1, h2, h3⟩ := head_mem hp
    have h4 := g.2.2 _ h1
    rw [if_pos h4.2.2.1] at h2
    exact ⟨h4.1, h4.2.1, by omega, Int.lt_of_le_of_lt h3 h4.2.2.2⟩
abbrev headStep (k : Int) (t : Int × Int × Int) : Int × Int := (t.2.2, (if k < t.2.1 then k else t.2.1) - t.1)
theorem head_table : ∀ (ps : List (Int × Int)) (b k : Int), ((tableOf b ps).filter fun t => decide (t.1 < k)).map (headStep k) = headOf ps (k - b)
  | [], _, _ => rfl
  | (t, g) :: r, b, k => by
    have ih := head_table r (b + g) k
    show (((b, b + g, t) :: tableOf (b + g) r).filter fun t => decide (t.1 < k)).map (headStep k) = (if 0 < k - b then [(t, if k - b < g then k - b else g)] else []) ++ headOf r (k - b - g)
    rw [List.filter_cons, show k - b - g = k - (b + g) by omega, ← ih]
    by_cases h : b < k
    · rw [if_pos (decide_eq_true h), if_pos (show 0 < k - b by omega), List.map_cons]
      have e : headStep k (b, b + g, t) = (t, if k - b < g then k - b else g) := by
        show (t, (if k < b + g then k else b + g) - b) = _
        by_cases h2 : k - b < g
        · rw [if_pos h2, if_pos (by omega)]
        · rw [if_neg h2, if_neg (by omega), show b + g - b = g by omega]
      rw [e]
      rfl
    · rw [if_neg (fun z => h (of_decide_eq_true z)), if_neg (show ¬ 0 < k - b by omega)]
      rfl
def spHead : Sp := fun vs H Q _ => ∃ (a : Addr) (s : Int) (ps : List (Int × Int)) (k : Int), vs = [.ref a, .int k] ∧ WispAt H a s ps ∧ ps.length ≤ 10 ∧ ∀ H' b, Same H H' → H b = none → WispAt H' b s (headOf ps k) → Q (.ref b) H'
/-! ### tails -/
def tailOf : List (Int × Int) → Int → List (Int × Int)
  | [], _ => []
  | (t, g) :: r, k => (if k < g then [(t, g - (if 0 > k then 0 else k))] else []) ++ tailOf r (k - g)
theorem tail_neg : ∀ (ps : List (Int × Int)) (k : Int), k ≤ 0 → (∀ p ∈ ps, 1 ≤ p.2) → tailOf ps k = ps
  | [], _, _, _ => rfl
  | (t, g) :: r, k, h, hg => by
    have h1 : 1 ≤ g := hg (t, g) (by simp)
    show (if k < g then [(t, g - (if 0 > k then 0 else k))] else []) ++ tailOf r (k - g) = (t, g) :: r
    rw [if_pos (by omega), tail_neg r (k - g) (by omega) fun x hx => hg x (by simp [hx])]
    have e : g - (if 0 > k then 0 else k) = g := by split <;> omega
    rw [e]
    rfl
theorem tail_lt {t g k : Int} {r : List (Int × Int)} (h0 : 0 ≤ k) (h : k < g) (hr : ∀ p ∈ r, 1 ≤ p.2) : tailOf ((t, g) :: r) k = (t, g - k) :: r := by
  show (if k < g then [(t, g - (if 0 > k then 0 else k))] else []) ++ tailOf r (k - g) = _
  rw [if_pos h, if_neg (by omega), tail_neg r (k - g) (by omega) hr]
  rfl
theorem tail_ge {t g k : Int} {r : List (Int × Int)} (h : g ≤ k) : tailOf ((t, g) :: r) k = tailOf r (k - g) := by
  show (if k < g then [(t, g - (if 0 > k then 0 else k))] else []) ++ tailOf r (k - g) = _
  rw [if_neg (by omega)]
  rfl
theorem tail_thick : ∀ (ps : List (Int × Int)) (k j : Int), 0 ≤ k → 0 ≤ j → (∀ p ∈ ps, 1 ≤ p.2) → thickAt (tailOf ps k) j = thickAt ps (k + j)
  | [], _, _, _, _, _ => rfl
  | (t, g) :: r, k, j, hk, hj, hg => by
    have hr : ∀ p ∈ r, 1 ≤ p.2 := fun x hx => hg x (by simp [hx])
    by_cases h : k < g
    · rw [tail_lt hk h hr]
      show (if j < g - k then t else thickAt r (j - (g - k))) = if k + j < g then t else thickAt r (k + j - g)
      by_cases h2 : k + j < g
      · rw [if_pos h2, if_pos (by omega)]
      · rw [if_neg h2, if_neg (by omega), show j - (g - k) = k + j - g by omega]
    · rw [tail_ge (by omega), tail_thick r (k - g) j (by omega) hj hr]
      show _ = if k + j < g then t else thickAt r (k + j - g)
      rw [if_neg (by omega), show k - g + j = k + j - g by omega]
theorem tail_longs : ∀ (ps : List (Int × Int)) (k : Int), 0 ≤ k → k ≤ longs ps → (∀ p ∈ ps, 1 ≤ p.2) → longs (tailOf ps k) = longs ps - k
  | [], k, h0, h1, _ => by
    have : longs [] = 0 := rfl
    show (0 : Int) = 0 - k
    omega
  | (t, g) :: r, k, h0, h1, hg => by
    have hr : ∀ p ∈ r, 1 ≤ p.2 := fun x hx => hg x (by simp [hx])
    rw [longs_cons] at h1 ⊢
    have h1 : k ≤ g + longs r := h1
    show _ = g + longs r - k
    by_cases h : k < g
    · rw [tail_lt h0 h hr, longs_cons]
      show g - k + longs r = _
      omega
    · rw [tail_ge (by omega), tail_longs r (k - g) (by omega) (by omega) hr]
      omega
theorem tail_weigh : ∀ (ps : List (Int × Int)) (k : Int), 0 ≤ k → (∀ p ∈ ps, 1 ≤ p.2) → weigh (headOf ps k) + weigh (tailOf ps k) = weigh ps
  | [], _, _, _ => rfl
  | (t, g) :: r, k, h0, hg => by
    have hr : ∀ p ∈ r, 1 ≤ p.2 := fun x hx => hg x (by simp [hx])
    have hg1 : 1 ≤ g := hg (t, g) (by simp)
    by_cases hk : 0 < k
    · have e : headOf ((t, g) :: r) k = (t, if k < g then k else g) :: headOf r (k - g) := by
        show (if 0 < k then _ else []) ++ headOf r (k - g) = _
        rw [if_pos hk]
        rfl
      rw [e, weigh_cons]
      by_cases h : k < g
      · rw [tail_lt h0 h hr, if_pos h, head_none r (k - g) (by omega) hr, weigh_cons, weigh_cons]
        show t * k + 0 + (t * (g - k) + weigh r) = t * g + weigh r
        rw [Int.mul_sub]
        omega
      · rw [tail_ge (by omega), if_neg h, weigh_cons]
        have ih := tail_weigh r (k - g) (by omega) hr
        show t * g + weigh (headOf r (k - g)) + weigh (tailOf r (k - g)) = t * g + weigh r
        omega
    · rw [head_none _ k (by omega) hg, tail_neg _ k (by omega) hg]
      show 0 + _ = _
      omega
theorem head_pos {ps : List (Int × Int)} {k : Int} (hg : ∀ p ∈ ps, 1 ≤ p.2) : ∀ p ∈ headOf ps k, 1 ≤ p.2 := fun p hp => by
  obtain ⟨g, h1, h2, _⟩ := head_mem hp
  have h3 := hg _ h1
  rw [if_pos h3] at h2
  omega
theorem tail_head : ∀ (ps : List (Int × Int)) (k m : Int), 0 ≤ k → 1 ≤ m → (∀ p ∈ ps, 1 ≤ p.2) → headOf (tailOf ps k) m = tailOf (headOf ps (k + m)) k
  | [], _, _, _, _, _ => rfl
  | (t, g) :: r, k, m, h0, h1, hg => by
    have hr : ∀ p ∈ r, 1 ≤ p.2 := fun x hx => hg x (by simp [hx])
    have e : headOf ((t, g) :: r) (k + m) = (t, if k + m < g then k + m else g) :: headOf r (k + m - g) := by
      show (if 0 < k + m then _ else []) ++ headOf r (k + m - g) = _
      rw [if_pos (by omega)]
      rfl
    rw [e]
    by_cases h : k < g
    · rw [tail_lt h0 h hr, tail_lt h0 (by split <;> omega) (head_pos hr)]
      show (if 0 < m then [(t, if m < g - k then m else g - k)] else []) ++ headOf r (m - (g - k)) = _
      rw [if_pos (by omega), show m - (g - k) = k + m - g by omega]
      by_cases h2 : k + m < g
      · rw [if_pos h2, if_pos (by omega), show k + m - k = m by omega]
        rfl
      · rw [if_neg h2, if_neg (by omega)]
        rfl
    · rw [tail_ge (by omega), tail_ge (by split <;> omega), if_neg (by omega), tail_head r (k - g) m (by omega) h1 hr, show k - g + m = k + m - g by omega]
theorem tail_len : ∀ (ps : List (Int × Int)) (k : Int), (tailOf ps k).length ≤ ps.length
  | [], _ => Nat.le_refl _
  | (t, g) :: r, k => by
    show ((if k < g then [(t, g - (if 0 > k then 0 else k))] else []) ++ tailOf r (k - g)).length ≤ r.length + 1
    rw [List.length_append]
    have := tail_len r (k - g)
    split
    · show 1 + _ ≤ _
      omega
    · show 0 + _ ≤ _
      omega
theorem tail_mem : ∀ {ps : List (Int × Int)} {k : Int} {p : Int × Int}, p ∈ tailOf ps k → ∃ g, (p.1, g) ∈ ps ∧ (1 ≤ g → 1 ≤ p.2) ∧ p.2 ≤ g
  | [], _, _, h => by cases h
  | (t, g) :: r, k, p, h => by
    have h : p ∈ (if k < g then [(t, g - (if 0 > k then 0 else k))] else []) ++ tailOf r (k - g) := h
    rcases List.mem_append.mp h with h | h
    · by_cases hk : k < g
      · rw [if_pos hk] at h
        simp only [List.mem_cons, List.not_mem_nil, or_false] at h
        subst h
        refine ⟨g, by simp, fun h => ?_, ?_⟩
        · show 1 ≤ g - (if 0 > k then 0 else k)
          split <;> omega
        · show g - (if 0 > k then 0 else k) ≤ g
          split <;> omega
      · rw [if_neg hk] at h
        cases h
    · obtain ⟨g', h1, h2⟩ := tail_mem h
      exact ⟨g', by simp [h1], h2⟩
theorem tail_good {ps : List (Int × Int)} {k : Int} (g : Good ps) (h0 : 0 ≤ k) (h : k < longs ps) : Good (tailOf ps k) := by
  have hg : ∀ p ∈ ps, 1 ≤ p.2 := fun x hx => (g.2.2 x hx).2.2.1
  refine ⟨?_, Nat.le_trans (tail_len ps k) g.2.1, fun p hp => ?_⟩
  · have h1 := tail_longs ps k h0 (by omega) hg
    cases q : tailOf ps k with
    | nil =>
      rw [q] at h1
      have : longs [] = 0 := rfl
      omega
    | cons _ _ => exact Nat.succ_le_succ (Nat.zero_le _)
  · obtain ⟨g', h1, h2, h3⟩ := tail_mem hp
    have h4 := g.2.2 _ h1
    exact ⟨h4.1, h4.2.1, h2 h4.2.2.1, Int.lt_of_le_of_lt h3 h4.2.2.2⟩
abbrev tailStep (k : Int) (t : Int × Int × Int) : Int × Int := (t.2.2, t.2.1 - (if k > t.1 then k else t.1))
theorem tail_table : ∀ (ps : List (Int × Int)) (b k : Int), ((tableOf b ps).filter fun t => decide (k < t.2.1)).map (tailStep k) = tailOf ps (k - b)
  | [], _, _ => rfl
  | (t, g) :: r, b, k => by
    have ih := tail_table r (b + g) k
    show (((b, b + g, t) :: tableOf (b + g) r).filter fun t => decide (k < t.2.1)).map (tailStep k) = (if k - b < g then [(t, g - (if 0 > k - b then 0 else k - b))] else []) ++ tailOf r (k - b - g)
    rw [List.filter_cons, show k - b - g = k - (b + g) by omega, ← ih]
    by_cases h : k < b + g
    · rw [if_pos (decide_eq_true h), if_pos (show k - b < g by omega), List.map_cons]
      have e : tailStep k (b, b + g, t) = (t, g - (if 0 > k - b then 0 else k - b)) := by
        show (t, b + g - (if k > b then k else b)) = _
        refine congrArg (Prod.mk t) ?_
        split <;> split <;> omega
      rw [e]
      rfl
    · rw [if_neg (fun z => h (of_decide_eq_true z)), if_neg (show ¬ k - b < g by omega)]
      rfl
def spTail : Sp := fun vs H Q _ => ∃ (a : Addr) (s : Int) (ps : List (Int × Int)) (k : Int), vs = [.ref a, .int k] ∧ WispAt H a s ps ∧ ps.length ≤ 10 ∧ ∀ H' b, Same H H' → H b = none → WispAt H' b s (tailOf ps k) → Q (.ref b) H'
section
variable {P : Program} {w : World} {K : PySem.W.Frag} {mg : Str → Option Value} {base : Heap}
theorem ok__law_blend {f : Addr} {fd : FuncData} {k : Nat} (F : Fun K "_law_blend" "_law_blend" s__law_blend f fd) : FnOk P w K mg base CX0 (k + 1) f fd P__law_blend spBlend := by
  refine F.ok sc__law_blend (fun vs H Q E h => ?_) (fun cdv A outer s H vs Q E hr h => ?_)
  · obtain ⟨n, t, rfl, _⟩ := h
    rfl
  · obtain ⟨n, t, rfl, h0, h1, q⟩ := h
    refine ⟨_, (pss_cons (ps_set (i := 2) sc__law_blend.nd rfl (.inl rfl) (pe_op op_add (pe_op op_add (pe_op op_add (pe_op op_mod (pv 0) pe_int) (pe_op op_mul (pe_op op_mul pe_int (pv 1)) (pv 1))) (pe_op op_mul pe_int (pv 1))) pe_int))
    (pss_cons (ps_set (i := 3) sc__law_blend.nd rfl (.inl rfl) (pe_op op_mod (pe_op op_mul (pv 2) pe_int) pe_int))
    (pss_one (ps_ret (pe_op op_mod (pe_op op_add (pe_op op_mul (pv 3) (pe_op op_add (pe_op op_mod (pv 3) pe_int) (pe_op op_mul pe_int (pv 1)))) (pe_op op_fdiv (pv 3) pe_int)) pe_int))))), ?_⟩
    have b1 : -(2 ^ 64) < t ∧ t < 2 ^ 64 := ⟨by omega, by omega⟩
    have b2 : ∀ x : Int, -(2 ^ 64) < x % 2305843009213693921 ∧ x % 2305843009213693921 < 2 ^ 64 := fun x => ⟨by omega, by omega⟩
    refine ⟨_, rfl, _, _, rfl, rfl, (by show (0 : Int) < 2305843009213693951; decide), _, rfl, _, _, rfl, rfl, .inl ⟨by decide, by decide⟩, _, rfl, _, _, rfl, rfl, .inr b1, _, _, rfl, rfl, _, rfl, _, _, rfl, rfl, .inl ⟨by decide, by decide⟩, _, _, rfl, rfl, _, _, rfl, rfl, ?_⟩
    refine ⟨_, rfl, _, _, rfl, rfl, .inr ⟨by decide, by decide⟩, _, _, rfl, rfl, (by show (0 : Int) < 2305843009213693921; decide), ?_⟩
    refine ⟨_, rfl, _, rfl, _, _, rfl, rfl, (by show (0 : Int) < 1000003; decide), _, rfl, _, _, rfl, rfl, .inl ⟨by decide, by decide⟩, _, _, rfl, rfl, _, _, rfl, rfl, .inl (b2 _), _, rfl, _, _, rfl, rfl, ⟨by decide, by decide⟩, _, _, rfl, rfl, _, _, rfl, rfl, (by show (0 : Int) < 2305843009213693907; decide), q _⟩
theorem dpInts (H : Hp) : ∀ ns : List Int, DpAll K H (ns.map V.int) (ns.map PyData.int)
  | [] => .nil
  | n :: r => .cons (.int n) (dpInts H r)
theorem shInts (ns : List Int) : SeqAt.shaped (.list (ns.map PyData.int)) = true := by
  have h1 : PyData.canLayAll0 (ns.map PyData.int) = true := by
    induction ns with
    | nil => rfl
    | cons n r ih => exact (Bool.and_eq_true_iff.mpr ⟨rfl, ih⟩)
  have h2 : PyData.depthAll (ns.map PyData.int) = 0 := by
    clear h1
    induction ns with
    | nil => rfl
    | cons n r ih =>
      show max 0 (PyData.depthAll (r.map PyData.int)) = 0
      rw [ih]
      rfl
  refine Bool.and_eq_true_iff.mpr ⟨h1, decide_eq_true ?_⟩
  show PyData.depthAll (ns.map PyData.int) + 1 ≤ 64
  rw [h2]
  decide
theorem ok__law_draw {f fB : Addr} {fd fdB : FuncData} (F : Fun K "_law_draw" "_law_draw" s__law_draw f fd) (bi : Bi mg) (C__law_blend : Cal P w K mg base "_law_blend" P__law_blend 1 spBlend fB fdB) : FnOk P w K mg base CX0 2 f fd P__law_draw spDraw := by
  refine F.ok sc__law_draw (fun vs H Q E h => ?_) (fun cdv A outer s H vs Q E hr h => ?_)
  · obtain ⟨p, l, T, many, rfl, _⟩ := h
    rfl
  · obtain ⟨p, l, T, many, rfl, hp, hT, m0, q⟩ := h
    have hu64 := hr.units
    refine ⟨_, (pss_cons (ps_asg (pe_op op_add (pe_ix ix_list (pv 0) pe_int (fun _ _ => rfl)) pe_int) (pg_sub (pv 0) pe_int set_list))
    (C8.pss_cut (ps_if (pw_and (pt_cmpR op_eq (pe_ix ix_list (pv 0) pe_int (fun _ _ => rfl)) pe_int (nomark _)) (pw_and1 (pt_cmpR (op_neD hu64) (pe_ix ix_list (pv 0) pe_int (fun _ _ => rfl)) (pe_lst pa_nil) (nomark _)))).pt
      (pss_cons (ps_set (i := 2) sc__law_draw.nd rfl (.inl rfl) (pe_bm PySem.F.plainAttrs_list PySem.F.slot_list_pop PySem.F.type_list_pop mt_popAt (pe_ix ix_list (pv 0) pe_int (fun _ _ => rfl)) (pa_cons pe_int pa_nil)))
        (pss_cons (ps_asg (pe_call (C__law_blend.G.mono (by decide)) hr (by rfl) C__law_blend.g C__law_blend.kp C__law_blend.b .nil pass0 (pa_cons (pe_op op_add (pe_ix ix_list (pv 0) pe_int (fun _ _ => rfl)) (pv 2)) (pa_cons (pe_callB call_len_seq (by rfl) bi.m_len (by decide +kernel) (pa_cons (pe_ix ix_list (pv 0) pe_int (fun _ _ => rfl)) pa_nil)) pa_nil))) (pg_sub (pv 0) pe_int set_list))
        (pss_one (ps_if (pt_cmpR op_ge (pe_callB call_abs (by rfl) bi.m_abs (by decide +kernel) (pa_cons (pv 2) pa_nil)) (pe_op op_pow pe_int pe_int) (nomark _))
          (pss_one (ps_asg (pe_callB call_abs (by rfl) bi.m_abs (by decide +kernel) (pa_cons (pv 2) pa_nil)) (pg_sub (pv 0) pe_int set_list)))
          pss_nil))))
      pss_nil)
    (pss_cons (ps_if (pt_cmpR op_gt (pe_ix ix_list (pv 0) pe_int (fun _ _ => rfl)) pe_int (nomark _))
      (pss_cons (ps_set (i := 3) sc__law_draw.nd rfl (.inl rfl) (pe_op op_mod (pe_ix ix_list (pv 0) pe_int (fun _ _ => rfl)) (pv 1)))
        (pss_cons (ps_asg (pe_op op_fdivW (pe_ix ix_list (pv 0) pe_int (fun _ _ => rfl)) (pv 1)) (pg_sub (pv 0) pe_int set_list))
        (pss_one (ps_ret (pv 3)))))
      pss_nil)
    (pss_one (ps_ret (pe_op op_mod (pe_op op_fdiv (pe_call (C__law_blend.G.mono (by decide)) hr (by rfl) C__law_blend.g C__law_blend.kp C__law_blend.b .nil pass0 (pa_cons (pe_ix ix_list (pv 0) pe_int (fun _ _ => rfl)) (pa_cons (pe_ix ix_list (pv 0) pe_int (fun _ _ => rfl)) pa_nil))) pe_int) (pv 1))))))), ?_⟩
    have hne := hp.ne
    obtain ⟨ns, c, m, t, ep, el, c0, tT, hn⟩ := hp
    -- pot[3] = pot[3] + 1
    refine ⟨_, rfl, p, _, 3, _, rfl, rfl, SqL.of ep, atI_nat (j := 3) rfl, _, _, rfl, rfl, _, rfl, p, _, 3, 3, rfl, rfl, ep, rfl, ?_⟩
    have ep1 : upd H p (.lst [.ref l, .int c, .int m, .int ((t : Int) + 1)]) p = some (.lst [.ref l, .int c, .int m, .int ((t : Int) + 1)]) := upd_same
    have el1 : upd H p (.lst [.ref l, .int c, .int m, .int ((t : Int) + 1)]) l = some (.lst (ns.map V.int)) := by rw [upd_ne hne.symm]; exact el
    have k1 : Keep p l H (upd H p (.lst [.ref l, .int c, .int m, .int ((t : Int) + 1)])) := Keep.refl.own
    show C8.tCut _ _ _ _ (upd H p (.lst [.ref l, .int c, .int m, .int ((t : Int) + 1)]))
    generalize upd H p (.lst [.ref l, .int c, .int m, .int ((t : Int) + 1)]) = H1 at ep1 el1 k1
    -- the middle
    refine ⟨fun σ' H' => ∃ (x2 x3 : Option V) (ns' : List Int) (c' m' : Int), σ' = [some (.ref p), some (.int many), x2, x3] ∧ H' p = some (.lst [.ref l, .int c', .int m', .int ((t : Int) + 1)]) ∧ H' l = some (.lst (ns'.map V.int)) ∧ 0 ≤ c' ∧ ns'.length ≤ 63 ∧ Keep p l H H', ?_, fun σ' H' hm => ?_⟩
    · refine ⟨_, rfl, p, _, 1, _, rfl, rfl, SqL.of ep1, atI_nat (j := 1) rfl, rfl, _, rfl, ite2 (fun e => ?_) (fun e => ?_)⟩
      · refine ⟨_, rfl, p, _, 0, _, rfl, rfl, SqL.of ep1, atI_nat (j := 0) rfl, Nat.zero_le _, fun z nz => ?_⟩
        have elz : upd H1 z (.lst []) l = some (.lst (ns.map V.int)) := by
          rw [upd_ne (ne_of_none el1 nz)]
          exact el1
        have epz : upd H1 z (.lst []) p = some (.lst [.ref l, .int c, .int m, .int ((t : Int) + 1)]) := by
          rw [upd_ne (ne_of_none ep1 nz)]
          exact ep1
        have k2 : Keep p l H (upd H1 z (.lst [])) := k1.new nz
        refine ⟨_, _, .lst (SqL.of elz) (dpInts _ ns), .lst (SqL.of upd_same) .nil, shInts ns, rfl, _, rfl, ite2 (fun e2 => ?_) (fun e2 => ?_)⟩
        · show tSeq _ _ _ _ (upd H1 z (.lst []))
          generalize upd H1 z (.lst []) = H2 at elz epz k2
          cases ns with
          | nil => exact absurd e2 (by decide)
          | cons n r =>
            -- cell = pot[0].pop(0)
            refine ⟨_, rfl, p, _, 0, _, rfl, rfl, SqL.of epz, atI_nat (j := 0) rfl, Or.inl ⟨rfl, _, SqL.of elz⟩, l, _, 0, 0, .int n, rfl, rfl, elz, by decide, by decide, ?_, rfl, ?_⟩
            · show seqIndex? 0 ((r.map V.int).length + 1) = some 0
              unfold seqIndex?
              simp
            have elz2 : upd H2 l (.lst (r.map V.int)) l = some (.lst (r.map V.int)) := upd_same
            have epz2 : upd H2 l (.lst (r.map V.int)) p = some (.lst [.ref l, .int c, .int m, .int ((t : Int) + 1)]) := by
              rw [upd_ne hne]
              exact epz
            have k3 : Keep p l H (upd H2 l (.lst (r.map V.int))) := k2.own2
            show tSeq _ _ _ _ (upd H2 l (.lst (r.map V.int)))
            generalize upd H2 l (.lst (r.map V.int)) = H3 at elz2 epz2 k3
            have hr63 : r.length ≤ 63 := Nat.le_trans (Nat.le_succ _) hn
            -- pot[2] = blend(pot[2] + cell, len(pot[0]))
            refine ⟨_, rfl, p, _, 2, _, rfl, rfl, SqL.of epz2, atI_nat (j := 2) rfl, _, rfl, _, _, rfl, rfl, _, rfl, p, _, 0, _, rfl, rfl, SqL.of epz2, atI_nat (j := 0) rfl, l, _, rfl, .inl (SqL.of elz2), _, _, rfl, ?_, ?_, fun m2 => ?_⟩
            · omega
            · rw [List.length_map]
              omega
            refine ⟨_, rfl, p, _, 2, 2, rfl, rfl, epz2, rfl, ?_⟩
            have ep4 : upd H3 p (.lst [.ref l, .int c, .int m2, .int ((t : Int) + 1)]) p = some (.lst [.ref l, .int c, .int m2, .int ((t : Int) + 1)]) := upd_same
            have el4 : upd H3 p (.lst [.ref l, .int c, .int m2, .int ((t : Int) + 1)]) l = some (.lst (r.map V.int)) := by
              rw [upd_ne hne.symm]
              exact elz2
            have k4 : Keep p l H (upd H3 p (.lst [.ref l, .int c, .int m2, .int ((t : Int) + 1)])) := k3.own
            refine ⟨_, rfl, n, rfl, _, _, rfl, rfl, ⟨by decide, by decide, by decide⟩, _, _, rfl, rfl, _, rfl, ite2 (fun e3 => ?_) (fun e3 => ?_)⟩
            · refine ⟨_, rfl, n, rfl, _, rfl, p, _, 1, 1, rfl, rfl, ep4, rfl, ?_⟩
              refine ⟨_, _, r, (if n < 0 then -n else n), m2, rfl, upd_same, ?_, ?_, hr63, k4.own⟩
              · rw [upd_ne hne.symm]
                exact el4
              · split <;> omega
            · exact ⟨_, _, r, c, m2, rfl, ep4, el4, c0, hr63, k4⟩
        · exact ⟨_, _, ns, c, m, rfl, epz, elz, c0, hn, k2⟩
      · exact ⟨_, _, ns, c, m, rfl, ep1, el1, c0, hn, k1⟩
    · obtain ⟨x2, x3, ns', c', m', rfl, ep', el', c0', hn', k'⟩ := hm
      have pt : ∀ c2 : Int, 0 ≤ c2 → Pot (upd H' p (.lst [.ref l, .int c2, .int m', .int ((t : Int) + 1)])) p l (T + 1) := fun c2 h2 =>
        ⟨ns', c2, m', t + 1, upd_same, by rw [upd_ne hne.symm]; exact el', h2, by omega, hn'⟩
      refine ⟨_, rfl, p, _, 1, _, rfl, rfl, SqL.of ep', atI_nat (j := 1) rfl, _, _, rfl, rfl, _, rfl, ite2 (fun e => ?_) (fun e => ?_)⟩
      · refine ⟨_, rfl, p, _, 1, _, rfl, rfl, SqL.of ep', atI_nat (j := 1) rfl, _, rfl, _, _, rfl, rfl, m0.1, ?_⟩
        refine ⟨_, rfl, p, _, 1, _, rfl, rfl, SqL.of ep', atI_nat (j := 1) rfl, _, rfl, _, _, rfl, rfl, m0, _, rfl, p, _, 1, 1, rfl, rfl, ep', rfl, ?_⟩
        exact ⟨_, rfl, q _ _ (Int.emod_nonneg _ (Int.ne_of_gt m0.1)) (Int.emod_lt_of_pos _ m0.1) (pt _ (Int.ediv_nonneg c0' (Int.le_of_lt m0.1))) k'.own⟩
      · refine ⟨_, rfl, p, _, 2, _, rfl, rfl, SqL.of ep', atI_nat (j := 2) rfl, _, rfl, p, _, 3, _, rfl, rfl, SqL.of ep', atI_nat (j := 3) rfl, _, _, rfl, by omega, by omega, fun r => ?_⟩
        refine ⟨_, _, rfl, rfl, ⟨by decide, by decide⟩, _, rfl, _, _, rfl, rfl, m0.1, ?_⟩
        exact q _ _ (Int.emod_nonneg _ (Int.ne_of_gt m0.1)) (Int.emod_lt_of_pos _ m0.1) ⟨ns', c', m', t + 1, ep', el', c0', by omega, hn'⟩ k'
theorem ok__law_great {f fB : Addr} {fd fdB : FuncData} (F : Fun K "_law_great" "_law_great" s__law_great f fd) (bi : Bi mg) (C__law_draw : Cal P w K mg base "_law_draw" P__law_draw 2 spDraw fB fdB) : FnOk P w K mg base CX0 3 f fd P__law_great spGreat := by
  refine F.ok sc__law_great (fun vs H Q E h => ?_) (fun cdv A outer s H vs Q E hr h => ?_)
  · obtain ⟨p, l, T, rfl, _⟩ := h
    rfl
  · obtain ⟨p, l, T, rfl, hp, hT, q⟩ := h
    refine ⟨_, (pss_cons (ps_set (i := 1) sc__law_great.nd rfl (.inl rfl) (pe_call (C__law_draw.G.mono (by decide)) hr (by rfl) C__law_draw.g C__law_draw.kp C__law_draw.b .nil pass0 (pa_cons (pv 0) (pa_cons pe_int pa_nil))))
    (pss_cons (ps_set (i := 2) sc__law_great.nd rfl (.inl rfl) (pe_call (C__law_draw.G.mono (by decide)) hr (by rfl) C__law_draw.g C__law_draw.kp C__law_draw.b .nil pass0 (pa_cons (pv 0) (pa_cons (pe_ix ix_list (pe_lst (pa_cons pe_int (pa_cons pe_int (pa_cons pe_int (pa_cons pe_int pa_nil))))) (pv 1) (fun _ _ => rfl)) pa_nil))))
    (C8.pss_cut (ps_if (pt_cmpR op_eq (pv 1) pe_int (nomark _))
      (pss_one (ps_for PassesOwn.never rfl (pi_range1 rfl bi.m_range (pa_cons pe_int pa_nil)) (pg_name (i := 3) sc__law_great.nd rfl (.inl rfl))
          (pss_one (ps_set (i := 2) sc__law_great.nd rfl (.inl rfl) (pe_op op_add (pe_op op_mul (pv 2) (pe_op op_pow pe_int pe_int)) (pe_call (C__law_draw.G.mono (by decide)) hr (by rfl) C__law_draw.g C__law_draw.kp C__law_draw.b .nil pass0 (pa_cons (pv 0) (pa_cons (pe_op op_pow pe_int pe_int) pa_nil))))))))
      pss_nil)
    (pss_one (ps_ret (pv 2)))))), ?_⟩
    refine ⟨_, rfl, p, l, T, 4, rfl, hp, by omega, ⟨by decide, by decide⟩, fun way H1 w0 w1 hp1 k1 => ?_⟩
    refine ⟨_, rfl, by decide, fun z nz => ?_⟩
    have hq : ∀ b : Int, 0 < b → b ≤ 1000 → CDivW 0 b := fun b h0 h1 => wide_div (b := 10) h0 (by omega) (by decide) (by decide)
    have ix : ∃ b : Int, 0 < b ∧ b ≤ 1000 ∧ (way = 1 → b = 3) ∧ atI [V.int 3, V.int 3, V.int 12, V.int 1000] way = some (.int b) := by
      have hw : way = 0 ∨ way = 1 ∨ way = 2 ∨ way = 3 := by omega
      rcases hw with rfl | rfl | rfl | rfl
      · exact ⟨3, by decide, by decide, by decide, rfl⟩
      · exact ⟨3, by decide, by decide, by decide, rfl⟩
      · exact ⟨12, by decide, by decide, by decide, rfl⟩
      · exact ⟨1000, by decide, by decide, by decide, rfl⟩
    obtain ⟨b, b0, b1, b2, eb⟩ := ix
    refine ⟨_, rfl, z, _, way, _, rfl, rfl, SqL.of upd_same, eb, p, l, T + 1, b, rfl, hp1.new nz, by omega, hq b b0 b1, fun d H2 d0 d1 hp2 k2 => ?_⟩
    have k02 : Keep p l H H2 := (k1.new nz).trans k2
    refine ⟨fun σ' H' => ∃ (n : Int) (x3 : Option V), σ' = [some (.ref p), some (.int way), some (.int n), x3] ∧ 0 ≤ n ∧ n < 2 ^ 122 ∧ Pot H' p l (T + 5) ∧ Keep p l H H', ?_, fun σ' H' hm => ?_⟩
    · refine ⟨_, rfl, rfl, _, rfl, ite2 (fun e => ?_) (fun e => ?_)⟩
      · have ew : way = 1 := V.int.inj (of_decide_eq_true e)
        have eb3 := b2 ew
        refine ⟨3, rfl, by decide, by decide, for_range (n := 3) (fun i σ' H' => ∃ (n : Int) (x3 : Option V), σ' = [some (.ref p), some (.int way), some (.int n), x3] ∧ 0 ≤ n ∧ n < 3 * 1000000000000 ^ i ∧ Pot H' p l (T + 2 + i) ∧ Keep p l H H') ⟨d, _, rfl, d0, by rw [eb3] at d1; simpa using d1, hp2, k02⟩ (fun i σ' H' hi hm => ?_) (fun σ' H' hm => ?_)⟩
        · obtain ⟨n, x3, rfl, n0, n1, hpi, ki⟩ := hm
          refine ⟨_, rfl, _, _, rfl, rfl, ⟨by decide, by decide, by decide⟩, _, _, rfl, rfl, .inr ⟨by decide, by decide⟩, ?_⟩
          refine ⟨_, rfl, _, _, rfl, rfl, ⟨by decide, by decide, by decide⟩, p, l, T + 2 + i, _, rfl, hpi, by omega, ⟨by decide, by decide⟩, fun d2 H3 e0 e1 hp3 k3 => ?_⟩
          refine ⟨_, _, rfl, rfl, ?_⟩
          refine ⟨_, _, rfl, ?_, ?_, hp3, ki.trans k3⟩
          · show 0 ≤ n * 10 ^ 12 + d2
            have : 0 ≤ n * 10 ^ 12 := Int.mul_nonneg n0 (by decide)
            omega
          · have e12 : (10 : Int) ^ (12 : Int).toNat = 1000000000000 := by decide
            have e1' : d2 < 10 ^ (12 : Int).toNat := e1
            show n * 10 ^ (12 : Int).toNat + d2 < 3 * 1000000000000 ^ (i + 1)
            rw [e12] at e1'
            rw [e12, Int.pow_succ]
            generalize (1000000000000 : Int) ^ i = y at n1
            omega
        · obtain ⟨n, x3, rfl, n0, n1, hpi, ki⟩ := hm
          exact ⟨n, x3, rfl, n0, Int.lt_trans n1 (by decide), hpi, ki⟩
      · exact ⟨d, _, rfl, d0, Int.lt_trans d1 (Int.lt_of_le_of_lt b1 (by decide)), hp2.mono (by omega), k02⟩
    · obtain ⟨n, x3, rfl, n0, n1, hpi, ki⟩ := hm
      exact ⟨_, rfl, q _ _ n0 n1 hpi ki⟩
theorem ok__law_pot {f : Addr} {fd : FuncData} {k : Nat} (F : Fun K "_law_pot" "_law_pot" s__law_pot f fd) (bi : Bi mg) : FnOk P w K mg base CX0 (k + 1) f fd P__law_pot (spPot K) := by
  refine F.ok sc__law_pot (fun vs H Q E h => ?_) (fun cdv A outer s H vs Q E hr h => ?_)
  · obtain ⟨a, ns, rfl, _⟩ := h
    rfl
  · obtain ⟨a, ns, rfl, hS, hn, q⟩ := h
    refine ⟨_, (pss_one (ps_ret (pe_lst (pa_cons (pe_callTy call_list_of (by rfl) bi.m_list (by decide +kernel) (pa_cons (pv 0) pa_nil)) (pa_cons pe_int (pa_cons pe_int (pa_cons pe_int pa_nil))))))), ?_⟩
    refine ⟨_, rfl, a, _, rfl, .inl hS, fun l nl => ?_⟩
    refine ⟨(by show 4 ≤ sizeLine; decide), fun p np => ?_⟩
    have hpl : l ≠ p := fun e => by
      rw [← e, upd_same] at np
      cases np
    have np' : H p = none := by
      rw [upd_ne hpl.symm] at np
      exact np
    refine q _ p l (fun b o e => ?_) np' nl ⟨ns, 0, 3, 0, upd_same, ?_, by decide, Nat.le_refl _, hn⟩
    · rw [upd_ne (ne_of_none e np'), upd_ne (ne_of_none e nl)]
      exact e
    · rw [upd_ne hpl, upd_same]
theorem ok__law_whole {f : Addr} {fd : FuncData} {k : Nat} (F : Fun K "_law_whole" "_law_whole" s__law_whole f fd) (bi : Bi mg) : FnOk P w K mg base CX0 (k + 1) f fd P__law_whole spWhole := by
  refine F.ok sc__law_whole (fun vs H Q E h => ?_) (fun cdv A outer s H vs Q E hr h => ?_)
  · obtain ⟨i, rfl, _⟩ := h
    rfl
  · obtain ⟨i, rfl, q⟩ := h
    refine ⟨_, (pss_one (ps_ret (pe_and (pe_callB call_isi (by rfl) bi.m_isinstance (by decide +kernel) (pa_cons (pv 0) (pa_cons (pe_bltn (v := .ty "int") (by rfl) bi.m_int (by decide +kernel) rfl) pa_nil))) (pe_one (pe_not (pe_callB call_isi (by rfl) bi.m_isinstance (by decide +kernel) (pa_cons (pv 0) (pa_cons (pe_bltn (v := .ty "bool") (by rfl) bi.m_bool (by decide +kernel) rfl) pa_nil)))))))), ?_⟩
    refine ⟨_, rfl, _, _, _, _, true, rfl, ClsV.ty "int", .base (.int i), kit_ty (by decide +kernel), true, rfl, iteT ?_⟩
    exact ⟨_, rfl, _, _, _, _, false, rfl, ClsV.ty "bool", .base (.int i), kit_ty (by decide +kernel), false, rfl, q⟩
theorem ok__law_wisp {f fB fG : Addr} {fd fdB fdG : FuncData} (F : Fun K "_law_wisp" "_law_wisp" s__law_wisp f fd) (bi : Bi mg) (C__law_draw : Cal P w K mg base "_law_draw" P__law_draw 2 spDraw fB fdB) (C__law_great : Cal P w K mg base "_law_great" P__law_great 3 spGreat fG fdG) : FnOk P w K mg base CX0 4 f fd P__law_wisp spWisp := by
  refine F.ok sc__law_wisp (fun vs H Q E h => ?_) (fun cdv A outer s H vs Q E hr h => ?_)
  · obtain ⟨p, l, T, most, small, rfl, _⟩ := h
    rfl
  · obtain ⟨p, l, T, most, small, rfl, hp, hT, m3, m10, q⟩ := h
    refine ⟨_, (pss_cons (ps_set (i := 3) sc__law_wisp.nd rfl (.inl rfl) (pe_ix ix_list (pe_lst (pa_cons (pe_op op_add pe_int (pe_call (C__law_draw.G.mono (by decide)) hr (by rfl) C__law_draw.g C__law_draw.kp C__law_draw.b .nil pass0 (pa_cons (pv 0) (pa_cons (pv 1) pa_nil)))) (pa_cons (pv 1) (pa_cons pe_int (pa_cons (pe_op op_add pe_int (pe_call (C__law_draw.G.mono (by decide)) hr (by rfl) C__law_draw.g C__law_draw.kp C__law_draw.b .nil pass0 (pa_cons (pv 0) (pa_cons pe_int pa_nil)))) pa_nil))))) (pe_call (C__law_draw.G.mono (by decide)) hr (by rfl) C__law_draw.g C__law_draw.kp C__law_draw.b .nil pass0 (pa_cons (pv 0) (pa_cons pe_int pa_nil))) (fun _ _ => rfl)))
    (pss_cons (ps_par (i := 4) (j := 5) rfl sc__law_wisp.nd rfl rfl (by decide) rfl rfl (pa_cons (pe_lst pa_nil) (pa_cons pe_int pa_nil)) rfl)
    (pss_cons (ps_for PassesOwn.never rfl (pi_range1 rfl bi.m_range (pa_cons (pe_callB (call_min2 rfl) (by rfl) bi.m_min (by decide +kernel) (pa_cons (pv 3) (pa_cons (pv 1) pa_nil))) pa_nil)) (pg_name (i := 6) sc__law_wisp.nd rfl (.inl rfl))
      (pss_cons (ps_set (i := 7) sc__law_wisp.nd rfl (.inl rfl) (pe_lst (pa_cons (pe_call (C__law_draw.G.mono (by decide)) hr (by rfl) C__law_draw.g C__law_draw.kp C__law_draw.b .nil pass0 (pa_cons (pv 0) (pa_cons pe_int pa_nil))) (pa_cons (pe_call (C__law_draw.G.mono (by decide)) hr (by rfl) C__law_draw.g C__law_draw.kp C__law_draw.b .nil pass0 (pa_cons (pv 0) (pa_cons pe_int pa_nil))) pa_nil))))
        (C8.pss_cut (ps_if (pt_not (pt_val (pv 2)))
          (pss_one (ps_set (i := 7) sc__law_wisp.nd rfl (.inl rfl) (pe_lst (pa_cons (pe_call (C__law_great.G.mono (by decide)) hr (by rfl) C__law_great.g C__law_great.kp C__law_great.b .nil pass0 (pa_cons (pv 0) pa_nil)) (pa_cons (pe_call (C__law_great.G.mono (by decide)) hr (by rfl) C__law_great.g C__law_great.kp C__law_great.b .nil pass0 (pa_cons (pv 0) pa_nil)) pa_nil)))))
          pss_nil)
        (pss_cons (ps_set (i := 5) sc__law_wisp.nd rfl (.inl rfl) (pe_op op_add (pe_op op_add (pv 5) pe_int) (pe_ix ix_list (pv 7) pe_int (fun _ _ => rfl))))
        (pss_one (ps_expr (pe_bm PySem.F.plainAttrs_list PySem.F.slot_list_insert PySem.F.type_list_insert mt_insert (pv 4) (pa_cons pe_int (pa_cons (pe_tup (pa_cons (pv 5) (pa_cons (pe_op op_add pe_int (pe_ix ix_list (pv 7) pe_int (fun _ _ => rfl))) pa_nil))) pa_nil)))))))))
    (pss_one (ps_ret (pe_tup (pa_cons (pe_call (C__law_draw.G.mono (by decide)) hr (by rfl) C__law_draw.g C__law_draw.kp C__law_draw.b .nil pass0 (pa_cons (pv 0) (pa_cons pe_int pa_nil))) (pa_cons (pe_callTy call_tuple_of (by rfl) bi.m_tuple (by decide +kernel) (pa_cons (pv 4) pa_nil)) pa_nil)))))))), ?_⟩
    have hq : ∀ b : Int, 0 < b → b ≤ 1000 → CDivW 0 b := fun b h0 h1 => wide_div (b := 10) h0 (by omega) (by decide) (by decide)
    refine ⟨_, rfl, _, rfl, p, l, T, most, rfl, hp, by omega, hq _ (by omega) (by omega), fun d1 H1 d10 d11 hp1 k1 => ?_⟩
    refine ⟨_, _, rfl, rfl, _, rfl, _, rfl, p, l, T + 1, 3, rfl, hp1, by omega, hq _ (by omega) (by omega), fun d2 H2 d20 d21 hp2 k2 => ?_⟩
    refine ⟨_, _, rfl, rfl, (by show 4 ≤ sizeLine; decide), fun z nz => ?_⟩
    refine ⟨_, rfl, p, l, T + 2, 4, rfl, hp2.new nz, by omega, hq _ (by omega) (by omega), fun d3 H3 d30 d31 hp3 k3 => ?_⟩
    have kz : Keep p l H2 H3 := (Keep.refl.new nz).trans k3
    have k03 : Keep p l H H3 := (k1.trans k2).trans kz
    obtain ⟨nz1, nz2⟩ := hp2.fresh nz
    have ez : H3 z = some (.lst [.int (1 + d1), .int most, .int 1, .int (1 + d2)]) := k3 z _ nz1 nz2 upd_same
    have ix : ∃ b : Int, 1 ≤ b ∧ b ≤ most ∧ atI [V.int (1 + d1), V.int most, V.int 1, V.int (1 + d2)] d3 = some (.int b) := by
      have hw : d3 = 0 ∨ d3 = 1 ∨ d3 = 2 ∨ d3 = 3 := by omega
      rcases hw with rfl | rfl | rfl | rfl
      · exact ⟨1 + d1, by omega, by omega, rfl⟩
      · exact ⟨most, by omega, by omega, rfl⟩
      · exact ⟨1, by omega, by omega, rfl⟩
      · exact ⟨1 + d2, by omega, by omega, rfl⟩
    obtain ⟨b, b1, b2, eb⟩ := ix
    refine ⟨z, _, d3, _, rfl, rfl, SqL.of ez, eb, ?_⟩
    -- steps, strong = [], 0
    refine ⟨Nat.zero_le _, fun S nS => ?_⟩
    have nSH : H S = none := k03.free hp3 nS
    obtain ⟨nSp, nSl⟩ := hp3.fresh nS
    refine ⟨_, _, rfl, ?_⟩
    have hmin : (if most < b then most else b) = b := by
      rw [if_neg (by omega)]
    refine ⟨_, rfl, _, rfl, _, _, rfl, (if most < b then most else b), rfl, by omega, by omega, ?_⟩
    rw [hmin]
    have PB : (2 : Int) ^ 122 + 1 ≤ 2 ^ 123 := by decide
    refine for_range (n := b.toNat) (fun i σ' H' => ∃ (x6 x7 : Option V) (as : List Addr) (ps : List (Int × Int)) (st : Int), σ' = [some (.ref p), some (.int most), some (.bl small), some (.int b), some (.ref S), some (.int st), x6, x7] ∧ ps.length = i ∧ H' S = some (.lst (as.map V.ref)) ∧ TupsAt H' as (ps.map stepV) ∧ Pot H' p l (T + 3 + 12 * i) ∧ Keep p l H H' ∧ Falls ps ∧ (∀ x ∈ ps, 1 ≤ x.1 ∧ x.1 ≤ st ∧ 1 ≤ x.2 ∧ x.2 ≤ 2 ^ 123) ∧ 0 ≤ st ∧ st ≤ i * 2 ^ 123 ∧ (small = true → (∀ x ∈ ps, x.2 ≤ 3) ∧ st ≤ 3 * i))
      ⟨_, _, [], [], 0, rfl, rfl, upd_same, TupsAt.nil, hp3.new nS, k03.new nS, List.Pairwise.nil, (fun x hx => by simp at hx), by decide, by decide, fun _ => ⟨(fun x hx => by simp at hx), by decide⟩⟩ (fun i σ' H' hi hm => ?_) (fun σ' H' hm => ?_)
    · obtain ⟨x6, x7, as, ps, st, rfl, hl, eS, tu, hpi, ki, fa, bo, st0, st1, sm⟩ := hm
      -- more = [draw, draw]
      refine ⟨_, rfl, p, l, T + 3 + 12 * i, 3, rfl, hpi, by omega, hq _ (by omega) (by omega), fun e1 H4 e10 e11 hp4 k4 => ?_⟩
      refine ⟨_, rfl, p, l, T + 3 + 12 * i + 1, 3, rfl, hp4, by omega, hq _ (by omega) (by omega), fun e2 H5 e20 e21 hp5 k5 => ?_⟩
      refine ⟨(by show 2 ≤ sizeLine; decide), fun M nM => ?_⟩
      have eS5 : H5 S = some (.lst (as.map V.ref)) := k5 _ _ nSp nSl (k4 _ _ nSp nSl eS)
      have tu5 : TupsAt H5 as (ps.map stepV) := (tu.mono (k4.tups hpi)).mono (k5.tups hp4)
      have nMS : S ≠ M := ne_of_none eS5 nM
      have kM : Keep p l H (upd H5 M (.lst [.int e1, .int e2])) := ((ki.trans k4).trans k5).new nM
      have eS6 : upd H5 M (.lst [.int e1, .int e2]) S = some (.lst (as.map V.ref)) := by
        rw [upd_ne nMS]
        exact eS5
      have tu6 : TupsAt (upd H5 M (.lst [.int e1, .int e2])) as (ps.map stepV) := tu5.mono (Tups.new nM)
      have hp6 : Pot (upd H5 M (.lst [.int e1, .int e2])) p l (T + 3 + 12 * i + 2) := hp5.new nM
      refine ⟨fun σ' H' => ∃ (M : Addr) (x6 : Option V) (a1 a2 : Int), σ' = [some (.ref p), some (.int most), some (.bl small), some (.int b), some (.ref S), some (.int st), x6, some (.ref M)] ∧ H' M = some (.lst [.int a1, .int a2]) ∧ 0 ≤ a1 ∧ a1 < 2 ^ 122 ∧ 0 ≤ a2 ∧ a2 < 2 ^ 122 ∧ (small = true → a1 ≤ 2 ∧ a2 ≤ 2) ∧ H' S = some (.lst (as.map V.ref)) ∧ TupsAt H' as (ps.map stepV) ∧ Pot H' p l (T + 3 + 12 * i + 12) ∧ Keep p l H H', ?_, fun σ' H' hm => ?_⟩
      · refine ⟨_, rfl, small, rfl, ?_⟩
        cases small with
        | true => exact ⟨M, _, e1, e2, rfl, upd_same, e10, by omega, e20, by omega, fun _ => ⟨by omega, by omega⟩, eS6, tu6, hp6.mono (by omega), kM⟩
        | false =>
          refine ⟨_, rfl, p, l, T + 3 + 12 * i + 2, rfl, hp6, by omega, fun g1 H7 g10 g11 hp7 k7 => ?_⟩
          refine ⟨_, rfl, p, l, T + 3 + 12 * i + 2 + 5, rfl, hp7, by omega, fun g2 H8 g20 g21 hp8 k8 => ?_⟩
          refine ⟨(by show 2 ≤ sizeLine; decide), fun M2 nM2 => ?_⟩
          have eS8 : H8 S = some (.lst (as.map V.ref)) := k8 _ _ nSp nSl (k7 _ _ nSp nSl eS6)
          refine ⟨M2, _, g1, g2, rfl, upd_same, g10, g11, g20, g21, (fun h => by cases h), ?_, ?_, hp8.new nM2, ((kM.trans k7).trans k8).new nM2⟩
          · rw [upd_ne (ne_of_none eS8 nM2)]
            exact eS8
          · exact (((tu6.mono (k7.tups hp6)).mono (k8.tups hp7)).mono (Tups.new nM2))
      · obtain ⟨M, x6, a1, a2, rfl, eM, a10, a11, a20, a21, asm, eS9, tu9, hp9, k9⟩ := hm
        refine ⟨_, rfl, _, _, rfl, rfl, _, rfl, M, _, 0, _, rfl, rfl, SqL.of eM, atI_nat (j := 0) rfl, _, _, rfl, rfl, ?_⟩
        refine ⟨_, rfl, .inl ⟨rfl, _, SqL.of eS9⟩, _, rfl, _, rfl, M, _, 1, _, rfl, rfl, SqL.of eM, atI_nat (j := 1) rfl, _, _, rfl, rfl, (by show 2 ≤ sizeLine; decide), fun t nt => ?_⟩
        have nSt : S ≠ t := ne_of_none eS9 nt
        have eS10 : upd H' t (.tup [.int (st + 1 + a1), .int (1 + a2)]) S = some (.lst (as.map V.ref)) := by
          rw [upd_ne nSt]
          exact eS9
        have lenas : as.length = i := by
          have := tu.1
          rw [List.length_map, hl] at this
          exact this
        refine ⟨S, _, 0, _, rfl, rfl, eS10, ?_, by decide, by decide, ?_⟩
        · rw [List.length_map]
          exact small1000 (by omega)
        have tu10 : TupsAt (upd H' t (.tup [.int (st + 1 + a1), .int (1 + a2)])) (t :: as) (((st + 1 + a1, 1 + a2) :: ps).map stepV) := (tu9.mono (Tups.new nt)).cons upd_same
        refine ⟨_, _, t :: as, (st + 1 + a1, 1 + a2) :: ps, st + 1 + a1, rfl, by simp [hl], upd_same, tu10.mono (Tups.ls eS10), ((hp9.new nt).other nSp nSl).mono (by omega), (k9.new nt).mine nSH, ?_, ?_, by omega, ?_, fun h => ⟨?_, ?_⟩⟩
        · refine List.Pairwise.cons (fun x hx => ?_) fa
          have := bo x hx
          show x.1 < st + 1 + a1
          omega
        · intro x hx
          rcases List.mem_cons.mp hx with rfl | hx
          · refine ⟨?_, ?_, ?_, ?_⟩
            · show 1 ≤ st + 1 + a1
              omega
            · exact Int.le_refl _
            · show 1 ≤ 1 + a2
              omega
            · show 1 + a2 ≤ 2 ^ 123
              omega
          · have := bo x hx
            omega
        · have : ((i + 1 : Nat) : Int) * 2 ^ 123 = (i : Int) * 2 ^ 123 + 2 ^ 123 := by
            rw [Int.natCast_add, Int.add_mul]
            simp
          rw [this]
          omega
        · intro x hx
          obtain ⟨s1, s2⟩ := sm h
          obtain ⟨s3, s4⟩ := asm h
          rcases List.mem_cons.mp hx with rfl | hx
          · show 1 + a2 ≤ 3
            omega
          · exact s1 x hx
        · obtain ⟨s1, s2⟩ := sm h
          obtain ⟨s3, s4⟩ := asm h
          omega
    · obtain ⟨x6, x7, as, ps, st, rfl, hl, eS, tu, hpi, ki, fa, bo, st0, st1, sm⟩ := hm
      refine ⟨_, rfl, p, l, T + 3 + 12 * b.toNat, 2, rfl, hpi, by omega, hq _ (by omega) (by omega), fun so H4 so0 so1 hp4 k4 => ?_⟩
      have eS4 : H4 S = some (.lst (as.map V.ref)) := k4 _ _ nSp nSl eS
      refine ⟨_, rfl, S, _, rfl, .inl ⟨SqL.of eS4, fun U nU => ?_⟩⟩
      refine ⟨(by show 2 ≤ sizeLine; decide), fun W nW => ?_⟩
      have nWU : U ≠ W := fun e => by
        rw [← e, upd_same] at nW
        cases nW
      have nW4 : H4 W = none := by
        rw [upd_ne nWU.symm] at nW
        exact nW
      have k5 : Keep p l H (upd (upd H4 U (.tup (as.map V.ref))) W (.tup [.int so, .ref U])) := ((ki.trans k4).new nU).new nW
      have tu4 : TupsAt (upd (upd H4 U (.tup (as.map V.ref))) W (.tup [.int so, .ref U])) as (ps.map stepV) := ((tu.mono (k4.tups hpi)).mono (Tups.new nU)).mono (Tups.new nW)
      have hb : (b.toNat : Int) = b := Int.toNat_of_nonneg (by omega)
      refine q _ W so ps (((hp4.new nU).new nW).mono (by omega)) k5 ⟨U, as, upd_same, ?_, tu4⟩ so0 (by omega) ⟨by omega, by omega, fun x hx => ?_⟩ (by omega) fa (fun h => ?_) ((ki.trans k4).free hp4 nW4)
      · rw [upd_ne nWU, upd_same]
      · have h1 := bo x hx
        have h2 : (2 : Int) ^ 123 * 10 < 2 ^ 200 := by decide
        have h3 : (b.toNat : Int) * 2 ^ 123 ≤ 10 * 2 ^ 123 := Int.mul_le_mul_of_nonneg_right (by omega) (by decide)
        have h4 : (2 : Int) ^ 123 < 2 ^ 200 := by decide
        generalize (2 : Int) ^ 123 = y at *
        generalize (2 : Int) ^ 200 = y' at *
        omega
      · obtain ⟨s1, s2⟩ := sm h
        intro x hx
        have h1 := bo x hx
        exact ⟨by omega, s1 x hx⟩
theorem ok_length_of {f : Addr} {fd : FuncData} {k : Nat} (F : Fun K "length_of" "length_of" s_length_of f fd) (bi : Bi mg) : FnOk P w K mg base CX0 (k + 1) f fd P_length_of spLen := by
  refine F.ok sc_length_of (fun vs H Q E h => ?_) (fun cdv A outer s H vs Q E hr h => ?_)
  · obtain ⟨a, so, ps, rfl, _⟩ := h
    rfl
  · obtain ⟨a, so, ps, rfl, ⟨st, as, ea, es, tu⟩, gd, q⟩ := h
    refine ⟨_, (pss_one (ps_ret (pe_callB (cr_sum rfl) (by rfl) bi.m_sum (by decide +kernel) (pa_cons (pe_lc (own := [("thickness", 1), ("long", 2)]) (g := (gTup K 2 (gCons (gName 1) (gCons (gName 2) gNil)))) (tt := tYes) rfl sc_length_of.nd (pi_tup (pe_ix ix_tup (pv 0) pe_int (fun _ _ => rfl))) (blkOk_by (N := N_length_of) (sc := defScope s_length_of) (by decide +kernel)) (fun _ _ _ _ _ => (pg_tup rfl (pgs_cons (pg_name (i := 1) sc_length_of.nd rfl (.inl rfl) (.inr rfl)) (pgs_cons (pg_name (i := 2) sc_length_of.nd rfl (.inl rfl) (.inr rfl)) pgs_nil)))) (fun _ _ _ _ _ => pts_nil) (fun _ _ _ _ _ => (pv 2))) pa_nil)))), ?_⟩
    refine ⟨_, rfl, a, _, 1, _, rfl, rfl, SqT.of ea, atI_nat (j := 1) rfl, st, rfl, ⟨_, SqT.of es⟩, fun D nD => ?_⟩
    have hlen : as.length = ps.length := by
      have := tu.1
      rw [List.length_map] at this
      exact this
    refine lc_tup (xs := as.map V.ref) (fun i H' => Same H H' ∧ H' D = some (.lst ((ps.take i).map fun p => V.int p.2))) ⟨same_new (Same.refl H) nD, upd_same⟩ (fun i H' hi hm => SqT.of (hm.1 _ _ es)) (fun i x H' hx hm => ?_) (fun H' hm => ?_)
    · obtain ⟨sm, eD⟩ := hm
      obtain ⟨b, t, g, rfl, ep, eb⟩ := step_get tu hx
      refine ⟨b, _, rfl, SqT.of (sm _ _ eb), rfl, _, _, rfl, _, _, rfl, rfl, rfl, yesIte ?_⟩
      refine ⟨_, rfl, _, eD, ?_, same_mine sm nD, ?_⟩
      · rw [List.length_map, List.length_take]
        exact small1000 (by have := gd.2.1; omega)
      · rw [upd_same, take_map_succ _ ep]
    · obtain ⟨sm, eD⟩ := hm
      refine ⟨D, ps.map (fun p : Int × Int => p.2), rfl, SqL.of ?_, q _ sm⟩
      rw [eD, List.length_map, hlen, List.take_length, List.map_map]
      rfl
theorem ok_weight_of {f : Addr} {fd : FuncData} {k : Nat} (F : Fun K "weight_of" "weight_of" s_weight_of f fd) (bi : Bi mg) : FnOk P w K mg base CX0 (k + 1) f fd P_weight_of spWeight := by
  refine F.ok sc_weight_of (fun vs H Q E h => ?_) (fun cdv A outer s H vs Q E hr h => ?_)
  · obtain ⟨a, so, ps, rfl, _⟩ := h
    rfl
  · obtain ⟨a, so, ps, rfl, ⟨st, as, ea, es, tu⟩, gd, q⟩ := h
    refine ⟨_, (pss_one (ps_ret (pe_callB (cr_sum rfl) (by rfl) bi.m_sum (by decide +kernel) (pa_cons (pe_lc (own := [("thickness", 1), ("long", 2)]) (g := (gTup K 2 (gCons (gName 1) (gCons (gName 2) gNil)))) (tt := tYes) rfl sc_weight_of.nd (pi_tup (pe_ix ix_tup (pv 0) pe_int (fun _ _ => rfl))) (blkOk_by (N := N_weight_of) (sc := defScope s_weight_of) (by decide +kernel)) (fun _ _ _ _ _ => (pg_tup rfl (pgs_cons (pg_name (i := 1) sc_weight_of.nd rfl (.inl rfl) (.inr rfl)) (pgs_cons (pg_name (i := 2) sc_weight_of.nd rfl (.inl rfl) (.inr rfl)) pgs_nil)))) (fun _ _ _ _ _ => pts_nil) (fun _ _ _ _ _ => (pe_op op_mulW (pv 1) (pv 2)))) pa_nil)))), ?_⟩
    refine ⟨_, rfl, a, _, 1, _, rfl, rfl, SqT.of ea, atI_nat (j := 1) rfl, st, rfl, ⟨_, SqT.of es⟩, fun D nD => ?_⟩
    have hlen : as.length = ps.length := by
      have := tu.1
      rw [List.length_map] at this
      exact this
    refine lc_tup (xs := as.map V.ref) (fun i H' => Same H H' ∧ H' D = some (.lst ((ps.take i).map fun p => V.int (p.1 * p.2)))) ⟨same_new (Same.refl H) nD, upd_same⟩ (fun i H' hi hm => SqT.of (hm.1 _ _ es)) (fun i x H' hx hm => ?_) (fun H' hm => ?_)
    · obtain ⟨sm, eD⟩ := hm
      obtain ⟨b, t, g, rfl, ep, eb⟩ := step_get tu hx
      refine ⟨b, _, rfl, SqT.of (sm _ _ eb), rfl, _, _, rfl, _, _, rfl, rfl, rfl, yesIte ?_⟩
      refine ⟨_, rfl, _, rfl, _, _, rfl, rfl, mul_ok gd ep, _, eD, ?_, same_mine sm nD, ?_⟩
      · rw [List.length_map, List.length_take]
        exact small1000 (by have := gd.2.1; omega)
      · rw [upd_same, take_map_succ _ ep]
    · obtain ⟨sm, eD⟩ := hm
      refine ⟨D, ps.map (fun p : Int × Int => p.1 * p.2), rfl, SqL.of ?_, q _ sm⟩
      rw [eD, List.length_map, hlen, List.take_length, List.map_map]
      rfl
theorem ok_thick_at {f : Addr} {fd : FuncData} {k : Nat} (F : Fun K "thick_at" "thick_at" s_thick_at f fd) (bi : Bi mg) : FnOk P w K mg base CX0 (k + 1) f fd P_thick_at spThick := by
  refine F.ok sc_thick_at (fun vs H Q E h => ?_) (fun cdv A outer s H vs Q E hr h => ?_)
  · obtain ⟨a, so, ps, k, rfl, _⟩ := h
    rfl
  · obtain ⟨a, so, ps, k, rfl, ⟨st, as, ea, es, tu⟩, q⟩ := h
    refine ⟨_, (pss_cons (ps_for PassesOwn.never rfl (pi_tup (pe_ix ix_tup (pv 0) pe_int (fun _ _ => rfl))) (pg_tup rfl (pgs_cons (pg_name (i := 2) sc_thick_at.nd rfl (.inl rfl)) (pgs_cons (pg_name (i := 3) sc_thick_at.nd rfl (.inl rfl)) pgs_nil)))
      (pss_cons (ps_if (pt_cmpR op_lt (pv 1) (pv 3) (nomark _))
          (pss_one (ps_ret (pv 2)))
          pss_nil)
        (pss_one (ps_aug (i := 1) sc_thick_at.nd rfl (.inl rfl) (pv 3) ip_sub))))
    (pss_one (ps_ret pe_int))), ?_⟩
    have hlen : as.length = ps.length := by
      have := tu.1
      rw [List.length_map] at this
      exact this
    refine ⟨_, rfl, a, _, 1, _, rfl, rfl, SqT.of ea, atI_nat (j := 1) rfl, st, rfl, ⟨_, SqT.of es⟩, for_tup (xs := as.map V.ref) (fun i σ' H' => ∃ (x2 x3 : Option V) (kk : Int), σ' = [some (.ref a), some (.int kk), x2, x3] ∧ H' = H ∧ thickAt (ps.drop i) kk = thickAt ps k) ⟨_, _, k, rfl, rfl, rfl⟩ (fun i σ' H' hi hm => ?_) (fun i x σ' H' hx hm => ?_) (fun σ' H' hm => ?_)⟩
    · obtain ⟨x2, x3, kk, rfl, rfl, _⟩ := hm
      exact SqT.of es
    · obtain ⟨x2, x3, kk, rfl, rfl, et⟩ := hm
      obtain ⟨b, t, g, rfl, ep, eb⟩ := step_get tu hx
      refine ⟨b, _, rfl, SqT.of eb, rfl, _, _, rfl, _, _, rfl, rfl, ?_⟩
      have hd : ps.drop i = (t, g) :: ps.drop (i + 1) := by
        obtain ⟨hi, e⟩ := List.getElem?_eq_some_iff.mp ep
        rw [List.drop_eq_getElem_cons hi, e]
      rw [hd] at et
      have et : (if kk < g then t else thickAt (ps.drop (i + 1)) (kk - g)) = thickAt ps k := et
      refine ⟨_, rfl, _, rfl, _, _, rfl, rfl, _, rfl, ite2 (fun e => ?_) (fun e => ?_)⟩
      · rw [if_pos (of_decide_eq_true e)] at et
        rw [← et] at q
        exact ⟨_, rfl, q⟩
      · rw [if_neg (fun z => e (decide_eq_true z))] at et
        exact ⟨_, rfl, _, rfl, _, _, rfl, rfl, _, _, _, rfl, rfl, et⟩
    · obtain ⟨x2, x3, kk, rfl, rfl, et⟩ := hm
      rw [List.length_map, hlen, List.drop_length] at et
      rw [← et] at q
      exact q
theorem ok__law_table {f : Addr} {fd : FuncData} {k : Nat} (F : Fun K "_law_table" "_law_table" s__law_table f fd) (bi : Bi mg) : FnOk P w K mg base CX0 (k + 1) f fd P__law_table spTable := by
  refine F.ok sc__law_table (fun vs H Q E h => ?_) (fun cdv A outer s H vs Q E hr h => ?_)
  · obtain ⟨a, so, ps, rfl, _⟩ := h
    rfl
  · obtain ⟨a, so, ps, rfl, ⟨st, as, ea, es, tu⟩, gd, q⟩ := h
    refine ⟨_, (pss_cons (ps_par (i := 1) (j := 2) rfl sc__law_table.nd rfl rfl (by decide) rfl rfl (pa_cons (pe_lst pa_nil) (pa_cons pe_int pa_nil)) rfl)
    (pss_cons (ps_for PassesOwn.never rfl (pi_tup (pe_ix ix_tup (pv 0) pe_int (fun _ _ => rfl))) (pg_tup rfl (pgs_cons (pg_name (i := 3) sc__law_table.nd rfl (.inl rfl)) (pgs_cons (pg_name (i := 4) sc__law_table.nd rfl (.inl rfl)) pgs_nil)))
      (pss_cons (ps_expr (pe_bm PySem.F.plainAttrs_list PySem.F.slot_list_append PySem.F.type_list_append mt_append (pv 1) (pa_cons (pe_tup (pa_cons (pv 2) (pa_cons (pe_op op_add (pv 2) (pv 4)) (pa_cons (pv 3) pa_nil)))) pa_nil)))
        (pss_one (ps_set (i := 2) sc__law_table.nd rfl (.inl rfl) (pe_op op_add (pv 2) (pv 4))))))
    (pss_one (ps_ret (pv 1))))), ?_⟩
    have hlen : as.length = ps.length := by
      have := tu.1
      rw [List.length_map] at this
      exact this
    refine ⟨Nat.zero_le _, fun o no => ⟨_, _, rfl, ?_⟩⟩
    have ea' : upd H o (.lst []) a = some (.tup [.int so, .ref st]) := same_new (Same.refl H) no _ _ ea
    have es' : upd H o (.lst []) st = some (.tup (as.map V.ref)) := same_new (Same.refl H) no _ _ es
    refine ⟨_, rfl, a, _, 1, _, rfl, rfl, SqT.of ea', atI_nat (j := 1) rfl, st, rfl, ⟨_, SqT.of es'⟩, for_tup (xs := as.map V.ref) (fun i σ' H' => ∃ (x3 x4 : Option V) (bs : List Addr), σ' = [some (.ref a), some (.ref o), some (.int (0 + longs (ps.take i))), x3, x4] ∧ Same H H' ∧ H' o = some (.lst (bs.map V.ref)) ∧ TupsAt H' bs (((tableOf 0 ps).take i).map rowV)) ⟨_, _, [], rfl, same_new (Same.refl H) no, upd_same, TupsAt.nil⟩ (fun i σ' H' hi hm => ?_) (fun i x σ' H' hx hm => ?_) (fun σ' H' hm => ?_)⟩
    · obtain ⟨x2, x3, bs, rfl, sm, _⟩ := hm
      exact SqT.of (sm _ _ es)
    · obtain ⟨x2, x3, bs, rfl, sm, eo, tb⟩ := hm
      obtain ⟨b, t, g, rfl, ep, eb⟩ := step_get tu hx
      refine ⟨b, _, rfl, SqT.of (sm _ _ eb), rfl, _, _, rfl, _, _, rfl, rfl, ?_⟩
      refine ⟨_, rfl, .inl ⟨rfl, _, SqL.of eo⟩, _, rfl, _, rfl, _, rfl, _, _, rfl, rfl, _, rfl, (by show 3 ≤ sizeLine; decide), fun z nz => ?_⟩
      have eo' : upd H' z (.tup [.int (0 + longs (ps.take i)), .int (0 + longs (ps.take i) + g), .int t]) o = some (.lst (bs.map V.ref)) := by
        rw [upd_ne (ne_of_none eo nz)]
        exact eo
      have hbl : bs.length ≤ 10 := by
        have := tb.1
        rw [List.length_map, List.length_take, table_len] at this
        omega
      refine ⟨o, _, _, rfl, rfl, eo', ?_, ?_⟩
      · rw [List.length_map]
        exact small1000 (by omega)
      refine ⟨_, rfl, _, rfl, _, _, rfl, rfl, ?_⟩
      refine ⟨some (.int t), some (.int g), bs ++ [z], ?_, same_mine (same_new sm nz) no, ?_, ?_⟩
      · rw [longs_take ep, ← Int.add_assoc]
        rfl
      · rw [upd_same, List.map_append]
        rfl
      · rw [take_map_succ _ (table_get ps 0 i t g ep), longs_take ep, ← Int.add_assoc]
        exact ((tb.mono (Tups.new nz)).snoc upd_same).mono (Tups.ls eo')
    · obtain ⟨x2, x3, bs, rfl, sm, eo, tb⟩ := hm
      rw [List.length_map, hlen, ← table_len ps 0, List.take_length] at tb
      exact ⟨_, rfl, q _ o sm no ⟨bs, eo, tb⟩⟩
theorem ok__law_strong {f fT : Addr} {fd fdT : FuncData} (F : Fun K "_law_strong" "_law_strong" s__law_strong f fd) (bi : Bi mg) (C__law_table : Cal P w K mg base "_law_table" P__law_table 1 spTable fT fdT) : FnOk P w K mg base CX0 2 f fd P__law_strong spStrong := by
  refine F.ok sc__law_strong (fun vs H Q E h => ?_) (fun cdv A outer s H vs Q E hr h => ?_)
  · obtain ⟨a, so, ps, k, rfl, _⟩ := h
    rfl
  · obtain ⟨a, so, ps, k, rfl, hw, gd, k0, q⟩ := h
    refine ⟨_, (pss_one (ps_ret (pe_callB (cr_sum rfl) (by rfl) bi.m_sum (by decide +kernel) (pa_cons (pe_lc (own := [("_law_begin", 2), ("_law_end", 3), ("_law_strong_here", 4)]) (g := (gTup K 3 (gCons (gName 2) (gCons (gName 3) (gCons (gName 4) gNil))))) rfl sc__law_strong.nd (pi_list (pe_call (C__law_table.G.mono (by decide)) hr (by rfl) C__law_table.g C__law_table.kp C__law_table.b .nil pass0 (pa_cons (pv 0) pa_nil))) (blkOk_by (N := N__law_strong) (sc := defScope s__law_strong) (by decide +kernel)) (fun _ _ _ _ _ => (pg_tup rfl (pgs_cons (pg_name (i := 2) sc__law_strong.nd rfl (.inl rfl) (.inr rfl)) (pgs_cons (pg_name (i := 3) sc__law_strong.nd rfl (.inl rfl) (.inr rfl)) (pgs_cons (pg_name (i := 4) sc__law_strong.nd rfl (.inl rfl) (.inr rfl)) pgs_nil))))) (fun _ _ _ _ _ => (pts_one (pt_chain op_le op_lt (pv 2) (pv 1) (pv 3)))) (fun _ _ _ _ _ => (pv 4))) pa_nil)))), ?_⟩
    refine ⟨_, rfl, a, so, ps, rfl, hw, gd.2.1, fun H1 o sm no ⟨as, eo, tu⟩ => ?_⟩
    refine ⟨o, rfl, ⟨_, SqL.of eo⟩, fun D nD => ?_⟩
    have hlen : as.length = (tableOf 0 ps).length := by
      have := tu.1
      rw [List.length_map] at this
      exact this
    refine lc_list (xs := as.map V.ref) (fun i H' => Same H1 H' ∧ H' D = some (.lst ((((tableOf 0 ps).take i).filter (inRow k)).map fun t => V.int t.2.2))) ⟨same_new (Same.refl H1) nD, upd_same⟩ (fun i H' hi hm => SqL.of (hm.1 _ _ eo)) (fun i x H' hx hm => ?_) (fun H' hm => ?_)
    · obtain ⟨sm1, eD⟩ := hm
      obtain ⟨z, b, c, d, rfl, et, ez⟩ := row_get tu hx
      have hf : ((tableOf 0 ps).take (i + 1)).filter (inRow k) = ((tableOf 0 ps).take i).filter (inRow k) ++ (if inRow k (b, c, d) = true then [(b, c, d)] else []) := by
        rw [List.take_add_one, et, List.filter_append]
        show _ ++ List.filter (inRow k) [(b, c, d)] = _
        rw [List.filter_cons]
        rfl
      refine ⟨z, _, rfl, SqT.of (sm1 _ _ ez), rfl, _, _, rfl, _, _, rfl, _, _, rfl, rfl, rfl, ?_⟩
      refine ⟨_, rfl, _, rfl, _, _, rfl, rfl, _, rfl, ite2 (fun e => ?_) (fun e => ?_)⟩
      · refine ⟨_, rfl, _, _, rfl, rfl, _, rfl, ite2 (fun e2 => ?_) (fun e2 => ?_)⟩
        · refine ⟨_, rfl, _, eD, ?_, same_mine sm1 nD, ?_⟩
          · rw [List.length_map]
            refine small1000 (Nat.le_trans (List.length_filter_le _ _) ?_)
            rw [List.length_take, table_len]
            have := gd.2.1
            omega
          · rw [upd_same, hf, if_pos (show inRow k (b, c, d) = true from Bool.and_eq_true_iff.mpr ⟨e, e2⟩), List.map_append]
            rfl
        · refine ⟨sm1, ?_⟩
          rw [eD, hf, if_neg (show ¬ inRow k (b, c, d) = true from fun h => e2 (Bool.and_eq_true_iff.mp h).2), List.append_nil]
      · refine ⟨_, rfl, ?_⟩
        show if false = true then _ else _
        rw [if_neg Bool.false_ne_true]
        refine ⟨sm1, ?_⟩
        rw [eD, hf, if_neg (show ¬ inRow k (b, c, d) = true from fun h => e (Bool.and_eq_true_iff.mp h).1), List.append_nil]
    · obtain ⟨sm1, eD⟩ := hm
      have hq : strongOf k (tableOf 0 ps) = thickAt ps k := by
        rw [strong_table ps 0 k (fun p hp => (gd.2.2 p hp).2.2.1), if_neg (by omega), Int.sub_zero]
      rw [← hq] at q
      refine ⟨D, (((tableOf 0 ps).filter (inRow k)).map fun t : Int × Int × Int => t.2.2), rfl, SqL.of ?_, q _ (sm.trans sm1)⟩
      rw [eD, List.length_map, hlen, List.take_length, List.map_map]
      rfl
theorem ok__law_spots {f fT fB : Addr} {fd fdT fdB : FuncData} (F : Fun K "_law_spots" "_law_spots" s__law_spots f fd) (bi : Bi mg) (C__law_table : Cal P w K mg base "_law_table" P__law_table 1 spTable fT fdT) (C__law_draw : Cal P w K mg base "_law_draw" P__law_draw 2 spDraw fB fdB) : FnOk P w K mg base CX0 3 f fd P__law_spots spSpots := by
  refine F.ok sc__law_spots (fun vs H Q E h => ?_) (fun cdv A outer s H vs Q E hr h => ?_)
  · obtain ⟨p, l, T, a, so, ps, rfl, _⟩ := h
    rfl
  · obtain ⟨p, l, T, a, so, ps, rfl, hp, hT, hw, gd, q⟩ := h
    refine ⟨_, (pss_cons (ps_set (i := 2) sc__law_spots.nd rfl (.inl rfl) (pe_lst (pa_cons pe_int pa_nil)))
    (pss_cons (ps_for PassesOwn.never rfl (pi_list (pe_call (C__law_table.G.mono (by decide)) hr (by rfl) C__law_table.g C__law_table.kp C__law_table.b .nil pass0 (pa_cons (pv 1) pa_nil))) (pg_tup rfl (pgs_cons (pg_name (i := 3) sc__law_spots.nd rfl (.inl rfl)) (pgs_cons (pg_name (i := 4) sc__law_spots.nd rfl (.inl rfl)) (pgs_cons (pg_name (i := 5) sc__law_spots.nd rfl (.inl rfl)) pgs_nil))))
      (pss_one (ps_set (i := 2) sc__law_spots.nd rfl (.inl rfl) (pe_op op_cat (pv 2) (pe_lst (pa_cons (pv 3) (pa_cons (pe_callB (call_max2 rfl) (by rfl) bi.m_max (by decide +kernel) (pa_cons pe_int (pa_cons (pe_op op_sub (pv 4) pe_int) pa_nil))) (pa_cons (pv 4) (pa_cons (pe_op op_add (pv 4) pe_int) (pa_cons (pe_op op_add (pv 3) (pe_call (C__law_draw.G.mono (by decide)) hr (by rfl) C__law_draw.g C__law_draw.kp C__law_draw.b .nil pass0 (pa_cons (pv 0) (pa_cons (pe_op op_sub (pv 4) (pv 3)) pa_nil)))) pa_nil))))))))))
    (pss_one (ps_ret (pv 2))))), ?_⟩
    refine ⟨(by show 1 ≤ sizeLine; decide), fun F0 nF0 => ?_⟩
    have s1 : Same H (upd H F0 (.lst [.int 0])) := same_new (Same.refl H) nF0
    refine ⟨_, rfl, a, so, ps, rfl, Same.wisp s1 hw, gd.2.1, fun H1 o sm no ⟨as, eo, tu⟩ => ?_⟩
    have hp1 : Pot H1 p l T := by
      obtain ⟨ns, c, m, t, h1, h2, h3⟩ := hp
      exact ⟨ns, c, m, t, sm _ _ (s1 _ _ h1), sm _ _ (s1 _ _ h2), h3⟩
    have k1 : Keep p l H H1 := fun c u _ _ e => sm _ _ (s1 _ _ e)
    obtain ⟨nop, nol⟩ := (hp.new nF0).fresh no
    have hlen : as.length = ps.length := by
      have := tu.1
      rw [List.length_map, table_len] at this
      exact this
    refine ⟨o, rfl, ⟨_, SqL.of eo⟩, for_list (xs := as.map V.ref) (fun i σ' H' => ∃ (x3 x4 x5 : Option V) (F1 : Addr) (ns : List Int), σ' = [some (.ref p), some (.ref a), some (.ref F1), x3, x4, x5] ∧ Pot H' p l (T + i) ∧ Keep p l H H' ∧ Keep p l H1 H' ∧ H F1 = none ∧ H' F1 = some (.lst (ns.map V.int)) ∧ (∀ n ∈ ns, (0 : Int) ≤ n) ∧ ns.length = 1 + 5 * i) ⟨_, _, _, F0, [0], rfl, hp1, k1, Keep.refl, nF0, sm _ _ upd_same, (fun n hn => by simp at hn; omega), rfl⟩ (fun i σ' H' hi hm => ?_) (fun i x σ' H' hx hm => ?_) (fun σ' H' hm => ?_)⟩
    · obtain ⟨x3, x4, x5, F1, ns, rfl, hpi, ki, ki1, nF1, eF1, hns, hln⟩ := hm
      exact SqL.of (ki1 _ _ nop nol eo)
    · obtain ⟨x3, x4, x5, F1, ns, rfl, hpi, ki, ki1, nF1, eF1, hns, hln⟩ := hm
      obtain ⟨z, b, c, d, rfl, et, ez⟩ := row_get tu hx
      have hi : i < ps.length := by
        have := (List.getElem?_eq_some_iff.mp et).1
        rw [table_len] at this
        exact this
      obtain ⟨t, g, ep⟩ : ∃ t g, ps[i]? = some (t, g) := ⟨(ps[i]).1, (ps[i]).2, List.getElem?_eq_getElem hi⟩
      have e1 := table_get ps 0 i t g ep
      rw [e1] at et
      have et := Option.some.inj et
      have eb : 0 + longs (ps.take i) = b := congrArg Prod.fst et
      have ec : 0 + longs (ps.take (i + 1)) = c := congrArg (fun x => x.2.1) et
      rw [longs_take ep] at ec
      have hg := gd.2.2 (t, g) (List.mem_of_getElem? ep)
      have hb0 : 0 ≤ longs (ps.take i) := longs_nonneg fun x hx => (gd.2.2 x (List.mem_of_mem_take hx)).2.2.1
      have hcb : c - b = g := by omega
      have hg1 : 1 ≤ g := hg.2.2.1
      have hfit : CDivW 0 (c - b) := by
        rw [hcb]
        refine wide_div (b := 200) (by omega) ?_ (by decide) (by decide)
        have h2 : (g.natAbs : Int) = g := by omega
        have h3 : (g.natAbs : Int) < ((2 ^ 200 : Nat) : Int) := by rw [h2]; exact hg.2.2.2
        exact Int.ofNat_lt.mp h3
      obtain ⟨nzp, nzl⟩ := hp1.notP ez
      refine ⟨z, _, rfl, SqT.of (ki1 _ _ nzp nzl ez), rfl, _, _, rfl, _, _, rfl, _, _, rfl, rfl, ?_⟩
      refine ⟨_, rfl, _, rfl, _, rfl, _, _, rfl, rfl, _, _, rfl, _, rfl, _, rfl, _, _, rfl, rfl, _, rfl, _, rfl, _, rfl, _, rfl, _, _, rfl, rfl, p, l, T + i, c - b, rfl, hpi, by have := gd.2.1; omega, hfit, fun dr H2 d0 d1 hp2 k2 => ?_⟩
      refine ⟨_, _, rfl, rfl, (by show 5 ≤ sizeLine; decide), fun y ny => ?_⟩
      obtain ⟨nF1p, nF1l⟩ := hp.fresh nF1
      have eF2 : H2 F1 = some (.lst (ns.map V.int)) := k2 _ _ nF1p nF1l eF1
      have hps := gd.2.1
      refine ⟨F1, y, ns.map V.int, _, rfl, rfl, ?_, upd_same, ?_, fun F2 nF2 => ?_⟩
      · rw [upd_ne (ne_of_none eF2 ny)]
        exact eF2
      · rw [List.length_map, hln]
        exact Nat.le_of_lt (small1000 (by show 1 + 5 * i + 5 ≤ 1000; omega))
      have k3 : Keep p l H H2 := ki.trans k2
      have ny' : H y = none := k3.free hp2 ny
      have k4 : Keep p l H (upd H2 y (.lst [.int b, .int (if c - 1 > 0 then c - 1 else 0), .int c, .int (c + 1), .int (b + dr)])) := k3.new ny
      have hp4 := hp2.new (o := .lst [.int b, .int (if c - 1 > 0 then c - 1 else 0), .int c, .int (c + 1), .int (b + dr)]) ny
      refine ⟨_, _, _, F2, ns ++ [b, (if c - 1 > 0 then c - 1 else 0), c, c + 1, b + dr], rfl, hp4.new nF2, k4.new nF2, ((ki1.trans k2).new ny).new nF2, k4.free hp4 nF2, ?_, ?_, ?_⟩
      · rw [upd_same, List.map_append]
        rfl
      · intro n hn
        rcases List.mem_append.mp hn with h | h
        · exact hns n h
        · simp only [List.mem_cons, List.not_mem_nil, or_false] at h
          rcases h with rfl | rfl | rfl | rfl | rfl
          · omega
          · split <;> omega
          · omega
          · omega
          · omega
      · rw [List.length_append, hln]
        show 1 + 5 * i + 5 = 1 + 5 * (i + 1)
        omega
    · obtain ⟨x3, x4, x5, F1, ns, rfl, hpi, ki, ki1, nF1, eF1, hns, hln⟩ := hm
      rw [List.length_map, hlen] at hpi hln
      have hps := gd.2.1
      exact ⟨_, rfl, q _ F1 ns (hpi.mono (by omega)) ki nF1 eF1 hns (by omega)⟩
theorem ok__law_same {f fO : Addr} {fd fdO : FuncData} (F : Fun K "_law_same" "_law_same" s__law_same f fd) (gs : mg "_law_same" = some (.ref f)) (bs : Binds K fd P__law_same []) (bi : Bi mg) (C__law_whole : Cal P w K mg base "_law_whole" P__law_whole 1 spWhole fO fdO) : ∀ n : Nat, FnOk P w K mg base CX0 (n + 1) f fd P__law_same (spSame K n)
  | 0 => ⟨fun vs H Q E h => by
      obtain ⟨x, y, d, rfl, _⟩ := h
      rfl, fun A outer s H args us vs Q E _ _ _ _ h => by
      obtain ⟨x, y, d, rfl, _, h0, _⟩ := h
      exact absurd h0 (Nat.not_lt_zero _)⟩
  | n + 1 => by
    have C__law_same : Cal P w K mg base "_law_same" P__law_same (n + 1) (spSame K n) f fd := ⟨ok__law_same F gs bs bi C__law_whole n, gs, F.kp, bs⟩
    refine F.ok sc__law_same (fun vs H Q E h => ?_) (fun cdv A outer s H vs Q E hr h => ?_)
    · obtain ⟨x, y, d, rfl, _⟩ := h
      rfl
    · obtain ⟨x, y, d, rfl, ti, hd, dx, dy, q⟩ := h
      have hu64 := hr.units
      refine ⟨_, (pss_cons (ps_if (pt_val (pe_callB call_isi (by rfl) bi.m_isinstance (by decide +kernel) (pa_cons (pv 1) (pa_cons (pe_bltn (v := .ty "tuple") (by rfl) bi.m_tuple (by decide +kernel) rfl) pa_nil))))
      (pss_cons (ps_if (pw_or (pt_not (pt_val (pe_callB call_isi (by rfl) bi.m_isinstance (by decide +kernel) (pa_cons (pv 0) (pa_cons (pe_bltn (v := .ty "tuple") (by rfl) bi.m_tuple (by decide +kernel) rfl) pa_nil))))) (pw_or1 (pt_cmpR op_ne (pe_callB call_len_seq (by rfl) bi.m_len (by decide +kernel) (pa_cons (pv 0) pa_nil)) (pe_callB call_len_seq (by rfl) bi.m_len (by decide +kernel) (pa_cons (pv 1) pa_nil)) (nomark _)))).pt
          (pss_one (ps_ret pe_bl))
          pss_nil)
        (pss_one (ps_ret (pe_callB (cr_all rfl) (by rfl) bi.m_all (by decide +kernel) (pa_cons (pe_lc (own := [("_law_one", 2), ("_law_other", 3)]) (g := (gTup K 2 (gCons (gName 2) (gCons (gName 3) gNil)))) (tt := tYes) rfl sc__law_same.nd (RZ.pi_zipA (by rfl) bi.m_zip (pa_cons (pv 0) (pa_cons (pv 1) pa_nil))) (blkOk_by (N := N__law_same) (sc := defScope s__law_same) (by decide +kernel)) (fun _ _ _ _ _ => (pg_tup rfl (pgs_cons (pg_name (i := 2) sc__law_same.nd rfl (.inl rfl) (.inr rfl)) (pgs_cons (pg_name (i := 3) sc__law_same.nd rfl (.inl rfl) (.inr rfl)) pgs_nil)))) (fun _ _ _ _ _ => pts_nil) (fun _ _ _ _ _ => (pe_call (C__law_same.G.mono (by omega)) hr (by rfl) C__law_same.g C__law_same.kp C__law_same.b .nil pass0 (pa_cons (pv 2) (pa_cons (pv 3) pa_nil))))) pa_nil)))))
      pss_nil)
    (pss_cons (ps_if (pt_val (pe_call (C__law_whole.G.mono (by omega)) hr (by rfl) C__law_whole.g C__law_whole.kp C__law_whole.b .nil pass0 (pa_cons (pv 1) pa_nil)))
      (pss_one (ps_ret (pe_and (pe_call (C__law_whole.G.mono (by omega)) hr (by rfl) C__law_whole.g C__law_whole.kp C__law_whole.b .nil pass0 (pa_cons (pv 0) pa_nil)) (pe_one (pe_cmpR (op_eqD hu64) (pv 0) (pv 1) (nomark _))))))
      pss_nil)
    (pss_cons (ps_if (pw_or (pt_cmpR op_isN (pv 1) pe_non (nomark _)) (pw_or1 (pt_val (pe_callB call_isi (by rfl) bi.m_isinstance (by decide +kernel) (pa_cons (pv 1) (pa_cons (pe_bltn (v := .ty "bool") (by rfl) bi.m_bool (by decide +kernel) rfl) pa_nil)))))).pt
      (pss_one (ps_ret (pe_and (pe_cmpR op_eq (pe_callB call_isi (by rfl) bi.m_isinstance (by decide +kernel) (pa_cons (pv 0) (pa_cons (pe_bltn (v := .ty "bool") (by rfl) bi.m_bool (by decide +kernel) rfl) pa_nil))) (pe_callB call_isi (by rfl) bi.m_isinstance (by decide +kernel) (pa_cons (pv 1) (pa_cons (pe_bltn (v := .ty "bool") (by rfl) bi.m_bool (by decide +kernel) rfl) pa_nil))) (nomark _)) (pe_one (pe_cmpR (op_eqD hu64) (pv 0) (pv 1) (nomark _))))))
      pss_nil)
    (pss_one (ps_ret (pe_and (pe_callB call_isi (by rfl) bi.m_isinstance (by decide +kernel) (pa_cons (pv 0) (pa_cons (pe_bltn (v := .ty "str") (by rfl) bi.m_str (by decide +kernel) rfl) pa_nil))) (pe_one (pe_cmpR (op_eqD hu64) (pv 0) (pv 1) (nomark _))))))))), ?_⟩
      cases ti with
      | int i =>
        cases dx
        cases dy
        refine ⟨_, rfl, _, _, _, _, false, rfl, ClsV.ty "tuple", .base (.int i), kit_ty (by decide +kernel), false, rfl, ?_⟩
        refine iteF ?_
        refine ⟨_, rfl, i, rfl, true, rfl, ?_⟩
        refine iteT ?_
        refine ⟨_, rfl, i, rfl, true, rfl, ?_⟩
        refine iteT ?_
        refine ⟨_, rfl, _, rfl, .int i, .int i, .int i, .int i, rfl, rfl, ?_⟩
        have e : PyData.eqv (.int i) (.int i) = true := by
          show (i == i) = true
          exact beq_self_eq_true i
        rw [e]
        exact q _ (Same.refl H)
      | @tup ds hds hl =>
        cases dx with
        | @tup a xs _ sa da =>
        cases dy with
        | @tup b ys _ sb db =>
        refine ⟨_, rfl, _, _, _, _, true, rfl, ClsV.ty "tuple", sqt_ty sb, kit_ty (by decide +kernel), true, rfl, ?_⟩
        refine iteT ?_
        refine ⟨_, rfl, _, _, _, _, true, rfl, ClsV.ty "tuple", sqt_ty sa, kit_ty (by decide +kernel), true, rfl, ?_⟩
        refine iteNT ?_
        refine ⟨_, rfl, a, _, rfl, .inr sa, _, rfl, b, _, rfl, .inr sb, rfl, _, rfl, ?_⟩
        have la := DpAll.len da
        have lb := DpAll.len db
        rw [show V.int (xs.length : Int) = V.int (ys.length : Int) by rw [la, lb]]
        refine iteNS rfl ?_
        refine ⟨_, rfl, _, rfl, a, b, xs, ys, rfl, .inr ⟨sa, sb, fun D nD => ?_⟩⟩
        refine lcZip (xs := xs) (ys := ys) (by omega) (fun i H' => Same H H' ∧ H' D = some (.lst ((List.replicate i true).map V.bl)) ∧ i ≤ xs.length) ⟨same_new (Same.refl H) nD, upd_same, Nat.zero_le _⟩ (fun i H' hm => ⟨Same.sqt hm.1 sa, Same.sqt hm.1 sb⟩) (fun i x y T H' hx hy nT hm => ?_) (fun H' hm => ?_)
        · obtain ⟨sm, eD, hi⟩ := hm
          have hix : i < xs.length := (List.getElem?_eq_some_iff.mp hx).1
          obtain ⟨d1, e1, p1⟩ := DpAll.at da hx
          obtain ⟨d2, e2, p2⟩ := DpAll.at db hy
          have ed : d1 = d2 := Option.some.inj (e1.symm.trans e2)
          subst ed
          have md := List.mem_of_getElem? e1
          have sT : Same H (upd H' T (.tup [x, y])) := same_new sm nT
          have eDT : upd H' T (.tup [x, y]) D = some (.lst ((List.replicate i true).map V.bl)) := by
            rw [upd_ne (ne_of_none eD nT)]
            exact eD
          have dd : d1.depth < n := by
            have h1 := depth_mem md
            have h2 : PyData.depthAll ds + 1 < n + 1 := hd
            omega
          refine ⟨T, _, rfl, SqT.of upd_same, rfl, _, _, rfl, _, _, rfl, rfl, rfl, yesIte ?_⟩
          refine ⟨_, rfl, _, rfl, x, y, d1, rfl, hds d1 md, dd, Dp.same sT d1 p1, Dp.same sT d1 p2, fun H2 s2 => ?_⟩
          refine ⟨_, s2 _ _ eDT, ?_, ?_, ?_, hix⟩
          · rw [List.length_map, List.length_replicate]
            exact small1000 (by omega)
          · exact same_mine (sT.trans s2) nD
          · rw [upd_same, List.replicate_succ', List.map_append]
            rfl
        · obtain ⟨sm, eD, _⟩ := hm
          refine ⟨D, _, rfl, SqL.of eD, ?_⟩
          rw [show (List.replicate xs.length true).all id = true by simp]
          exact q _ sm
theorem ok_head {f : Addr} {fd : FuncData} {k : Nat} (F : Fun K "head" "head" s_head f fd) (bi : Bi mg) : FnOk P w K mg base CX0 (k + 1) f fd P_head spHead := by
  refine F.ok sc_head (fun vs H Q E h => ?_) (fun cdv A outer s H vs Q E hr h => ?_)
  · obtain ⟨a, so, ps, k, rfl, _⟩ := h
    rfl
  · obtain ⟨a, so, ps, k, rfl, ⟨st, as, ea, es, tu⟩, hl, q⟩ := h
    refine ⟨_, (pss_cons (ps_asg (pv 0) (pg_tup rfl (pgs_cons (pg_name (i := 2) sc_head.nd rfl (.inl rfl)) (pgs_cons (pg_name (i := 3) sc_head.nd rfl (.inl rfl)) pgs_nil))))
    (pss_cons (ps_set (i := 4) sc_head.nd rfl (.inl rfl) (pe_lst pa_nil))
    (pss_cons (ps_for PassesOwn.never rfl (pi_tup (pv 3)) (pg_tup rfl (pgs_cons (pg_name (i := 5) sc_head.nd rfl (.inl rfl)) (pgs_cons (pg_name (i := 6) sc_head.nd rfl (.inl rfl)) pgs_nil)))
      (C8.pss_cut (ps_if (pt_cmpR op_gt (pv 1) pe_int (nomark _))
          (pss_one (ps_expr (pe_bm PySem.F.plainAttrs_list PySem.F.slot_list_append PySem.F.type_list_append mt_append (pv 4) (pa_cons (pe_tup (pa_cons (pv 5) (pa_cons (pe_callB (call_min2 rfl) (by rfl) bi.m_min (by decide +kernel) (pa_cons (pv 6) (pa_cons (pv 1) pa_nil))) pa_nil))) pa_nil))))
          pss_nil)
        (pss_one (ps_aug (i := 1) sc_head.nd rfl (.inl rfl) (pv 6) ip_sub))))
    (pss_one (ps_ret (pe_tup (pa_cons (pv 2) (pa_cons (pe_callTy call_tuple_of (by rfl) bi.m_tuple (by decide +kernel) (pa_cons (pv 4) pa_nil)) pa_nil)))))))), ?_⟩
    have hlen : as.length = ps.length := by
      have := tu.1
      rw [List.length_map] at this
      exact this
    refine ⟨_, rfl, a, _, rfl, SqT.of ea, rfl, _, _, rfl, _, _, rfl, rfl, ?_⟩
    refine ⟨Nat.zero_le _, fun o no => ?_⟩
    have es' : upd H o (.lst []) st = some (.tup (as.map V.ref)) := same_new (Same.refl H) no _ _ es
    refine ⟨_, rfl, st, rfl, ⟨_, SqT.of es'⟩, for_tup (xs := as.map V.ref) (fun i σ' H' => ∃ (x5 x6 : Option V) (kk : Int) (bs : List Addr) (qs : List (Int × Int)), σ' = [some (.ref a), some (.int kk), some (.int so), some (.ref st), some (.ref o), x5, x6] ∧ Same H H' ∧ H' o = some (.lst (bs.map V.ref)) ∧ TupsAt H' bs (qs.map stepV) ∧ qs.length ≤ i ∧ qs ++ headOf (ps.drop i) kk = headOf ps k) ⟨_, _, k, [], [], rfl, same_new (Same.refl H) no, upd_same, TupsAt.nil, Nat.le_refl _, rfl⟩ (fun i σ' H' hi hm => ?_) (fun i x σ' H' hx hm => ?_) (fun σ' H' hm => ?_)⟩
    · obtain ⟨x5, x6, kk, bs, qs, rfl, sm, _⟩ := hm
      exact SqT.of (sm _ _ es)
    · obtain ⟨x5, x6, kk, bs, qs, rfl, sm, eo, tb, hq, et⟩ := hm
      obtain ⟨b, t, g, rfl, ep, eb⟩ := step_get tu hx
      have hd : ps.drop i = (t, g) :: ps.drop (i + 1) := by
        obtain ⟨hi, e⟩ := List.getElem?_eq_some_iff.mp ep
        rw [List.drop_eq_getElem_cons hi, e]
      rw [hd] at et
      have et : qs ++ ((if 0 < kk then [(t, if kk < g then kk else g)] else []) ++ headOf (ps.drop (i + 1)) (kk - g)) = headOf ps k := et
      have hips : i < ps.length := (List.getElem?_eq_some_iff.mp ep).1
      refine ⟨b, _, rfl, SqT.of (sm _ _ eb), rfl, _, _, rfl, _, _, rfl, rfl, ?_⟩
      refine ⟨fun σ' H' => ∃ (bs : List Addr) (qs : List (Int × Int)), σ' = [some (.ref a), some (.int kk), some (.int so), some (.ref st), some (.ref o), some (.int t), some (.int g)] ∧ Same H H' ∧ H' o = some (.lst (bs.map V.ref)) ∧ TupsAt H' bs (qs.map stepV) ∧ qs.length ≤ i + 1 ∧ qs ++ headOf (ps.drop (i + 1)) (kk - g) = headOf ps k, ?_, fun σ' H' hm => ?_⟩
      · refine ⟨_, rfl, _, _, rfl, rfl, _, rfl, ite2 (fun e => ?_) (fun e => ?_)⟩
        · refine ⟨_, rfl, .inl ⟨rfl, _, SqL.of eo⟩, _, rfl, _, rfl, _, rfl, _, _, rfl, (by show 2 ≤ sizeLine; decide), fun z nz => ?_⟩
          have eo' : upd H' z (.tup [.int t, .int (if kk < g then kk else g)]) o = some (.lst (bs.map V.ref)) := by
            rw [upd_ne (ne_of_none eo nz)]
            exact eo
          refine ⟨o, _, _, rfl, rfl, eo', ?_, ?_⟩
          · have := tb.1
            rw [List.length_map] at this
            rw [List.length_map]
            exact small1000 (by omega)
          refine ⟨bs ++ [z], qs ++ [(t, if kk < g then kk else g)], rfl, same_mine (same_new sm nz) no, ?_, ?_, ?_, ?_⟩
          · rw [upd_same, List.map_append]
            rfl
          · rw [List.map_append]
            exact ((tb.mono (Tups.new nz)).snoc upd_same).mono (Tups.ls eo')
          · rw [List.length_append]
            show qs.length + 1 ≤ i + 1
            omega
          · rw [if_pos (of_decide_eq_true e)] at et
            rw [← et, List.append_assoc]
        · rw [if_neg (fun z => e (decide_eq_true z)), List.nil_append] at et
          exact ⟨bs, qs, rfl, sm, eo, tb, by omega, et⟩
      · obtain ⟨bs, qs, rfl, sm, eo, tb, hq, et⟩ := hm
        exact ⟨_, rfl, _, rfl, _, _, rfl, rfl, _, _, _, bs, qs, rfl, sm, eo, tb, hq, et⟩
    · obtain ⟨x5, x6, kk, bs, qs, rfl, sm, eo, tb, hq, et⟩ := hm
      rw [List.length_map, hlen, List.drop_length] at et
      have et : qs ++ [] = headOf ps k := et
      rw [List.append_nil] at et
      subst et
      refine ⟨_, rfl, _, rfl, o, _, rfl, .inl ⟨SqL.of eo, fun U nU => ?_⟩⟩
      refine ⟨(by show 2 ≤ sizeLine; decide), fun W nW => ?_⟩
      have nWU : U ≠ W := fun e => by
        rw [← e, upd_same] at nW
        cases nW
      have s1 : Same H (upd H' U (.tup (bs.map V.ref))) := same_new sm nU
      refine q _ W (same_new s1 nW) (Same.free s1 nW) ⟨U, bs, upd_same, ?_, (tb.mono (Tups.new nU)).mono (Tups.new nW)⟩
      rw [upd_ne nWU, upd_same]
theorem ok_tail {f : Addr} {fd : FuncData} {k : Nat} (F : Fun K "tail" "tail" s_tail f fd) (bi : Bi mg) : FnOk P w K mg base CX0 (k + 1) f fd P_tail spTail := by
  refine F.ok sc_tail (fun vs H Q E h => ?_) (fun cdv A outer s H vs Q E hr h => ?_)
  · obtain ⟨a, so, ps, k, rfl, _⟩ := h
    rfl
  · obtain ⟨a, so, ps, k, rfl, ⟨st, as, ea, es, tu⟩, hl, q⟩ := h
    refine ⟨_, (pss_cons (ps_asg (pv 0) (pg_tup rfl (pgs_cons (pg_name (i := 2) sc_tail.nd rfl (.inl rfl)) (pgs_cons (pg_name (i := 3) sc_tail.nd rfl (.inl rfl)) pgs_nil))))
    (pss_cons (ps_set (i := 4) sc_tail.nd rfl (.inl rfl) (pe_lst pa_nil))
    (pss_cons (ps_for PassesOwn.never rfl (pi_tup (pv 3)) (pg_tup rfl (pgs_cons (pg_name (i := 5) sc_tail.nd rfl (.inl rfl)) (pgs_cons (pg_name (i := 6) sc_tail.nd rfl (.inl rfl)) pgs_nil)))
      (C8.pss_cut (ps_if (pt_cmpR op_lt (pv 1) (pv 6) (nomark _))
          (pss_one (ps_expr (pe_bm PySem.F.plainAttrs_list PySem.F.slot_list_append PySem.F.type_list_append mt_append (pv 4) (pa_cons (pe_tup (pa_cons (pv 5) (pa_cons (pe_op op_sub (pv 6) (pe_callB (call_max2 rfl) (by rfl) bi.m_max (by decide +kernel) (pa_cons (pv 1) (pa_cons pe_int pa_nil)))) pa_nil))) pa_nil))))
          pss_nil)
        (pss_one (ps_aug (i := 1) sc_tail.nd rfl (.inl rfl) (pv 6) ip_sub))))
    (pss_one (ps_ret (pe_tup (pa_cons (pv 2) (pa_cons (pe_callTy call_tuple_of (by rfl) bi.m_tuple (by decide +kernel) (pa_cons (pv 4) pa_nil)) pa_nil)))))))), ?_⟩
    have hlen : as.length = ps.length := by
      have := tu.1
      rw [List.length_map] at this
      exact this
    refine ⟨_, rfl, a, _, rfl, SqT.of ea, rfl, _, _, rfl, _, _, rfl, rfl, ?_⟩
    refine ⟨Nat.zero_le _, fun o no => ?_⟩
    have es' : upd H o (.lst []) st = some (.tup (as.map V.ref)) := same_new (Same.refl H) no _ _ es
    refine ⟨_, rfl, st, rfl, ⟨_, SqT.of es'⟩, for_tup (xs := as.map V.ref) (fun i σ' H' => ∃ (x5 x6 : Option V) (kk : Int) (bs : List Addr) (qs : List (Int × Int)), σ' = [some (.ref a), some (.int kk), some (.int so), some (.ref st), some (.ref o), x5, x6] ∧ Same H H' ∧ H' o = some (.lst (bs.map V.ref)) ∧ TupsAt H' bs (qs.map stepV) ∧ qs.length ≤ i ∧ qs ++ tailOf (ps.drop i) kk = tailOf ps k) ⟨_, _, k, [], [], rfl, same_new (Same.refl H) no, upd_same, TupsAt.nil, Nat.le_refl _, rfl⟩ (fun i σ' H' hi hm => ?_) (fun i x σ' H' hx hm => ?_) (fun σ' H' hm => ?_)⟩
    · obtain ⟨x5, x6, kk, bs, qs, rfl, sm, _⟩ := hm
      exact SqT.of (sm _ _ es)
    · obtain ⟨x5, x6, kk, bs, qs, rfl, sm, eo, tb, hq, et⟩ := hm
      obtain ⟨b, t, g, rfl, ep, eb⟩ := step_get tu hx
      have hd : ps.drop i = (t, g) :: ps.drop (i + 1) := by
        obtain ⟨hi, e⟩ := List.getElem?_eq_some_iff.mp ep
        rw [List.drop_eq_getElem_cons hi, e]
      rw [hd] at et
      have et : qs ++ ((if kk < g then [(t, g - (if 0 > kk then 0 else kk))] else []) ++ tailOf (ps.drop (i + 1)) (kk - g)) = tailOf ps k := et
      have hips : i < ps.length := (List.getElem?_eq_some_iff.mp ep).1
      refine ⟨b, _, rfl, SqT.of (sm _ _ eb), rfl, _, _, rfl, _, _, rfl, rfl, ?_⟩
      refine ⟨fun σ' H' => ∃ (bs : List Addr) (qs : List (Int × Int)), σ' = [some (.ref a), some (.int kk), some (.int so), some (.ref st), some (.ref o), some (.int t), some (.int g)] ∧ Same H H' ∧ H' o = some (.lst (bs.map V.ref)) ∧ TupsAt H' bs (qs.map stepV) ∧ qs.length ≤ i + 1 ∧ qs ++ tailOf (ps.drop (i + 1)) (kk - g) = tailOf ps k, ?_, fun σ' H' hm => ?_⟩
      · refine ⟨_, rfl, _, rfl, _, _, rfl, rfl, _, rfl, ite2 (fun e => ?_) (fun e => ?_)⟩
        · refine ⟨_, rfl, .inl ⟨rfl, _, SqL.of eo⟩, _, rfl, _, rfl, _, rfl, _, _, rfl, _, _, rfl, rfl, (by show 2 ≤ sizeLine; decide), fun z nz => ?_⟩
          have eo' : upd H' z (.tup [.int t, .int (g - (if 0 > kk then 0 else kk))]) o = some (.lst (bs.map V.ref)) := by
            rw [upd_ne (ne_of_none eo nz)]
            exact eo
          refine ⟨o, _, _, rfl, rfl, eo', ?_, ?_⟩
          · have := tb.1
            rw [List.length_map] at this
            rw [List.length_map]
            exact small1000 (by omega)
          refine ⟨bs ++ [z], qs ++ [(t, g - (if 0 > kk then 0 else kk))], rfl, same_mine (same_new sm nz) no, ?_, ?_, ?_, ?_⟩
          · rw [upd_same, List.map_append]
            rfl
          · rw [List.map_append]
            exact ((tb.mono (Tups.new nz)).snoc upd_same).mono (Tups.ls eo')
          · rw [List.length_append]
            show qs.length + 1 ≤ i + 1
            omega
          · rw [if_pos (of_decide_eq_true e)] at et
            rw [← et, List.append_assoc]
        · rw [if_neg (fun z => e (decide_eq_true z)), List.nil_append] at et
          exact ⟨bs, qs, rfl, sm, eo, tb, by omega, et⟩
      · obtain ⟨bs, qs, rfl, sm, eo, tb, hq, et⟩ := hm
        exact ⟨_, rfl, _, rfl, _, _, rfl, rfl, _, _, _, bs, qs, rfl, sm, eo, tb, hq, et⟩
    · obtain ⟨x5, x6, kk, bs, qs, rfl, sm, eo, tb, hq, et⟩ := hm
      rw [List.length_map, hlen, List.drop_length] at et
      have et : qs ++ [] = tailOf ps k := et
      rw [List.append_nil] at et
      subst et
      refine ⟨_, rfl, _, rfl, o, _, rfl, .inl ⟨SqL.of eo, fun U nU => ?_⟩⟩
      refine ⟨(by show 2 ≤ sizeLine; decide), fun W nW => ?_⟩
      have nWU : U ≠ W := fun e => by
        rw [← e, upd_same] at nW
        cases nW
      have s1 : Same H (upd H' U (.tup (bs.map V.ref))) := same_new sm nU
      refine q _ W (same_new s1 nW) (Same.free s1 nW) ⟨U, bs, upd_same, ?_, (tb.mono (Tups.new nU)).mono (Tups.new nW)⟩
      rw [upd_ne nWU, upd_same]
theorem ok__law_due {f fT : Addr} {fd fdT : FuncData} (F : Fun K "_law_due" "_law_due" s__law_due f fd) (bi : Bi mg) (C__law_table : Cal P w K mg base "_law_table" P__law_table 1 spTable fT fdT) : FnOk P w K mg base CX0 2 f fd P__law_due spTail := by
  refine F.ok sc__law_due (fun vs H Q E h => ?_) (fun cdv A outer s H vs Q E hr h => ?_)
  · obtain ⟨a, so, ps, k, rfl, _⟩ := h
    rfl
  · obtain ⟨a, so, ps, k, rfl, hw, hl, q⟩ := h
    refine ⟨_, (pss_cons (ps_setLc (i := 2) (own := [("_law_one", 3)]) (g := (gName 3)) (tt := (tTest (tOp (rI0 fun i j => V.bl (decide (j < i))) (tOp (rIxT K) (tVar 3) (tC (.int 1))) (tVar 1)))) rfl sc__law_due.nd rfl rfl (sw_true rfl rfl rfl (by decide +kernel)) (pi_list (pe_call (C__law_table.G.mono (by decide)) hr (by rfl) C__law_table.g C__law_table.kp C__law_table.b .nil pass0 (pa_cons (pv 0) pa_nil))) (blkOk_by (N := N__law_due) (sc := defScope s__law_due) (by decide +kernel)) (fun _ _ _ _ _ => (pg_name (i := 3) sc__law_due.nd rfl (.inl rfl) (.inr rfl))) (fun _ _ _ _ _ => (pts_one (pt_cmpR op_gt (pe_ix ix_tup (pv 3) pe_int (fun _ _ => rfl)) (pv 1) (nomark _)))) (fun _ _ _ _ _ => (pv 3)))
    (pss_one (ps_ret (pe_tup (pa_cons (pe_ix ix_tup (pv 0) pe_int (fun _ _ => rfl)) (pa_cons (pe_callTy call_tuple_of (by rfl) bi.m_tuple (by decide +kernel) (pa_cons (pe_lc (own := [("_law_begin", 4), ("_law_end", 5), ("_law_strong_here", 6)]) (g := (gTup K 3 (gCons (gName 4) (gCons (gName 5) (gCons (gName 6) gNil))))) (tt := tYes) rfl sc__law_due.nd (pi_list (pv 2)) (blkOk_by (N := N__law_due) (sc := defScope s__law_due) (by decide +kernel)) (fun _ _ _ _ _ => (pg_tup rfl (pgs_cons (pg_name (i := 4) sc__law_due.nd rfl (.inl rfl) (.inr rfl)) (pgs_cons (pg_name (i := 5) sc__law_due.nd rfl (.inl rfl) (.inr rfl)) (pgs_cons (pg_name (i := 6) sc__law_due.nd rfl (.inl rfl) (.inr rfl)) pgs_nil))))) (fun _ _ _ _ _ => pts_nil) (fun _ _ _ _ _ => (pe_tup (pa_cons (pv 6) (pa_cons (pe_op op_sub (pv 5) (pe_callB (call_max2 rfl) (by rfl) bi.m_max (by decide +kernel) (pa_cons (pv 4) (pa_cons (pv 1) pa_nil)))) pa_nil))))) pa_nil)) pa_nil)))))), ?_⟩
    have hw' := hw
    obtain ⟨st, as0, ea, _, _⟩ := hw'
    refine ⟨_, rfl, a, so, ps, rfl, hw, hl, fun H1 o sm no ⟨as, eo, tu⟩ => ?_⟩
    refine ⟨o, rfl, ⟨_, SqL.of eo⟩, fun D nD => ?_⟩
    have hlen : as.length = (tableOf 0 ps).length := by
      have := tu.1
      rw [List.length_map] at this
      exact this
    refine lc_list (xs := as.map V.ref) (fun i H' => Same H1 H' ∧ ∃ bs, H' D = some (.lst (bs.map V.ref)) ∧ TupsAt H' bs ((((tableOf 0 ps).take i).filter fun t => decide (k < t.2.1)).map rowV)) ⟨same_new (Same.refl H1) nD, [], upd_same, TupsAt.nil⟩ (fun i H' hi hm => SqL.of (hm.1 _ _ eo)) (fun i x H' hx hm => ?_) (fun H' hm => ?_)
    · obtain ⟨sm1, bs, eD, tb⟩ := hm
      obtain ⟨z, b, c, d, rfl, et, ez⟩ := row_get tu hx
      have hf := filter_take_succ (fun t : Int × Int × Int => decide (k < t.2.1)) et
      have ez' := sm1 _ _ ez
      refine ⟨rfl, _, rfl, z, _, 1, _, rfl, rfl, SqT.of ez', atI_nat (j := 1) rfl, _, rfl, _, _, rfl, rfl, _, rfl, ite2 (fun e => ?_) (fun e => ?_)⟩
      · have hbl : bs.length ≤ 10 := by
          have h1 := tb.1
          rw [List.length_map] at h1
          have h2 := List.length_filter_le (fun t : Int × Int × Int => decide (k < t.2.1)) ((tableOf 0 ps).take i)
          rw [List.length_take, table_len] at h2
          omega
        refine ⟨_, rfl, _, eD, ?_, same_mine sm1 nD, bs ++ [z], ?_, ?_⟩
        · rw [List.length_map]
          exact small1000 (by omega)
        · rw [upd_same, List.map_append]
          rfl
        · rw [hf, if_pos e, List.map_append]
          exact (tb.snoc ez').mono (Tups.ls eD)
      · refine ⟨sm1, bs, eD, ?_⟩
        rw [hf, if_neg e, List.append_nil]
        exact tb
    · obtain ⟨sm1, bs, eD, tb⟩ := hm
      rw [List.length_map, hlen, List.take_length] at tb
      have htl := tail_table ps 0 k
      rw [Int.sub_zero] at htl
      have hfl : ((tableOf 0 ps).filter fun t => decide (k < t.2.1)).length ≤ 10 := by
        have h2 := List.length_filter_le (fun t : Int × Int × Int => decide (k < t.2.1)) (tableOf 0 ps)
        rw [table_len] at h2
        omega
      generalize ((tableOf 0 ps).filter fun t => decide (k < t.2.1)) = ts at tb htl hfl
      have hlb : bs.length = ts.length := by
        have := tb.1
        rw [List.length_map] at this
        exact this
      have s2 : Same H H' := sm.trans sm1
      refine ⟨_, rfl, a, _, 0, _, rfl, rfl, SqT.of (s2 _ _ ea), atI_nat (j := 0) rfl, ?_⟩
      refine ⟨_, rfl, D, rfl, ⟨_, SqL.of eD⟩, fun D2 nD2 => ?_⟩
      refine lc_list (xs := bs.map V.ref) (fun i H2 => Same H' H2 ∧ ∃ cs, H2 D2 = some (.lst (cs.map V.ref)) ∧ TupsAt H2 cs (((ts.take i).map (tailStep k)).map stepV)) ⟨same_new (Same.refl H') nD2, [], upd_same, TupsAt.nil⟩ (fun i H2 hi hm => SqL.of (hm.1 _ _ eD)) (fun i x H2 hx hm => ?_) (fun H2 hm => ?_)
      · obtain ⟨sm3, cs, eD2, tc⟩ := hm
        obtain ⟨z, b, c, d, rfl, et, ez⟩ := row_get tb hx
        refine ⟨z, _, rfl, SqT.of (sm3 _ _ ez), rfl, _, _, rfl, _, _, rfl, _, _, rfl, rfl, rfl, yesIte ?_⟩
        refine ⟨_, rfl, _, rfl, _, rfl, _, rfl, _, _, rfl, _, _, rfl, rfl, (by show 2 ≤ sizeLine; decide), fun y ny => ?_⟩
        have eD' : upd H2 y (.tup [.int d, .int (c - (if k > b then k else b))]) D2 = some (.lst (cs.map V.ref)) := by
          rw [upd_ne (ne_of_none eD2 ny)]
          exact eD2
        have hcl : cs.length ≤ 10 := by
          have h1 := tc.1
          rw [List.length_map, List.length_map, List.length_take] at h1
          omega
        refine ⟨_, eD', ?_, same_mine (same_new sm3 ny) nD2, cs ++ [y], ?_, ?_⟩
        · rw [List.length_map]
          exact small1000 (by omega)
        · rw [upd_same, List.map_append]
          rfl
        · rw [take_map_succ _ et, List.map_append]
          exact ((tc.mono (Tups.new ny)).snoc upd_same).mono (Tups.ls eD')
      · obtain ⟨sm3, cs, eD2, tc⟩ := hm
        rw [List.length_map, hlb, List.take_length, htl] at tc
        refine ⟨D2, _, rfl, .inl ⟨SqL.of eD2, fun U nU => ?_⟩⟩
        refine ⟨(by show 2 ≤ sizeLine; decide), fun W nW => ?_⟩
        have nWU : U ≠ W := fun e => by
          rw [← e, upd_same] at nW
          cases nW
        have s1 : Same H (upd H2 U (.tup (cs.map V.ref))) := same_new (s2.trans sm3) nU
        refine q _ W (same_new s1 nW) (Same.free s1 nW) ⟨U, cs, upd_same, ?_, (tc.mono (Tups.new nU)).mono (Tups.new nW)⟩
        rw [upd_ne nWU, upd_same]
theorem ok__law_right {fH fA fL fW fK fM fE fT fS fR fD f : Addr} {fdH fdA fdL fdW fdK fdM fdE fdT fdS fdR fdD fd : FuncData} (F : Fun K "_law_right" "_law_right" s__law_right f fd) (bi : Bi mg) (C_head : Cal P w K mg base "head" P_head 1 spHead fH fdH) (C_tail : Cal P w K mg base "tail" P_tail 1 spTail fA fdA)
    (C_length_of : Cal P w K mg base "length_of" P_length_of 1 spLen fL fdL) (C_weight_of : Cal P w K mg base "weight_of" P_weight_of 1 spWeight fW fdW) (C_thick_at : Cal P w K mg base "thick_at" P_thick_at 1 spThick fK fdK) (C__law_same : Cal P w K mg base "_law_same" P__law_same 5 (spSame K 4) fM fdM) (C__law_due : Cal P w K mg base "_law_due" P__law_due 2 spTail fE fdE)
    (C__law_table : Cal P w K mg base "_law_table" P__law_table 1 spTable fT fdT) (C__law_spots : Cal P w K mg base "_law_spots" P__law_spots 3 spSpots fS fdS) (C__law_strong : Cal P w K mg base "_law_strong" P__law_strong 2 spStrong fR fdR)
    (C__law_draw : Cal P w K mg base "_law_draw" P__law_draw 2 spDraw fD fdD) : FnG P w K mg base 6 f fd P__law_right spRightG := by
  refine okG F sc__law_right (fun vs H Q E h => ?_) (fun cdv A outer s H vs Q E hr gd h => ?_)
  · obtain ⟨p, l, T, a, so, ps, rfl, _⟩ := h
    rfl
  · obtain ⟨p, l, T, a, so, ps, rfl, hp, hT, hw, gp, so0, so1, q⟩ := h
    have hu64 := hr.units
    refine ⟨_, (pss_cons (ps_par (i := 2) (j := 3) rfl sc__law_right.nd rfl rfl (by decide) rfl rfl (pa_cons (pe_callB (call_reprD gd hu64) (by rfl) bi.m_repr (by decide +kernel) (pa_cons (pv 1) pa_nil)) (pa_cons (pe_call (C_weight_of.G.mono (by decide)) hr (by rfl) C_weight_of.g C_weight_of.kp C_weight_of.b .nil pass0 (pa_cons (pv 1) pa_nil)) pa_nil)) rfl)
    (pss_cons (ps_set (i := 4) sc__law_right.nd rfl (.inr rfl) (pe_ix ix_tup (pe_ix ix_list (pe_call (C__law_table.G.mono (by decide)) hr (by rfl) C__law_table.g C__law_table.kp C__law_table.b .nil pass0 (pa_cons (pv 1) pa_nil)) (pe_un un_neg pe_int) (fun _ _ => rfl)) pe_int (fun _ _ => rfl)))
    (pss_cons (ps_for PassesOwn.never rfl (pi_list (pe_lc (own := [("_law_one", 9)]) (g := (gName 9)) rfl sc__law_right.nd (pi_list (pe_call (C__law_spots.G.mono (by decide)) hr (by rfl) C__law_spots.g C__law_spots.kp C__law_spots.b .nil pass0 (pa_cons (pv 0) (pa_cons (pv 1) pa_nil)))) (blkOk_by (N := N__law_right) (sc := defScope s__law_right) (by decide +kernel)) (fun _ _ _ _ _ => (pg_name (i := 9) sc__law_right.nd rfl (.inl rfl) (.inr rfl))) (fun _ _ _ _ _ => (pts_one (pt_cmpR op_lt (pv 9) (pv 4) (nomark _)))) (fun _ _ _ _ _ => (pv 9)))) (pg_name (i := 5) sc__law_right.nd rfl (.inl rfl))
      (pss_cons (ps_set (i := 6) sc__law_right.nd rfl (.inl rfl) (pe_call (C_tail.G.mono (by decide)) hr (by rfl) C_tail.g C_tail.kp C_tail.b .nil pass0 (pa_cons (pv 1) (pa_cons (pv 5) pa_nil))))
        (pss_cons (ps_if (pw_or (pt_not (pt_val (pe_call (C__law_same.G.mono (by decide)) hr (by rfl) C__law_same.g C__law_same.kp C__law_same.b .nil pass0 (pa_cons (pv 6) (pa_cons (pe_call (C__law_due.G.mono (by decide)) hr (by rfl) C__law_due.g C__law_due.kp C__law_due.b .nil pass0 (pa_cons (pv 1) (pa_cons (pv 5) pa_nil))) pa_nil))))) (pw_or1 (pt_cmpR op_ne (pe_call (C_length_of.G.mono (by decide)) hr (by rfl) C_length_of.g C_length_of.kp C_length_of.b .nil pass0 (pa_cons (pv 6) pa_nil)) (pe_op op_sub (pv 4) (pv 5)) (nomark _)))).pt
          (pss_one (ps_ret pe_bl))
          pss_nil)
        (pss_cons (ps_for PassesOwn.never rfl (pi_tup (pe_tup (pa_cons pe_int (pa_cons (pe_op op_sub (pe_op op_sub (pv 4) (pv 5)) pe_int) (pa_cons (pe_op op_sub (pv 4) (pv 5)) (pa_cons (pe_call (C__law_draw.G.mono (by decide)) hr (by rfl) C__law_draw.g C__law_draw.kp C__law_draw.b .nil pass0 (pa_cons (pv 0) (pa_cons (pe_op op_sub (pv 4) (pv 5)) pa_nil))) pa_nil)))))) (pg_name (i := 7) sc__law_right.nd rfl (.inl rfl))
          (pss_one (ps_if (pt_cmpR op_ne (pe_call (C_thick_at.G.mono (by decide)) hr (by rfl) C_thick_at.g C_thick_at.kp C_thick_at.b .nil pass0 (pa_cons (pv 6) (pa_cons (pv 7) pa_nil))) (pe_call (C__law_strong.G.mono (by decide)) hr (by rfl) C__law_strong.g C__law_strong.kp C__law_strong.b .nil pass0 (pa_cons (pv 1) (pa_cons (pe_op op_add (pv 5) (pv 7)) pa_nil))) (nomark _))
              (pss_one (ps_ret pe_bl))
              pss_nil)))
        (C8.pss_cut (ps_if (pw_and (pt_cmpR op_gt (pv 5) pe_int (nomark _)) (pw_and1 (pt_cmpR op_ne (pe_op op_add (pe_call (C_weight_of.G.mono (by decide)) hr (by rfl) C_weight_of.g C_weight_of.kp C_weight_of.b .nil pass0 (pa_cons (pe_call (C_head.G.mono (by decide)) hr (by rfl) C_head.g C_head.kp C_head.b .nil pass0 (pa_cons (pv 1) (pa_cons (pv 5) pa_nil))) pa_nil)) (pe_call (C_weight_of.G.mono (by decide)) hr (by rfl) C_weight_of.g C_weight_of.kp C_weight_of.b .nil pass0 (pa_cons (pv 6) pa_nil))) (pv 3) (nomark _)))).pt
          (pss_one (ps_ret pe_bl))
          pss_nil)
        (pss_cons (ps_set (i := 8) sc__law_right.nd rfl (.inl rfl) (pe_op op_add pe_int (pe_call (C__law_draw.G.mono (by decide)) hr (by rfl) C__law_draw.g C__law_draw.kp C__law_draw.b .nil pass0 (pa_cons (pv 0) (pa_cons (pe_op op_sub (pv 4) (pv 5)) pa_nil)))))
        (pss_one (ps_if (pt_not (pt_val (pe_call (C__law_same.G.mono (by decide)) hr (by rfl) C__law_same.g C__law_same.kp C__law_same.b .nil pass0 (pa_cons (pe_call (C_head.G.mono (by decide)) hr (by rfl) C_head.g C_head.kp C_head.b .nil pass0 (pa_cons (pv 6) (pa_cons (pv 8) pa_nil))) (pa_cons (pe_call (C_tail.G.mono (by decide)) hr (by rfl) C_tail.g C_tail.kp C_tail.b .nil pass0 (pa_cons (pe_call (C_head.G.mono (by decide)) hr (by rfl) C_head.g C_head.kp C_head.b .nil pass0 (pa_cons (pv 1) (pa_cons (pe_op op_add (pv 5) (pv 8)) pa_nil))) (pa_cons (pv 5) pa_nil))) pa_nil)))))
          (pss_one (ps_ret pe_bl))
          pss_nil))))))))
    (pss_one (ps_ret (pe_cmpR op_eq (pe_callB (call_reprD gd hu64) (by rfl) bi.m_repr (by decide +kernel) (pa_cons (pv 1) pa_nil)) (pv 2) (nomark _))))))), ?_⟩
    have sh := wisp_sh so0 so1 gp
    have dep := wisp_depth so ps
    have hps := gp.2.1
    have fit : (wispD so ps).shown.length ≤ sizeLine := sh.fits (by have := wisp_bulk so ps; omega)
    have hg2 : ∀ x ∈ ps, 1 ≤ x.2 := fun x hx => (gp.2.2 x hx).2.2.1
    -- before, weight, last
    refine ⟨_, rfl, a, wispD so ps, rfl, hw.dp, sh.ok.1, sh.ok.2.1, by omega, fit, ?_⟩
    refine ⟨_, rfl, a, so, ps, rfl, hw, gp, fun H1 s1 => ⟨_, _, rfl, ?_⟩⟩
    refine ⟨_, rfl, a, so, ps, rfl, Same.wisp s1 hw, gp.2.1, fun H3 o s2 no ⟨as, eo, tu⟩ => ?_⟩
    obtain ⟨z, b', t', ez1, ez2⟩ := last_row tu gp.1
    refine ⟨1, rfl, o, _, -1, _, rfl, rfl, SqL.of eo, ez1, z, _, 1, _, rfl, rfl, SqT.of ez2, atI_nat (j := 1) rfl, ?_⟩
    have s3 := s1.trans s2
    have hl0 : 0 ≤ longs ps := longs_nonneg hg2
    have hl1 := longs_lt gp
    -- the spots
    have hp3 := hp.same s3
    have hw3 := Same.wisp s3 hw
    refine ⟨_, rfl, _, rfl, p, l, T, a, so, ps, rfl, hp3, by omega, hw3, gp, fun H6 o6 ns6 hp6 k6 no6 e6 hn6 hl6 => ?_⟩
    refine ⟨o6, rfl, ⟨_, SqL.of e6⟩, fun D nD => ?_⟩
    refine lc_list (xs := ns6.map V.int) (fun i H' => Same H6 H' ∧ H' D = some (.lst (((ns6.take i).filter fun n => decide (n < longs ps)).map V.int))) ⟨same_new (Same.refl H6) nD, upd_same⟩ (fun i H' hi hm => SqL.of (hm.1 _ _ e6)) (fun i x H' hx hm => ?_) (fun H' hm => ?_)
    · obtain ⟨sm, eD⟩ := hm
      obtain ⟨n, rfl, en⟩ := int_get hx
      have hf := filter_take_succ (fun n => decide (n < longs ps)) en
      refine ⟨rfl, _, rfl, _, rfl, _, _, rfl, rfl, _, rfl, ite2 (fun e => ?_) (fun e => ?_)⟩
      · refine ⟨_, rfl, _, eD, ?_, same_mine sm nD, ?_⟩
        · rw [List.length_map]
          refine small1000 (Nat.le_trans (List.length_filter_le _ _) ?_)
          rw [List.length_take]
          omega
        · rw [upd_same, hf, if_pos e, List.map_append]
          rfl
      · refine ⟨sm, ?_⟩
        rw [eD, hf, if_neg e, List.append_nil]
    · obtain ⟨sm, eD⟩ := hm
      rw [List.length_map, List.take_length] at eD
      have hks : ∀ n ∈ ns6.filter (fun n => decide (n < longs ps)), 0 ≤ n ∧ n < longs ps := fun n hn => by
        have := List.mem_filter.mp hn
        exact ⟨hn6 n this.1, of_decide_eq_true this.2⟩
      have hkl : (ns6.filter (fun n => decide (n < longs ps))).length ≤ 100 := Nat.le_trans (List.length_filter_le _ _) hl6
      generalize ns6.filter (fun n => decide (n < longs ps)) = ks at eD hks hkl
      have hp7 := hp6.same sm
      have k7 : Keep p l H H' := ((Same.keep s3).trans k6).trans (Same.keep sm)
      obtain ⟨nDp, nDl⟩ := hp6.fresh nD
      refine ⟨D, rfl, ⟨_, SqL.of eD⟩, for_list (xs := ks.map V.int) (fun i σ' H' => ∃ (x5 x6 x7 x8 : Option V), σ' = [some (.ref p), some (.ref a), some (.str (wispD so ps).shown), some (.int (weigh ps)), some (.int (longs ps)), x5, x6, x7, x8, none] ∧ Pot H' p l (T + 10 + 2 * i) ∧ Keep p l H H' ∧ H' D = some (.lst (ks.map V.int))) ⟨_, _, _, _, rfl, hp7, k7, eD⟩ (fun i σ' H' hi hm => ?_) (fun i x σ' H' hx hm => ?_) (fun σ' H' hm => ?_)⟩
      · obtain ⟨x5, x6, x7, x8, rfl, hpi, ki, eDi⟩ := hm
        exact SqL.of eDi
      · obtain ⟨x5, x6, x7, x8, rfl, hpi, ki, eDi⟩ := hm
        obtain ⟨kk, rfl, ek⟩ := int_get hx
        obtain ⟨hk1, hk2⟩ := hks kk (List.mem_of_getElem? ek)
        have hi100 : i < 100 := Nat.lt_of_lt_of_le (List.getElem?_eq_some_iff.mp ek).1 hkl
        have hwi := hw.keep ki hp
        have gtl := tail_good (k := kk) gp hk1 hk2
        have htl := tail_len ps kk
        have htp : ∀ x ∈ tailOf ps kk, 1 ≤ x.2 := fun x hx => (gtl.2.2 x hx).2.2.1
        -- found = tail(w, k)
        refine ⟨_, rfl, _, rfl, a, so, ps, kk, rfl, hwi, hps, fun H9 b s9 nb wb => ?_⟩
        refine ⟨_, rfl, _, rfl, _, rfl, a, so, ps, kk, rfl, Same.wisp s9 hwi, hps, fun H10 c s10 nc wc => ?_⟩
        refine ⟨_, _, wispD so (tailOf ps kk), rfl, wisp_ti (by omega), Nat.lt_succ_of_le (wisp_depth so _), (Same.wisp s10 wb).dp, wc.dp, fun H11 s11 => ?_⟩
        refine ⟨true, rfl, ?_⟩
        refine iteNT ?_
        have wb11 := Same.wisp s11 (Same.wisp s10 wb)
        refine ⟨_, rfl, b, so, tailOf ps kk, rfl, wb11, gtl, fun H12 s12 => ?_⟩
        refine ⟨_, rfl, _, rfl, _, _, rfl, rfl, rfl, _, rfl, ?_⟩
        rw [tail_longs ps kk hk1 (by omega) hg2]
        refine iteNS rfl ?_
        have s912 : Same H' H12 := (s9.trans s10).trans (s11.trans s12)
        have hp12 := hpi.same s912
        have wb12 := Same.wisp s12 wb11
        have fitk : CDivW 0 (longs ps - kk) := fit_of (by omega) (by omega)
        -- the places
        refine ⟨_, rfl, _, rfl, _, _, rfl, rfl, _, _, rfl, rfl, _, rfl, _, rfl, _, _, rfl, rfl, _, rfl, _, rfl, _, rfl, _, _, rfl, rfl, p, l, T + 10 + 2 * i, longs ps - kk, rfl, hp12, by omega, fitk, fun dr H14 dr0 dr1 hp14 k14 => ?_⟩
        refine ⟨(by show 4 ≤ sizeLine; decide), fun tp ntp => ?_⟩
        have k1214 : Keep p l H' H14 := (Same.keep s912).trans k14
        have eD14 : H14 D = some (.lst (ks.map V.int)) := k1214 _ _ nDp nDl eDi
        have wb14 : WispAt H14 b so (tailOf ps kk) := wb12.keep k14 hp12
        have hw14 : WispAt H14 a so ps := hwi.keep k1214 hpi
        obtain ⟨js, ejs⟩ : ∃ js : List Int, js = [0, longs ps - kk - 1, longs ps - kk, dr] := ⟨_, rfl⟩
        have hjs : ∀ j ∈ js, (0 : Int) ≤ j := by
          rw [ejs]
          intro j hj
          simp only [List.mem_cons, List.not_mem_nil, or_false] at hj
          rcases hj with rfl | rfl | rfl | rfl <;> omega
        have etp : upd H14 tp (.tup [.int 0, .int (longs ps - kk - 1), .int (longs ps - kk), .int dr]) tp = some (.tup (js.map V.int)) := by
          rw [upd_same, ejs]
          rfl
        have s15 : Same H14 (upd H14 tp (.tup [.int 0, .int (longs ps - kk - 1), .int (longs ps - kk), .int dr])) := same_new (Same.refl H14) ntp
        refine ⟨tp, rfl, ⟨_, SqT.of etp⟩, for_tup (xs := js.map V.int) (fun j σ' H' => ∃ (x7 : Option V), σ' = [some (.ref p), some (.ref a), some (.str (wispD so ps).shown), some (.int (weigh ps)), some (.int (longs ps)), some (.int kk), some (.ref b), x7, x8, none] ∧ Same H14 H' ∧ H' tp = some (.tup (js.map V.int))) ⟨_, rfl, s15, etp⟩ (fun j σ' H' hj hm => ?_) (fun j x σ' H' hx hm => ?_) (fun σ' H17 hm => ?_)⟩
        · obtain ⟨x7, rfl, sj, ej⟩ := hm
          exact SqT.of ej
        · obtain ⟨x7, rfl, sj, ej⟩ := hm
          obtain ⟨jj, rfl, ejj⟩ := int_get hx
          have hj0 := hjs jj (List.mem_of_getElem? ejj)
          refine ⟨_, rfl, _, rfl, b, so, tailOf ps kk, jj, rfl, Same.wisp sj wb14, ?_⟩
          refine ⟨_, rfl, _, rfl, _, rfl, _, _, rfl, rfl, a, so, ps, kk + jj, rfl, Same.wisp sj hw14, gp, by omega, fun H16 s16 => ?_⟩
          refine ⟨rfl, _, rfl, ?_⟩
          refine iteNS ?_ ?_
          · rw [tail_thick ps kk jj hk1 hj0 hg2]
          · exact ⟨_, rfl, sj.trans s16, s16 _ _ ej⟩
        · obtain ⟨x7, rfl, sj, ej⟩ := hm
          have wb17 := Same.wisp sj wb14
          have hw17 := Same.wisp sj hw14
          have hp17 := hp14.same sj
          have k17 : Keep p l H' H17 := k1214.trans (Same.keep sj)
          have eD17 := sj _ _ eD14
          -- the weights
          refine ⟨fun σ' H' => σ' = [some (.ref p), some (.ref a), some (.str (wispD so ps).shown), some (.int (weigh ps)), some (.int (longs ps)), some (.int kk), some (.ref b), x7, x8, none] ∧ Same H17 H', ?_, fun σ' H18 hm => ?_⟩
          · refine ⟨_, rfl, _, _, rfl, rfl, _, rfl, ite2 (fun e => ?_) (fun e => ?_)⟩
            · have hk0 : 0 < kk := of_decide_eq_true e
              refine ⟨_, rfl, _, rfl, a, so, ps, kk, rfl, hw17, hps, fun H19 d s19 nd wd => ?_⟩
              refine ⟨d, so, headOf ps kk, rfl, wd, head_good gp hk0, fun H20 s20 => ?_⟩
              refine ⟨_, rfl, b, so, tailOf ps kk, rfl, Same.wisp (s19.trans s20) wb17, gtl, fun H21 s21 => ?_⟩
              refine ⟨_, _, rfl, rfl, _, rfl, rfl, _, rfl, ?_⟩
              refine iteNS ?_ ⟨rfl, (s19.trans s20).trans s21⟩
              exact congrArg V.int (tail_weigh ps kk hk1 hg2)
            · exact iteF ⟨rfl, Same.refl H17⟩
          · obtain ⟨rfl, s18⟩ := hm
            have hp18 := hp17.same s18
            have wb18 := Same.wisp s18 wb17
            have hw18 := Same.wisp s18 hw17
            refine ⟨_, rfl, _, rfl, _, rfl, _, _, rfl, rfl, p, l, T + 10 + 2 * i + 1, longs ps - kk, rfl, hp18, by omega, fitk, fun d2 H19 d20 d21 hp19 k19 => ?_⟩
            refine ⟨_, _, rfl, rfl, ?_⟩
            have wb19 := wb18.keep k19 hp18
            have hw19 := hw18.keep k19 hp18
            refine ⟨_, rfl, _, rfl, b, so, tailOf ps kk, 1 + d2, rfl, wb19, by omega, fun H20 u s20 nu wu => ?_⟩
            refine ⟨_, rfl, _, rfl, _, rfl, _, _, rfl, rfl, a, so, ps, kk + (1 + d2), rfl, Same.wisp s20 hw19, hps, fun H21 v s21 nv wv => ?_⟩
            have hhl := head_len ps (kk + (1 + d2))
            refine ⟨_, rfl, v, so, headOf ps (kk + (1 + d2)), kk, rfl, wv, by omega, fun H22 y s22 ny wy => ?_⟩
            rw [tail_head ps kk (1 + d2) hk1 (by omega) hg2] at wu
            have htl2 := tail_len (headOf ps (kk + (1 + d2))) kk
            refine ⟨_, _, wispD so (tailOf (headOf ps (kk + (1 + d2))) kk), rfl, wisp_ti (by omega), Nat.lt_succ_of_le (wisp_depth so _), (Same.wisp (s21.trans s22) wu).dp, wy.dp, fun H23 s23 => ?_⟩
            refine ⟨true, rfl, ?_⟩
            refine iteNT ?_
            have s1923 : Same H19 H23 := (s20.trans s21).trans (s22.trans s23)
            have k1823 : Keep p l H17 H23 := ((Same.keep s18).trans k19).trans (Same.keep s1923)
            exact ⟨_, _, _, _, rfl, (hp19.same s1923).mono (by omega), (ki.trans k17).trans k1823, k1823 _ _ nDp nDl eD17⟩
      · obtain ⟨x5, x6, x7, x8, rfl, hpi, ki, eDi⟩ := hm
        rw [List.length_map] at hpi
        have hwi := hw.keep ki hp
        refine ⟨_, rfl, a, wispD so ps, rfl, hwi.dp, sh.ok.1, sh.ok.2.1, by omega, fit, _, rfl, rfl, ?_⟩
        rw [decide_eq_true rfl]
        exact q _ (hpi.mono (by omega)) ki
theorem ok_law {fP fD fW fR f : Addr} {fdP fdD fdW fdR fd : FuncData} (F : Fun K "law" "law" s_law f fd) (bi : Bi mg)
    (C__law_pot : Cal P w K mg base "_law_pot" P__law_pot 1 (spPot K) fP fdP) (C__law_draw : Cal P w K mg base "_law_draw" P__law_draw 2 spDraw fD fdD) (C__law_wisp : Cal P w K mg base "_law_wisp" P__law_wisp 4 spWisp fW fdW) (C__law_right : CalG P w K mg base "_law_right" P__law_right 6 spRightG fR fdR) : FnG P w K mg base 7 f fd P_law (spLaw K) := by
  refine okG F sc_law (fun vs H Q E h => ?_) (fun cdv A outer s H vs Q E hr gd h => ?_)
  · obtain ⟨a, ns, rfl, _⟩ := h
    rfl
  · obtain ⟨a, ns, rfl, hS, hn, q⟩ := h
    refine ⟨_, (pss_cons (ps_set (i := 1) sc_law.nd rfl (.inl rfl) (pe_call (C__law_pot.G.mono (by decide)) hr (by rfl) C__law_pot.g C__law_pot.kp C__law_pot.b .nil pass0 (pa_cons (pv 0) pa_nil)))
    (pss_cons (ps_for PassesOwn.never rfl (pi_range1 rfl bi.m_range (pa_cons (pe_callB (call_max2 rfl) (by rfl) bi.m_max (by decide +kernel) (pa_cons pe_int (pa_cons (pe_callB (call_min2 rfl) (by rfl) bi.m_min (by decide +kernel) (pa_cons pe_int (pa_cons (pe_op op_fdiv (pe_callB call_len_seq (by rfl) bi.m_len (by decide +kernel) (pa_cons (pv 0) pa_nil)) pe_int) pa_nil))) pa_nil))) pa_nil)) (pg_name (i := 2) sc_law.nd rfl (.inl rfl))
      (pss_cons (ps_set (i := 3) sc_law.nd rfl (.inl rfl) (pe_cmpR op_eq (pe_call (C__law_draw.G.mono (by decide)) hr (by rfl) C__law_draw.g C__law_draw.kp C__law_draw.b .nil pass0 (pa_cons (pv 1) (pa_cons pe_int pa_nil))) pe_int (nomark _)))
        (pss_cons (ps_set (i := 4) sc_law.nd rfl (.inl rfl) (pe_lst (pa_cons (pe_call (C__law_wisp.G.mono (by decide)) hr (by rfl) C__law_wisp.g C__law_wisp.kp C__law_wisp.b .nil pass0 (pa_cons (pv 1) (pa_cons pe_int (pa_cons (pv 3) pa_nil)))) (pa_cons (pe_call (C__law_wisp.G.mono (by decide)) hr (by rfl) C__law_wisp.g C__law_wisp.kp C__law_wisp.b .nil pass0 (pa_cons (pv 1) (pa_cons pe_int (pa_cons (pv 3) pa_nil)))) pa_nil))))
        (pss_one (ps_for PassesOwn.never rfl (pi_list (pv 4)) (pg_name (i := 5) sc_law.nd rfl (.inl rfl))
          (pss_one (ps_if (pt_not (pt_val (pe_callG (C__law_right.G.up (by decide)) hr gd (by rfl) C__law_right.g C__law_right.kp C__law_right.b (pa_cons (pv 1) (pa_cons (pv 5) pa_nil)))))
              (pss_one (ps_ret pe_bl))
              pss_nil)))))))
    (pss_one (ps_ret pe_bl)))), ?_⟩
    refine ⟨_, rfl, a, ns, rfl, hS, hn, fun H1 p l s1 np nl hp => ?_⟩
    have hS1 : SqL K H1 a (ns.map V.int) := s1.seq hS
    refine ⟨_, rfl, a, _, rfl, .inl hS1, _, _, rfl, rfl, ⟨by decide, by decide⟩, _, _, rfl, _, _, rfl, _, rfl, ?_, ?_, ?_⟩
    · rw [List.length_map]
      split <;> split <;> omega
    · rw [List.length_map]
      split <;> split <;> omega
    have hq : ∀ b : Int, 0 < b → b ≤ 1000 → CDivW 0 b := fun b h0 h1 => wide_div (b := 10) h0 (by omega) (by decide) (by decide)
    generalize hN : Int.toNat _ = N
    have hN8 : N ≤ 8 := by
      rw [← hN, List.length_map]
      split <;> split <;> omega
    clear hN
    refine for_range (n := N) (fun i σ' H' => ∃ (x2 x3 x4 x5 : Option V), σ' = [some (.ref a), some (.ref p), x2, x3, x4, x5] ∧ Pot H' p l (4400 * i)) ⟨_, _, _, _, rfl, hp⟩ (fun i σ' H' hi hm => ?_) (fun σ' H' hm => ?_)
    · obtain ⟨x2, x3, x4, x5, rfl, hpi⟩ := hm
      refine ⟨_, rfl, p, l, 4400 * i, 2, rfl, hpi, by omega, hq _ (by omega) (by omega), fun d H2 d0 d1 hp2 k2 => ?_⟩
      refine ⟨rfl, ?_⟩
      generalize decide (V.int d = V.int 0) = small
      refine ⟨_, rfl, _, rfl, p, l, 4400 * i + 1, 8, small, rfl, hp2, by omega, by decide, by decide, fun H3 a1 so1 ps1 hp3 k3 w1 u1 v1 g1 _ _ m1 na1 => ?_⟩
      refine ⟨_, rfl, _, rfl, p, l, 4400 * i + 1 + 150, 8, small, rfl, hp3, by omega, by decide, by decide, fun H4 a2 so2 ps2 hp4 k4 w2 u2 v2 g2 _ _ m2 na2 => ?_⟩
      refine ⟨(by show 2 ≤ sizeLine; decide), fun Wl nW => ?_⟩
      obtain ⟨nWp, nWl⟩ := hp4.fresh nW
      have w71 : WispAt (upd H4 Wl (.lst [.ref a1, .ref a2])) a1 so1 ps1 := (w1.keep k4 hp3).mono (Tups.new nW)
      have w72 : WispAt (upd H4 Wl (.lst [.ref a1, .ref a2])) a2 so2 ps2 := w2.mono (Tups.new nW)
      have hp7 := hp4.new (a := Wl) (o := .lst [.ref a1, .ref a2]) nW
      have e7 : upd H4 Wl (.lst [.ref a1, .ref a2]) Wl = some (.lst [.ref a1, .ref a2]) := upd_same
      refine ⟨_, rfl, Wl, rfl, ⟨_, SqL.of e7⟩, for_list (xs := [.ref a1, .ref a2]) (fun j σ' H' => ∃ (x2 x5 : Option V), σ' = [some (.ref a), some (.ref p), x2, some (.bl small), some (.ref Wl), x5] ∧ Pot H' p l (4400 * i + 301 + 2000 * j) ∧ H' Wl = some (.lst [.ref a1, .ref a2]) ∧ WispAt H' a1 so1 ps1 ∧ WispAt H' a2 so2 ps2) ⟨_, _, rfl, hp7.mono (by omega), e7, w71, w72⟩ (fun j σ' H' hj hm => ?_) (fun j x σ' H' hx hm => ?_) (fun σ' H' hm => ?_)⟩
      · obtain ⟨x2, x5, rfl, hp8, e8, w81, w82⟩ := hm
        exact SqL.of e8
      · obtain ⟨x2, x5, rfl, hp8, e8, w81, w82⟩ := hm
        have key : ∃ b t qs, x = .ref b ∧ WispAt H' b t qs ∧ Good qs ∧ 0 ≤ t ∧ t ≤ 1 ∧ j ≤ 1 := by
          cases j with
          | zero => exact ⟨a1, so1, ps1, (Option.some.inj hx).symm, w81, g1, u1, v1, by omega⟩
          | succ j =>
            cases j with
            | zero => exact ⟨a2, so2, ps2, (Option.some.inj hx).symm, w82, g2, u2, v2, by omega⟩
            | succ j => simp at hx
        obtain ⟨b, t, qs, rfl, hwb, hgb, ht0, ht1, hj1⟩ := key
        refine ⟨_, rfl, _, rfl, p, l, 4400 * i + 301 + 2000 * j, b, t, qs, rfl, hp8, by omega, hwb, hgb, ht0, ht1, fun H9 hp9 k9 => ?_⟩
        refine ⟨true, rfl, ?_⟩
        refine iteNT ?_
        exact ⟨_, _, rfl, hp9, k9 _ _ nWp nWl e8, w81.keep k9 hp8, w82.keep k9 hp8⟩
      · obtain ⟨x2, x5, rfl, hp8, e8, w81, w82⟩ := hm
        exact ⟨_, _, _, _, rfl, hp8.mono (by show 4400 * i + 301 + 2000 * 2 ≤ 4400 * (i + 1); omega)⟩
    · exact q _
end
/-! ### the end of a law whose def is such a one -/
theorem lawG {P : Program} {w : World} {K : PySem.W.Frag} {mg mb : Str → Option Value} {k : Nat} {fa a : Addr} {fd : FuncData} {x : Str} {sp : Sp} {t : Shared} {ws : List Value} {ns : List Int} (kin : K.In t.heap) (gl : t.heap.Ns mainGlobals mg) (bl : t.heap.Ns builtinsNs mb)
    (bb : ∀ y : Str, y ≠ "__name__" → mb y = bootBuiltins y) (nol : t.heap.NoLimit) (gn : t.gens = #[]) (ea : t.heap.get? a = some { cls := .type "list", data := .seq ws.toArray }) (ia : IntsAre ws ns) (sz : ns.length ≤ sizeLine) (hr : Room k callerA)
    (F : ∀ bs : Heap, K.In bs → bs.Ns mainGlobals mg → FnG P w K mg bs k fa fd [x] sp) (bd : ∀ (s : Shared) (u : Value), BindsTo s fd ⟨[u], []⟩ [(x, u)]) (hs : ∀ H : Hp, SqL K H a (ns.map V.int) → sp [.ref a] H (fun v _ => v = .bl true) fun _ _ _ => False) :
    codeAny (model P w) callerA (.call (.ref fa) ⟨[.ref a], []⟩) (fun r s' => r = .ok (.ret (.bool true)) ∧ OldK t.heap s'.heap ∧ s'.os = t.os ∧ AllBare s'.gens) t := by
  have va := vals_ints ia
  have key : ∀ H : Hp, Only H → SqL K H a (ns.map V.int) → HOk P w H t.heap → (∀ b, H b ≠ none → b = a) → (H a ≠ none → K.lookup a = none) → codeAny (model P w) callerA (.call (.ref fa) ⟨[.ref a], []⟩)
      (fun r s' => r = .ok (.ret (.bool true)) ∧ OldK t.heap s'.heap ∧ s'.os = t.os ∧ AllBare s'.gens) t := fun H on sq hok only notK => by
    have free : ∀ {b : Addr} {o : Obj} {es : Array DictEntry} {n : Nat}, t.heap.get? b = some o → o.data = .dict es n → H b = none := fun {b o es n} e d => by
      rcases on b with z | ⟨ob, xs, z⟩
      · exact z
      · have e' : b = a := only b (by rw [z]; exact Option.some_ne_none _)
        rw [e', ea] at e
        cases e
        cases (show Data.seq ws.toArray _ = Data.dict es n from d)
    have nsB : ∀ {b : Addr} {m : Str → Option Value}, t.heap.Ns b m → (hidT t.heap H).Ns b m := fun ⟨o, es, n, e, d, r⟩ => ⟨o, es, n, hidT_get e (free e d), d, r⟩
    have kB : K.In (hidT t.heap H) := fun b o e => hidT_get (kin b o e) (by
      rcases on b with z | ⟨ob, xs, z⟩
      · exact z
      · have e' : b = a := only b (by rw [z]; exact Option.some_ne_none _)
        rw [e', notK (by rw [← e', z]; exact Option.some_ne_none _)] at e
        cases e)
    have md : Mod K mg (hidT t.heap H) := ⟨kB, nsB gl, ⟨mb, nsB bl, bb⟩, nol.elim fun mc z => ⟨mc, nsB z.1, z.2⟩⟩
    have e0 : Env0 P w K mg (hidT t.heap H) callerA [] t H := ⟨rfl, md, fun _ _ e => of_hidT e, Nat.le_of_eq (hidT_size _ _), trivial, (fun b hb => by cases hb), hok, .of_eq gn⟩
    refine codeAny_mono ((F _ kB (nsB gl)).goes callerA [] t H _ [.ref a] [.ref a] _ _ hr rfl e0 (bd t (.ref a)) (.cons rfl .nil) (hs H sq)) fun r s' h => ?_
    match r, h with
    | .error _, h => exact False.elim h
    | .ok .next, h => exact False.elim h
    | .ok .brk, h => exact False.elim h
    | .ok .cont, h => exact False.elim h
    | .ok (.ret u), h =>
      obtain ⟨v, H', eos, eb, un, ok', rv, q⟩ := h
      cases (show v = .bl true from q)
      cases (show u = Value.bool true from rv)
      refine ⟨rfl, OldK.of_keep fun b o e => ?_, eos, eb⟩
      rcases on b with z | ⟨ob, xs, z⟩
      · exact un.keep b o e z (fun y => by cases y) (fun y => by cases y)
      · obtain ⟨e1, _⟩ := hok b _ z
        obtain ⟨e2, _⟩ := ok' b _ (un.frzs b ob _ z)
        rw [e] at e1
        cases e1
        exact e2
  cases hk : K.lookup a with
  | some o =>
    have e := kin a o hk
    rw [ea] at e
    cases e
    exact key (fun _ => none) (fun _ => .inl rfl) (.inr ⟨_, ws.toArray, _, hk, rfl, rfl, rfl, (by rw [List.size_toArray, ia.length]; exact sz), by simpa using va⟩) (fun b u z => nomatch (show (none : Option HO) = some u from z)) (fun b z => absurd rfl z) (fun z => absurd rfl z)
  | none =>
    have at_ : ∀ b, (if b = a then some (HO.frz { cls := .type "list", data := .seq ws.toArray } (.lst (ns.map V.int))) else none) ≠ none → b = a := fun b z => by
      by_cases h : b = a
      · exact h
      · exact absurd (if_neg h) z
    refine key (fun b => if b = a then some (.frz { cls := .type "list", data := .seq ws.toArray } (.lst (ns.map V.int))) else none) (fun b => ?_) (.inl (.inr ⟨_, if_pos rfl⟩)) (fun b u z => ?_) at_ (fun _ => hk)
    · by_cases h : b = a
      · exact .inr ⟨_, _, if_pos h⟩
      · exact .inl (if_neg h)
    · have h : b = a := at_ b (fun y => by rw [show (if b = a then some (HO.frz { cls := .type "list", data := .seq ws.toArray } (.lst (ns.map V.int))) else none) = some u from z] at y; cases y)
      subst h
      have z' := (if_pos rfl).symm.trans z
      cases z'
      exact ⟨ea, by rw [List.length_map]; exact sz, ws, _, va, ea⟩
theorem walkG {l : PySem.W.OpenLaw} {n k : Nat} {q : Program} {loose : List Str} {XP : (Str → Option Value) → Heap → Prop} {YP : World → Heap → Prop} {d : DefRec} {K : Params → PySem.W.Frag} {sp : World → Sp} {x : Str} (hn : l.most = some n) (h2 : n ≤ sizeLine) (hd : d.params.defaults = []) (hr : Room k callerA)
    (hY : ∀ (w : World) (h : Heap), YP w h → (K w.params).In h) (F : ∀ (w : World) (mg : Str → Option Value) (fa : Addr) (h : Heap), (K w.params).In h → h.Ns mainGlobals mg → mg d.name = some (.ref fa) → ∃ fd : FuncData, (∀ (s : Shared) (u : Value), BindsTo s fd ⟨[u], []⟩ [(x, u)]) ∧
      ∀ bs : Heap, (K w.params).In bs → bs.Ns mainGlobals mg → FnG l.prog w (K w.params) mg bs k fa fd [x] (sp w)) (hs : ∀ (w : World) (H : Hp) (a : Addr) (ns : List Int), ns.length ≤ n → SqL (K w.params) H a (ns.map V.int) → sp w [.ref a] H (fun v _ => v = .bl true) fun _ _ _ => False) :
    PySem.W.WalkO q loose XP YP l.row.toRowW d [] (fun f vs => PySem.call f vs) := Att.attach_call hn hd fun w s t mg mb fa o pm cd dc a ws ns G Y ho hdt hcd hmg eo ia hl hg => by
  obtain ⟨fd, bd, hF⟩ := F w mg fa _ (hY w _ Y) G.T.g hmg
  exact lawG (hY w _ Y) G.T.g G.T.b G.T.builtins G.T.nolimit hg eo ia (Nat.le_trans hl h2) hr hF bd fun H sq => hs w H a ns hl sq
theorem all_mk {l : PySem.W.OpenLaw} {w : World} {K : PySem.W.Frag} {h : Heap} {mg : Str → Option Value} {fa f1 f2 f3 f4 f5 f6 f7 f8 f9 f10 f11 f12 f13 f14 f15 f16 f17 f18 : Addr} (X : K.In h) (G : h.Ns mainGlobals mg) (hfa : mg "law" = some (.ref fa))
    {od1 an1 od2 an2 od3 an3 od4 an4 od5 an5 od6 an6 od7 an7 od8 an8 od9 an9 od10 an10 od11 an11 od12 an12 od13 an13 od14 an14 od15 an15 od16 an16 od17 an17 od18 an18 : Option Addr} {sl1 sl2 sl3 sl4 sl5 sl6 sl7 sl8 sl9 sl10 sl11 sl12 sl13 sl14 sl15 sl16 sl17 sl18 : Array (Option Value)} {oc1 kV1 dc1 pm1 cd1 ct1 oc2 kV2 dc2 pm2 cd2 ct2 oc3 kV3 dc3 pm3 cd3 ct3 oc4 kV4 dc4 pm4 cd4 ct4 oc5 kV5 dc5 pm5 cd5 ct5 oc6 kV6 dc6 pm6 cd6 ct6 oc7 kV7 dc7 pm7 cd7 ct7 oc8 kV8 dc8 pm8 cd8 ct8 oc9 kV9 dc9 pm9 cd9 ct9 oc10 kV10 dc10 pm10 cd10 ct10 oc11 kV11 dc11 pm11 cd11 ct11 oc12 kV12 dc12 pm12 cd12 ct12 oc13 kV13 dc13 pm13 cd13 ct13 oc14 kV14 dc14 pm14 cd14 ct14 oc15 kV15 dc15 pm15 cd15 ct15 oc16 kV16 dc16 pm16 cd16 ct16 oc17 kV17 dc17 pm17 cd17 ct17 oc18 kV18 dc18 pm18 cd18 ct18 : Value}
    (a1 : PySem.W.nsIn K mainGlobals "length_of" = some (some (.ref f1))) (l1 : K.lookup f1 = some ⟨oc1, od1, .func (PySem.W.fnOf "length_of" "length_of" (defArgs s_length_of) (defBody s_length_of) (defScope s_length_of) .none kV1 dc1 pm1 an1 cd1 ct1), sl1⟩) (c1 : PySem.W.codeIn K cd1 "length_of" = true) (k1 : PySem.W.keepIn K (.ref f1) = true)
    (a2 : PySem.W.nsIn K mainGlobals "weight_of" = some (some (.ref f2))) (l2 : K.lookup f2 = some ⟨oc2, od2, .func (PySem.W.fnOf "weight_of" "weight_of" (defArgs s_weight_of) (defBody s_weight_of) (defScope s_weight_of) .none kV2 dc2 pm2 an2 cd2 ct2), sl2⟩) (c2 : PySem.W.codeIn K cd2 "weight_of" = true) (k2 : PySem.W.keepIn K (.ref f2) = true)
    (a3 : PySem.W.nsIn K mainGlobals "thick_at" = some (some (.ref f3))) (l3 : K.lookup f3 = some ⟨oc3, od3, .func (PySem.W.fnOf "thick_at" "thick_at" (defArgs s_thick_at) (defBody s_thick_at) (defScope s_thick_at) .none kV3 dc3 pm3 an3 cd3 ct3), sl3⟩) (c3 : PySem.W.codeIn K cd3 "thick_at" = true) (k3 : PySem.W.keepIn K (.ref f3) = true)
    (a4 : PySem.W.nsIn K mainGlobals "head" = some (some (.ref f4))) (l4 : K.lookup f4 = some ⟨oc4, od4, .func (PySem.W.fnOf "head" "head" (defArgs s_head) (defBody s_head) (defScope s_head) .none kV4 dc4 pm4 an4 cd4 ct4), sl4⟩) (c4 : PySem.W.codeIn K cd4 "head" = true) (k4 : PySem.W.keepIn K (.ref f4) = true)
    (a5 : PySem.W.nsIn K mainGlobals "tail" = some (some (.ref f5))) (l5 : K.lookup f5 = some ⟨oc5, od5, .func (PySem.W.fnOf "tail" "tail" (defArgs s_tail) (defBody s_tail) (defScope s_tail) .none kV5 dc5 pm5 an5 cd5 ct5), sl5⟩) (c5 : PySem.W.codeIn K cd5 "tail" = true) (k5 : PySem.W.keepIn K (.ref f5) = true)
    (a6 : PySem.W.nsIn K mainGlobals "_law_blend" = some (some (.ref f6))) (l6 : K.lookup f6 = some ⟨oc6, od6, .func (PySem.W.fnOf "_law_blend" "_law_blend" (defArgs s__law_blend) (defBody s__law_blend) (defScope s__law_blend) .none kV6 dc6 pm6 an6 cd6 ct6), sl6⟩) (c6 : PySem.W.codeIn K cd6 "_law_blend" = true) (k6 : PySem.W.keepIn K (.ref f6) = true)
    (a7 : PySem.W.nsIn K mainGlobals "_law_pot" = some (some (.ref f7))) (l7 : K.lookup f7 = some ⟨oc7, od7, .func (PySem.W.fnOf "_law_pot" "_law_pot" (defArgs s__law_pot) (defBody s__law_pot) (defScope s__law_pot) .none kV7 dc7 pm7 an7 cd7 ct7), sl7⟩) (c7 : PySem.W.codeIn K cd7 "_law_pot" = true) (k7 : PySem.W.keepIn K (.ref f7) = true)
    (a8 : PySem.W.nsIn K mainGlobals "_law_draw" = some (some (.ref f8))) (l8 : K.lookup f8 = some ⟨oc8, od8, .func (PySem.W.fnOf "_law_draw" "_law_draw" (defArgs s__law_draw) (defBody s__law_draw) (defScope s__law_draw) .none kV8 dc8 pm8 an8 cd8 ct8), sl8⟩) (c8 : PySem.W.codeIn K cd8 "_law_draw" = true) (k8 : PySem.W.keepIn K (.ref f8) = true)
    (a9 : PySem.W.nsIn K mainGlobals "_law_great" = some (some (.ref f9))) (l9 : K.lookup f9 = some ⟨oc9, od9, .func (PySem.W.fnOf "_law_great" "_law_great" (defArgs s__law_great) (defBody s__law_great) (defScope s__law_great) .none kV9 dc9 pm9 an9 cd9 ct9), sl9⟩) (c9 : PySem.W.codeIn K cd9 "_law_great" = true) (k9 : PySem.W.keepIn K (.ref f9) = true)
    (a10 : PySem.W.nsIn K mainGlobals "_law_wisp" = some (some (.ref f10))) (l10 : K.lookup f10 = some ⟨oc10, od10, .func (PySem.W.fnOf "_law_wisp" "_law_wisp" (defArgs s__law_wisp) (defBody s__law_wisp) (defScope s__law_wisp) .none kV10 dc10 pm10 an10 cd10 ct10), sl10⟩) (c10 : PySem.W.codeIn K cd10 "_law_wisp" = true) (k10 : PySem.W.keepIn K (.ref f10) = true)
    (a11 : PySem.W.nsIn K mainGlobals "_law_whole" = some (some (.ref f11))) (l11 : K.lookup f11 = some ⟨oc11, od11, .func (PySem.W.fnOf "_law_whole" "_law_whole" (defArgs s__law_whole) (defBody s__law_whole) (defScope s__law_whole) .none kV11 dc11 pm11 an11 cd11 ct11), sl11⟩) (c11 : PySem.W.codeIn K cd11 "_law_whole" = true) (k11 : PySem.W.keepIn K (.ref f11) = true)
    (a12 : PySem.W.nsIn K mainGlobals "_law_same" = some (some (.ref f12))) (l12 : K.lookup f12 = some ⟨oc12, od12, .func (PySem.W.fnOf "_law_same" "_law_same" (defArgs s__law_same) (defBody s__law_same) (defScope s__law_same) .none kV12 dc12 pm12 an12 cd12 ct12), sl12⟩) (c12 : PySem.W.codeIn K cd12 "_law_same" = true) (k12 : PySem.W.keepIn K (.ref f12) = true)
    (a13 : PySem.W.nsIn K mainGlobals "_law_table" = some (some (.ref f13))) (l13 : K.lookup f13 = some ⟨oc13, od13, .func (PySem.W.fnOf "_law_table" "_law_table" (defArgs s__law_table) (defBody s__law_table) (defScope s__law_table) .none kV13 dc13 pm13 an13 cd13 ct13), sl13⟩) (c13 : PySem.W.codeIn K cd13 "_law_table" = true) (k13 : PySem.W.keepIn K (.ref f13) = true)
    (a14 : PySem.W.nsIn K mainGlobals "_law_spots" = some (some (.ref f14))) (l14 : K.lookup f14 = some ⟨oc14, od14, .func (PySem.W.fnOf "_law_spots" "_law_spots" (defArgs s__law_spots) (defBody s__law_spots) (defScope s__law_spots) .none kV14 dc14 pm14 an14 cd14 ct14), sl14⟩) (c14 : PySem.W.codeIn K cd14 "_law_spots" = true) (k14 : PySem.W.keepIn K (.ref f14) = true)
    (a15 : PySem.W.nsIn K mainGlobals "_law_strong" = some (some (.ref f15))) (l15 : K.lookup f15 = some ⟨oc15, od15, .func (PySem.W.fnOf "_law_strong" "_law_strong" (defArgs s__law_strong) (defBody s__law_strong) (defScope s__law_strong) .none kV15 dc15 pm15 an15 cd15 ct15), sl15⟩) (c15 : PySem.W.codeIn K cd15 "_law_strong" = true) (k15 : PySem.W.keepIn K (.ref f15) = true)
    (a16 : PySem.W.nsIn K mainGlobals "_law_due" = some (some (.ref f16))) (l16 : K.lookup f16 = some ⟨oc16, od16, .func (PySem.W.fnOf "_law_due" "_law_due" (defArgs s__law_due) (defBody s__law_due) (defScope s__law_due) .none kV16 dc16 pm16 an16 cd16 ct16), sl16⟩) (c16 : PySem.W.codeIn K cd16 "_law_due" = true) (k16 : PySem.W.keepIn K (.ref f16) = true)
    (a17 : PySem.W.nsIn K mainGlobals "_law_right" = some (some (.ref f17))) (l17 : K.lookup f17 = some ⟨oc17, od17, .func (PySem.W.fnOf "_law_right" "_law_right" (defArgs s__law_right) (defBody s__law_right) (defScope s__law_right) .none kV17 dc17 pm17 an17 cd17 ct17), sl17⟩) (c17 : PySem.W.codeIn K cd17 "_law_right" = true) (k17 : PySem.W.keepIn K (.ref f17) = true)
    (a18 : PySem.W.nsIn K mainGlobals "law" = some (some (.ref f18))) (l18 : K.lookup f18 = some ⟨oc18, od18, .func (PySem.W.fnOf "law" "law" (defArgs s_law) (defBody s_law) (defScope s_law) .none kV18 dc18 pm18 an18 cd18 ct18), sl18⟩) (c18 : PySem.W.codeIn K cd18 "law" = true) (k18 : PySem.W.keepIn K (.ref f18) = true)
    (z1 : PySem.W.nsIn K mainGlobals "len" = some none)
    (z2 : PySem.W.nsIn K mainGlobals "sum" = some none)
    (z3 : PySem.W.nsIn K mainGlobals "abs" = some none)
    (z4 : PySem.W.nsIn K mainGlobals "isinstance" = some none)
    (z5 : PySem.W.nsIn K mainGlobals "max" = some none)
    (z6 : PySem.W.nsIn K mainGlobals "min" = some none)
    (z7 : PySem.W.nsIn K mainGlobals "tuple" = some none)
    (z8 : PySem.W.nsIn K mainGlobals "list" = some none)
    (z9 : PySem.W.nsIn K mainGlobals "int" = some none)
    (z10 : PySem.W.nsIn K mainGlobals "bool" = some none)
    (z11 : PySem.W.nsIn K mainGlobals "range" = some none)
    (z12 : PySem.W.nsIn K mainGlobals "enumerate" = some none)
    (z13 : PySem.W.nsIn K mainGlobals "zip" = some none)
    (z14 : PySem.W.nsIn K mainGlobals "repr" = some none)
    (z15 : PySem.W.nsIn K mainGlobals "str" = some none)
    (z16 : PySem.W.nsIn K mainGlobals "sorted" = some none)
    (z17 : PySem.W.nsIn K mainGlobals "set" = some none)
    (z18 : PySem.W.nsIn K mainGlobals "all" = some none) :
    ∃ fd : FuncData, (∀ (s : Shared) (v : Value), BindsTo s fd ⟨[v], []⟩ [("_law_script", v)]) ∧ ∀ base : Heap, K.In base → base.Ns mainGlobals mg → FnG l.prog w K mg base 7 fa fd P_law (spLaw K) := by
  have e := hfa.symm.trans (PySem.W.mg_of X G a18)
  cases e
  have F1 := fun_mk (st := s_length_of) l1 c1 k1
  have F2 := fun_mk (st := s_weight_of) l2 c2 k2
  have F3 := fun_mk (st := s_thick_at) l3 c3 k3
  have F4 := fun_mk (st := s_head) l4 c4 k4
  have F5 := fun_mk (st := s_tail) l5 c5 k5
  have F6 := fun_mk (st := s__law_blend) l6 c6 k6
  have F7 := fun_mk (st := s__law_pot) l7 c7 k7
  have F8 := fun_mk (st := s__law_draw) l8 c8 k8
  have F9 := fun_mk (st := s__law_great) l9 c9 k9
  have F10 := fun_mk (st := s__law_wisp) l10 c10 k10
  have F11 := fun_mk (st := s__law_whole) l11 c11 k11
  have F12 := fun_mk (st := s__law_same) l12 c12 k12
  have F13 := fun_mk (st := s__law_table) l13 c13 k13
  have F14 := fun_mk (st := s__law_spots) l14 c14 k14
  have F15 := fun_mk (st := s__law_strong) l15 c15 k15
  have F16 := fun_mk (st := s__law_due) l16 c16 k16
  have F17 := fun_mk (st := s__law_right) l17 c17 k17
  have F18 := fun_mk (st := s_law) l18 c18 k18
  have bi : Bi mg := ⟨PySem.W.mg_none_of X G z1, PySem.W.mg_none_of X G z2, PySem.W.mg_none_of X G z3, PySem.W.mg_none_of X G z4, PySem.W.mg_none_of X G z5, PySem.W.mg_none_of X G z6, PySem.W.mg_none_of X G z7, PySem.W.mg_none_of X G z8, PySem.W.mg_none_of X G z9, PySem.W.mg_none_of X G z10, PySem.W.mg_none_of X G z11, PySem.W.mg_none_of X G z12, PySem.W.mg_none_of X G z13, PySem.W.mg_none_of X G z14, PySem.W.mg_none_of X G z15, PySem.W.mg_none_of X G z16, PySem.W.mg_none_of X G z17, PySem.W.mg_none_of X G z18⟩
  refine ⟨PySem.W.fnOf "law" "law" (defArgs s_law) (defBody s_law) (defScope s_law) .none kV18 dc18 pm18 an18 cd18 ct18, fun s v => .of_eq rfl, fun base _ _ => ?_⟩
  have C_length_of : Cal l.prog w K mg base "length_of" P_length_of 1 spLen f1 _ := ⟨ok_length_of F1 bi, PySem.W.mg_of X G a1, F1.kp, F1.binds (ps := P_length_of) fun _ _ _ _ _ _ us hl => match us, hl with | [_], _ => rfl⟩
  have C_weight_of : Cal l.prog w K mg base "weight_of" P_weight_of 1 spWeight f2 _ := ⟨ok_weight_of F2 bi, PySem.W.mg_of X G a2, F2.kp, F2.binds (ps := P_weight_of) fun _ _ _ _ _ _ us hl => match us, hl with | [_], _ => rfl⟩
  have C_thick_at : Cal l.prog w K mg base "thick_at" P_thick_at 1 spThick f3 _ := ⟨ok_thick_at F3 bi, PySem.W.mg_of X G a3, F3.kp, F3.binds (ps := P_thick_at) fun _ _ _ _ _ _ us hl => match us, hl with | [_, _], _ => rfl⟩
  have C_head : Cal l.prog w K mg base "head" P_head 1 spHead f4 _ := ⟨ok_head F4 bi, PySem.W.mg_of X G a4, F4.kp, F4.binds (ps := P_head) fun _ _ _ _ _ _ us hl => match us, hl with | [_, _], _ => rfl⟩
  have C_tail : Cal l.prog w K mg base "tail" P_tail 1 spTail f5 _ := ⟨ok_tail F5 bi, PySem.W.mg_of X G a5, F5.kp, F5.binds (ps := P_tail) fun _ _ _ _ _ _ us hl => match us, hl with | [_, _], _ => rfl⟩
  have C__law_blend : Cal l.prog w K mg base "_law_blend" P__law_blend 1 spBlend f6 _ := ⟨ok__law_blend F6, PySem.W.mg_of X G a6, F6.kp, F6.binds (ps := P__law_blend) fun _ _ _ _ _ _ us hl => match us, hl with | [_, _], _ => rfl⟩
  have C__law_pot : Cal l.prog w K mg base "_law_pot" P__law_pot 1 (spPot K) f7 _ := ⟨ok__law_pot F7 bi, PySem.W.mg_of X G a7, F7.kp, F7.binds (ps := P__law_pot) fun _ _ _ _ _ _ us hl => match us, hl with | [_], _ => rfl⟩
  have C__law_draw : Cal l.prog w K mg base "_law_draw" P__law_draw 2 spDraw f8 _ := ⟨ok__law_draw F8 bi C__law_blend, PySem.W.mg_of X G a8, F8.kp, F8.binds (ps := P__law_draw) fun _ _ _ _ _ _ us hl => match us, hl with | [_, _], _ => rfl⟩
  have C__law_great : Cal l.prog w K mg base "_law_great" P__law_great 3 spGreat f9 _ := ⟨ok__law_great F9 bi C__law_draw, PySem.W.mg_of X G a9, F9.kp, F9.binds (ps := P__law_great) fun _ _ _ _ _ _ us hl => match us, hl with | [_], _ => rfl⟩
  have C__law_wisp : Cal l.prog w K mg base "_law_wisp" P__law_wisp 4 spWisp f10 _ := ⟨ok__law_wisp F10 bi C__law_draw C__law_great, PySem.W.mg_of X G a10, F10.kp, F10.binds (ps := P__law_wisp) fun _ _ _ _ _ _ us hl => match us, hl with | [_, _, _], _ => rfl⟩
  have C__law_whole : Cal l.prog w K mg base "_law_whole" P__law_whole 1 spWhole f11 _ := ⟨ok__law_whole F11 bi, PySem.W.mg_of X G a11, F11.kp, F11.binds (ps := P__law_whole) fun _ _ _ _ _ _ us hl => match us, hl with | [_], _ => rfl⟩
  have C__law_same : Cal l.prog w K mg base "_law_same" P__law_same 5 (spSame K 4) f12 _ := ⟨ok__law_same F12 (PySem.W.mg_of X G a12) (F12.binds (ps := P__law_same) fun _ _ _ _ _ _ us hl => match us, hl with | [_, _], _ => rfl) bi C__law_whole 4, PySem.W.mg_of X G a12, F12.kp, F12.binds (ps := P__law_same) fun _ _ _ _ _ _ us hl => match us, hl with | [_, _], _ => rfl⟩
  have C__law_table : Cal l.prog w K mg base "_law_table" P__law_table 1 spTable f13 _ := ⟨ok__law_table F13 bi, PySem.W.mg_of X G a13, F13.kp, F13.binds (ps := P__law_table) fun _ _ _ _ _ _ us hl => match us, hl with | [_], _ => rfl⟩
  have C__law_spots : Cal l.prog w K mg base "_law_spots" P__law_spots 3 spSpots f14 _ := ⟨ok__law_spots F14 bi C__law_table C__law_draw, PySem.W.mg_of X G a14, F14.kp, F14.binds (ps := P__law_spots) fun _ _ _ _ _ _ us hl => match us, hl with | [_, _], _ => rfl⟩
  have C__law_strong : Cal l.prog w K mg base "_law_strong" P__law_strong 2 spStrong f15 _ := ⟨ok__law_strong F15 bi C__law_table, PySem.W.mg_of X G a15, F15.kp, F15.binds (ps := P__law_strong) fun _ _ _ _ _ _ us hl => match us, hl with | [_, _], _ => rfl⟩
  have C__law_due : Cal l.prog w K mg base "_law_due" P__law_due 2 spTail f16 _ := ⟨ok__law_due F16 bi C__law_table, PySem.W.mg_of X G a16, F16.kp, F16.binds (ps := P__law_due) fun _ _ _ _ _ _ us hl => match us, hl with | [_, _], _ => rfl⟩
  have C__law_right : CalG l.prog w K mg base "_law_right" P__law_right 6 spRightG f17 _ := ⟨ok__law_right F17 bi C_head C_tail C_length_of C_weight_of C_thick_at C__law_same C__law_due C__law_table C__law_spots C__law_strong C__law_draw, PySem.W.mg_of X G a17, F17.kp, F17.binds (ps := P__law_right) fun _ _ _ _ _ _ us hl => match us, hl with | [_, _], _ => rfl⟩
  exact ok_law F18 bi C__law_pot C__law_draw C__law_wisp C__law_right
end My
open PySem PySem.W PyProof.Rows
set_option maxHeartbeats 0 in
theorem PySem.Challenge.cw_evenstrand_k04_tails_and_heads_holds : PySem.Challenge.rw_evenstrand_k04_tails_and_heads.Holds := by
  w_on; o_law; k_head; (case hw => w_witness2)
  k_fill
  refine My.walkG (l := PySem.Challenge.rw_evenstrand_k04_tails_and_heads) (n := 63) (k := 7) (x := "_law_script") (sp := fun w => My.spLaw _) rfl (by decide) rfl ⟨rfl, by decide, by decide⟩ (fun w h Y => PySem.W.kIn_of Y) ?F (fun _ _ a ns hl hS => ⟨a, ns, rfl, hS, hl, fun _ => rfl⟩)
  case F =>
    intro w mg fa h KX G hmg
    refine' My.all_mk KX G hmg ?a1 ?l1 ?c1 ?k1 ?a2 ?l2 ?c2 ?k2 ?a3 ?l3 ?c3 ?k3 ?a4 ?l4 ?c4 ?k4 ?a5 ?l5 ?c5 ?k5 ?a6 ?l6 ?c6 ?k6 ?a7 ?l7 ?c7 ?k7 ?a8 ?l8 ?c8 ?k8 ?a9 ?l9 ?c9 ?k9 ?a10 ?l10 ?c10 ?k10 ?a11 ?l11 ?c11 ?k11 ?a12 ?l12 ?c12 ?k12 ?a13 ?l13 ?c13 ?k13 ?a14 ?l14 ?c14 ?k14 ?a15 ?l15 ?c15 ?k15 ?a16 ?l16 ?c16 ?k16 ?a17 ?l17 ?c17 ?k17 ?a18 ?l18 ?c18 ?k18 ?z1 ?z2 ?z3 ?z4 ?z5 ?z6 ?z7 ?z8 ?z9 ?z10 ?z11 ?z12 ?z13 ?z14 ?z15 ?z16 ?z17 ?z18
    (case a1 => k_is)
    (case l1 => k_is)
    (case c1 => k_is)
    (case k1 => k_is)
    (case a2 => k_is)
    (case l2 => k_is)
    (case c2 => k_is)
    (case k2 => k_is)
    (case a3 => k_is)
    (case l3 => k_is)
    (case c3 => k_is)
    (case k3 => k_is)
    (case a4 => k_is)
    (case l4 => k_is)
    (case c4 => k_is)
    (case k4 => k_is)
    (case a5 => k_is)
    (case l5 => k_is)
    (case c5 => k_is)
    (case k5 => k_is)
    (case a6 => k_is)
    (case l6 => k_is)
    (case c6 => k_is)
    (case k6 => k_is)
    (case a7 => k_is)
    (case l7 => k_is)
    (case c7 => k_is)
    (case k7 => k_is)
    (case a8 => k_is)
    (case l8 => k_is)
    (case c8 => k_is)
    (case k8 => k_is)
    (case a9 => k_is)
    (case l9 => k_is)
    (case c9 => k_is)
    (case k9 => k_is)
    (case a10 => k_is)
    (case l10 => k_is)
    (case c10 => k_is)
    (case k10 => k_is)
    (case a11 => k_is)
    (case l11 => k_is)
    (case c11 => k_is)
    (case k11 => k_is)
    (case a12 => k_is)
    (case l12 => k_is)
    (case c12 => k_is)
    (case k12 => k_is)
    (case a13 => k_is)
    (case l13 => k_is)
    (case c13 => k_is)
    (case k13 => k_is)
    (case a14 => k_is)
    (case l14 => k_is)
    (case c14 => k_is)
    (case k14 => k_is)
    (case a15 => k_is)
    (case l15 => k_is)
    (case c15 => k_is)
    (case k15 => k_is)
    (case a16 => k_is)
    (case l16 => k_is)
    (case c16 => k_is)
    (case k16 => k_is)
    (case a17 => k_is)
    (case l17 => k_is)
    (case c17 => k_is)
    (case k17 => k_is)
    (case a18 => k_is)
    (case l18 => k_is)
    (case c18 => k_is)
    (case k18 => k_is)
    (case z1 => k_is)
    (case z2 => k_is)
    (case z3 => k_is)
    (case z4 => k_is)
    (case z5 => k_is)
    (case z6 => k_is)
    (case z7 => k_is)
    (case z8 => k_is)
    (case z9 => k_is)
    (case z10 => k_is)
    (case z11 => k_is)
    (case z12 => k_is)
    (case z13 => k_is)
    (case z14 => k_is)
    (case z15 => k_is)
    (case z16 => k_is)
    (case z17 => k_is)
    (case z18 => k_is)
