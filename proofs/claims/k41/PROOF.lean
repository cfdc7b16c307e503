import PyProof.Rows.All
import Wide.All
import OpenK.AllK
import Wide.FinOn
import HandS.ForMost
import HandS.Wide
import HandS.IsInst
import HandS.More
import HandS.TupAny
import HandS.Codes
import HandS.Zip
import HandS.SortKw
import HandS.Walk
import KE.KMinKey
import PyProof.Rows.NestShow
import PyProof.ReprBulk
import PyProof.FitsInt
import HandS.SortInts
import HandS.Flow
import HandS.SetKeys
import HandS.NoneIn
import HandS.Style
import HandS.SetFor
import HandS.Defaults
import PyProof.LongRange
import PyProof.Rows.SortShellAny
import PyProof.FactsAll.NoneType_2
import KE.DatumOrd
import PyProof.Claim2Refuses
import PyProof.MaxThree
import HandS.TupMul
import KE.KIntText
import KE.KxIndex
import PyProof.Rows.Digits
import PySem.Challenge.RW_evenstrand_k41_baskets_and_frames_of_any
set_option Elab.async false
set_option linter.all false
set_option maxRecDepth 100000
set_option maxHeartbeats 4000000
namespace My
open PySem PySem.Spec PyProof.Rows L2
/-! ### defs that are called where no object is just being shown: there repr tells all of a thing -/
structure FnG (P : Program) (w : World) (K : PySem.W.Frag) (mg : Str → Option Value) (bs : Heap) (k : Nat) (f : Addr) (fd : FuncData) (ps : List Str) (sp : Sp) : Prop where
  long : ∀ us H Q E, sp us H Q E → us.length = ps.length
  goes : ∀ (B : Around) (ou : List Env) (t : Shared) (H : Hp) (ar : Args) (ws : List Value) (us : List V) (Q : VK) (E : XK), Room k B → B.guards = some [] → Env0 P w K mg bs B ou t H → BindsTo t fd ar (ps.zip ws) →
    Vals us ws → sp us H Q E → codeAny (model P w) B (.call (.ref f) ar) (CR CX0 ou P w H t Q E) t
section
variable {P : Program} {w : World} {K : PySem.W.Frag} {mg : Str → Option Value} {bs : Heap} {f : Addr} {fd : FuncData} {ps : List Str} {sp : Sp}
theorem FnG.up {j k : Nat} (F : FnG P w K mg bs j f fd ps sp) (h : j ≤ k) : FnG P w K mg bs k f fd ps sp := ⟨F.long, fun B ou t H ar ws us Q E r => F.goes B ou t H ar ws us Q E (r.mono h)⟩
theorem FnG.of {k : Nat} (F : FnOk P w K mg bs CX0 k f fd ps sp) : FnG P w K mg bs k f fd ps sp := ⟨F.len, fun B ou t H ar ws us Q E r _ => F.run B ou t H ar ws us Q E r⟩
/-- from the body's walk -/
theorem okG {x qual : Str} {st : Stmt} {N : List Str} {k : Nat} (F : Fun K x qual st f fd) (S : FnScope N ps (defScope st)) (ln : ∀ us H Q E, sp us H Q E → us.length = ps.length)
    (hb : ∀ (cv : Value) (B : Around) (ou : List Env) (t : Shared) (H : Hp) (us : List V) (Q : VK) (E : XK), Room k (B.deeper (envOfC qual (defScope st) t.heap.objs.size f cv)) → (B.deeper (envOfC qual (defScope st) t.heap.objs.size f cv)).guards = some [] → sp us H Q E →
      ∃ u, PSs (cxOf CX0 P w K mg bs N qual (defScope st) f cv B ou t H E).nox (defBody st) u ∧ u { nx := fun _ H' => Q .non H', rt := Q } (start N us) H) : FnG P w K mg bs (k + 1) f fd ps sp := by
  obtain ⟨oc, od, kV, dc, pm, an, cv, ct, sl, rfl, lk, hcv⟩ := F.ex
  refine ⟨ln, fun B ou t H ar ws us Q E r gd e0 bi va hs => ?_⟩
  have kin : K.In t.heap := e0.mod.kin.keeps fun b o e => (e0.bs b o e).1
  have nol : t.heap.NoLimit := e0.mod.nolimit.keeps fun b o e => (e0.bs b o e).1
  refine codeAny_call_function r.depth (kin _ _ lk) rfl S.co S.gen rfl (PySem.W.codeRec_of kin hcv) (bi _ _ _ _ (wpAny_newFunctionEnv_cells S.kind (fun ⟨y, v⟩ hy => ?_) fun en hen t1 z => ?_))
  · rcases S.par y (List.of_mem_zip hy).1 with l | l
    · exact .inl l
    · exact .inr ⟨l, PySem.W.cellsFrom_some _ _ _ (.inl l)⟩
  · subst hen
    refine ⟨nol.keeps z.toInCall.keep, codeAny_func ?_⟩
    obtain ⟨u, hu, hq⟩ := hb cv B ou t H us Q E (r.deeper _) gd hs
    refine wpAny_mono (hu.nox.run [] t1 (start N us) H _ (inv_start S r.hd e0 (ln _ _ _ _ hs) va z) hq) (fun fl t' ht => ?_) fun _ _ ht => ht
    cases fl with
    | ret y =>
      obtain ⟨v, σ', H', J, rv, q⟩ := ht
      exact ⟨v, H', J.os, J.bare, J.base, J.hok, rv, q⟩
    | next =>
      obtain ⟨σ', H', J, q⟩ := ht
      exact ⟨.non, H', J.os, J.bare, J.base, J.hok, rfl, q⟩
    | brk => exact ht.elim fun _ z => z.elim fun _ z => z.2.elim
    | cont => exact ht.elim fun _ z => z.elim fun _ z => z.2.elim
end
section
variable {X : Cx}
theorem pe_callG {k : Nat} {f : Addr} {fd : FuncData} {ps : List Str} {sp : Sp} {x : Str} {p pos : Pos} {e : Expr} {es : List Expr} {t : TA} (F : FnG X.prog X.w X.K X.mg X.base k f fd ps sp) (hr : Room k X.A) (gd : X.A.guards = some []) (hg : Gl X x) (hm : X.mg x = some (.ref f)) (kp : PySem.W.keepIn X.K (.ref f) = true)
    (bd : Binds X.K fd ps []) (ha : PA X (e :: es) t) (hdb : (x == ("__debug__" : Str)) = false := by decide) (hst : starEach (e :: es) X.env = (false, eval e X.env) :: starEach es X.env := by rfl)
    (hpl : (backTo pos (starEach es X.env)).any (·.1) = false := by rfl) : PE X (.Call (.Name x p) (e :: es) [] pos) (tCall sp [] E0 t) := by
  refine ⟨fun pins s σ H Q I h => wpAny_Call_Name_kw (ld_glob I hg hm (PySem.W.callWith_K (h₀ := X.base) I.ok.mod.kin kp (thn (ha.run pos pins s σ H _ I h) fun ws s1 ⟨us, H1, J, va, q⟩ => ⟨J.kIn, ?_⟩) hst hpl) hdb)⟩
  have q : sp (us ++ []) H1 Q E0 := q
  rw [List.append_nil] at q
  have hl : (ws ++ []).length = ps.length := by rw [List.append_nil, ← va.length]; exact F.long _ _ _ _ q
  have bt := bd s1 ws J.kIn hl
  rw [List.append_nil] at bt
  refine wpAny_call (codeAny_mono (F.goes X.A X.stack s1 H1 ⟨ws, []⟩ ws us Q E0 hr gd J.env0 bt va q) fun r s' hq => ?_)
  match r, hq with
  | .ok (.ret _), hq => exact J.after hq
  | .ok .next, hq => exact False.elim hq
  | .ok .brk, hq => exact False.elim hq
  | .ok .cont, hq => exact False.elim hq
  | .error _, hq => exact False.elim hq
/-- repr of a thing made of lists, tuples, texts, numbers, truths and None -/
def rRepr (K : PySem.W.Frag) : List V → Hp → VK → Prop := fun xs H Q => ∃ (a : Addr) (d : PyData), xs = [.ref a] ∧ Dp K H (.ref a) d ∧ d.showable = true ∧ d.hasDict = false ∧ d.depth ≤ 60 ∧ d.shown.length ≤ sizeLine ∧ Q (.str d.shown) H
theorem call_reprD (gd : X.A.guards = some []) (hu : X.A.units + 64 < cLine) : CallR X (.builtin "repr") (rRepr X.K) := by
  intro pins s σ H xs us Q I va h
  obtain ⟨a, d, rfl, dp, h1, h2, h3, h4, q⟩ := h
  rw [Vals.ref1 va]
  obtain ⟨as, rd⟩ := Dp.reads I d (.ref a) (.ref a) dp rfl
  exact repr_of_reads' rd h1 (PyData.noDict_hsm h2) gd (by omega) (fun _ _ e => e) (fun h' u tk hk => ⟨.str _, H, I.kept hk, ⟨_, rfl⟩, q⟩) h4
end
/-! ### the text -/
def topS (i : Nat) : Stmt := PySem.Challenge.pw_evenstrand_k41_baskets_and_frames_of_any.main.body.getD i (.Pass ⟨0, 0, 0, 0⟩)
abbrev s_is_whole : Stmt := topS 1
abbrev N_is_whole : List Str := ["thing", "least"]
abbrev P_is_whole : List Str := ["thing", "least"]
theorem sc_is_whole : FnScope N_is_whole P_is_whole (defScope s_is_whole) := ⟨rfl, rfl, rfl, by decide +kernel, rfl, by decide +kernel, by decide +kernel⟩
abbrev s_is_tuple : Stmt := topS 2
abbrev N_is_tuple : List Str := ["thing", "fewest", "most"]
abbrev P_is_tuple : List Str := ["thing", "fewest", "most"]
theorem sc_is_tuple : FnScope N_is_tuple P_is_tuple (defScope s_is_tuple) := ⟨rfl, rfl, rfl, by decide +kernel, rfl, by decide +kernel, by decide +kernel⟩
abbrev s_is_step : Stmt := topS 5
abbrev N_is_step : List Str := ["thing"]
abbrev P_is_step : List Str := ["thing"]
theorem sc_is_step : FnScope N_is_step P_is_step (defScope s_is_step) := ⟨rfl, rfl, rfl, by decide +kernel, rfl, by decide +kernel, by decide +kernel⟩
abbrev s_are_steps : Stmt := topS 6
abbrev N_are_steps : List Str := ["thing", "ahead", "step"]
abbrev P_are_steps : List Str := ["thing"]
theorem sc_are_steps : FnScope N_are_steps P_are_steps (defScope s_are_steps) := ⟨rfl, rfl, rfl, by decide +kernel, rfl, by decide +kernel, by decide +kernel⟩
abbrev s_is_wisp : Stmt := topS 7
abbrev N_is_wisp : List Str := ["thing", "sort", "steps"]
abbrev P_is_wisp : List Str := ["thing"]
theorem sc_is_wisp : FnScope N_is_wisp P_is_wisp (defScope s_is_wisp) := ⟨rfl, rfl, rfl, by decide +kernel, rfl, by decide +kernel, by decide +kernel⟩
abbrev s_length_of : Stmt := topS 8
abbrev N_length_of : List Str := ["wisp", "thickness", "long"]
abbrev P_length_of : List Str := ["wisp"]
theorem sc_length_of : FnScope N_length_of P_length_of (defScope s_length_of) := ⟨rfl, rfl, rfl, by decide +kernel, rfl, by decide +kernel, by decide +kernel⟩
abbrev s_is_many : Stmt := topS 14
abbrev N_is_many : List Str := ["thing"]
abbrev P_is_many : List Str := ["thing"]
theorem sc_is_many : FnScope N_is_many P_is_many (defScope s_is_many) := ⟨rfl, rfl, rfl, by decide +kernel, rfl, by decide +kernel, by decide +kernel⟩
abbrev s_is_kind : Stmt := topS 15
abbrev N_is_kind : List Str := ["thing", "wisp", "many"]
abbrev P_is_kind : List Str := ["thing"]
theorem sc_is_kind : FnScope N_is_kind P_is_kind (defScope s_is_kind) := ⟨rfl, rfl, rfl, by decide +kernel, rfl, by decide +kernel, by decide +kernel⟩
abbrev s_is_basket : Stmt := topS 16
abbrev N_is_basket : List Str := ["thing", "kind"]
abbrev P_is_basket : List Str := ["thing"]
theorem sc_is_basket : FnScope N_is_basket P_is_basket (defScope s_is_basket) := ⟨rfl, rfl, rfl, by decide +kernel, rfl, by decide +kernel, by decide +kernel⟩
abbrev s_is_frame : Stmt := topS 17
abbrev N_is_frame : List Str := ["thing", "low", "high", "hand"]
abbrev P_is_frame : List Str := ["thing"]
theorem sc_is_frame : FnScope N_is_frame P_is_frame (defScope s_is_frame) := ⟨rfl, rfl, rfl, by decide +kernel, rfl, by decide +kernel, by decide +kernel⟩
abbrev s__law_pot : Stmt := topS 19
abbrev N__law_pot : List Str := ["_law_script", "_law_k", "_law_cell", "_law_great"]
abbrev P__law_pot : List Str := ["_law_script", "_law_k"]
theorem sc__law_pot : FnScope N__law_pot P__law_pot (defScope s__law_pot) := ⟨rfl, rfl, rfl, by decide +kernel, rfl, by decide +kernel, by decide +kernel⟩
abbrev s__law_take : Stmt := topS 20
abbrev N__law_take : List Str := ["_law_pot_here", "_law_many", "_law_digit"]
abbrev P__law_take : List Str := ["_law_pot_here", "_law_many"]
theorem sc__law_take : FnScope N__law_take P__law_take (defScope s__law_take) := ⟨rfl, rfl, rfl, by decide +kernel, rfl, by decide +kernel, by decide +kernel⟩
abbrev s__law_wisp : Stmt := topS 21
abbrev N__law_wisp : List Str := ["_law_pot_here", "_law_most", "_law_scale", "_law_places", "_law_step", "_law_steps", "_law_long"]
abbrev P__law_wisp : List Str := ["_law_pot_here", "_law_most", "_law_scale"]
theorem sc__law_wisp : FnScope N__law_wisp P__law_wisp (defScope s__law_wisp) := ⟨rfl, rfl, rfl, by decide +kernel, rfl, by decide +kernel, by decide +kernel⟩
abbrev s__law_set : Stmt := topS 22
abbrev N__law_set : List Str := ["_law_pot_here", "_law_hand", "_law_scale", "_law_many_kinds", "_law_places", "_law_kinds", "_law_k", "_law_many", "_law_low", "_law_high"]
abbrev P__law_set : List Str := ["_law_pot_here"]
theorem sc__law_set : FnScope N__law_set P__law_set (defScope s__law_set) := ⟨rfl, rfl, rfl, by decide +kernel, rfl, by decide +kernel, by decide +kernel⟩
abbrev s__law_bent : Stmt := topS 23
abbrev N__law_bent : List Str := ["_law_pot_here", "_law_thing", "_law_at", "_law_some", "_law_twice"]
abbrev P__law_bent : List Str := ["_law_pot_here", "_law_thing"]
theorem sc__law_bent : FnScope N__law_bent P__law_bent (defScope s__law_bent) := ⟨rfl, rfl, rfl, by decide +kernel, rfl, by decide +kernel, by decide +kernel⟩
abbrev s__law_whole : Stmt := topS 24
abbrev N__law_whole : List Str := ["_law_thing", "_law_least"]
abbrev P__law_whole : List Str := ["_law_thing", "_law_least"]
theorem sc__law_whole : FnScope N__law_whole P__law_whole (defScope s__law_whole) := ⟨rfl, rfl, rfl, by decide +kernel, rfl, by decide +kernel, by decide +kernel⟩
abbrev s__law_is_short : Stmt := topS 25
abbrev N__law_is_short : List Str := ["_law_thing", "_law_places", "_law_ahead", "_law_step"]
abbrev P__law_is_short : List Str := ["_law_thing"]
theorem sc__law_is_short : FnScope N__law_is_short P__law_is_short (defScope s__law_is_short) := ⟨rfl, rfl, rfl, by decide +kernel, rfl, by decide +kernel, by decide +kernel⟩
abbrev s__law_is_basket : Stmt := topS 26
abbrev N__law_is_basket : List Str := ["_law_thing", "_law_kind"]
abbrev P__law_is_basket : List Str := ["_law_thing"]
theorem sc__law_is_basket : FnScope N__law_is_basket P__law_is_basket (defScope s__law_is_basket) := ⟨rfl, rfl, rfl, by decide +kernel, rfl, by decide +kernel, by decide +kernel⟩
abbrev s__law_is_frame : Stmt := topS 27
abbrev N__law_is_frame : List Str := ["_law_thing", "_law_part"]
abbrev P__law_is_frame : List Str := ["_law_thing"]
theorem sc__law_is_frame : FnScope N__law_is_frame P__law_is_frame (defScope s__law_is_frame) := ⟨rfl, rfl, rfl, by decide +kernel, rfl, by decide +kernel, by decide +kernel⟩
abbrev s__law_right : Stmt := topS 28
abbrev N__law_right : List Str := ["_law_thing", "_law_turn", "_law_found", "_law_one"]
abbrev P__law_right : List Str := ["_law_thing"]
theorem sc__law_right : FnScope N__law_right P__law_right (defScope s__law_right) := ⟨rfl, rfl, rfl, by decide +kernel, rfl, by decide +kernel, by decide +kernel⟩
abbrev s__law_edges : Stmt := topS 29
abbrev N__law_edges : List Str := ["_law_one", "_law_stairs", "_law_some", "_law_k"]
abbrev P__law_edges : List Str := []
theorem sc__law_edges : FnScope N__law_edges P__law_edges (defScope s__law_edges) := ⟨rfl, rfl, rfl, by decide +kernel, rfl, by decide +kernel, by decide +kernel⟩
abbrev s_law : Stmt := topS 30
abbrev N_law : List Str := ["_law_script", "_law_thing", "_law_k", "_law_pot_here", "_law_basket", "_law_frame", "_law_turn"]
abbrev P_law : List Str := ["_law_script"]
theorem sc_law : FnScope N_law P_law (defScope s_law) := ⟨rfl, rfl, rfl, by decide +kernel, rfl, by decide +kernel, by decide +kernel⟩
/-! ### the names that are still the built-in ones -/
structure Bi (mg : Str → Option Value) : Prop where
  m_len : mg "len" = none
  m_sum : mg "sum" = none
  m_abs : mg "abs" = none
  m_isinstance : mg "isinstance" = none
  m_max : mg "max" = none
  m_min : mg "min" = none
  m_tuple : mg "tuple" = none
  m_list : mg "list" = none
  m_int : mg "int" = none
  m_bool : mg "bool" = none
  m_range : mg "range" = none
  m_enumerate : mg "enumerate" = none
  m_zip : mg "zip" = none
  m_repr : mg "repr" = none
  m_str : mg "str" = none
  m_sorted : mg "sorted" = none
  m_set : mg "set" = none
  m_all : mg "all" = none
  m_any : mg "any" = none
  m_dict : mg "dict" = none
/-! ### a def as its callers use it -/
structure Cal (P : Program) (w : World) (K : PySem.W.Frag) (mg : Str → Option Value) (base : Heap) (x : Str) (ps : List Str) (k : Nat) (sp : Sp) (f : Addr) (fd : FuncData) : Prop where
  G : FnOk P w K mg base CX0 k f fd ps sp
  g : mg x = some (.ref f)
  kp : PySem.W.keepIn K (.ref f) = true
  b : Binds K fd ps []
structure CalG (P : Program) (w : World) (K : PySem.W.Frag) (mg : Str → Option Value) (base : Heap) (x : Str) (ps : List Str) (k : Nat) (sp : Sp) (f : Addr) (fd : FuncData) : Prop where
  G : FnG P w K mg base k f fd ps sp
  g : mg x = some (.ref f)
  kp : PySem.W.keepIn K (.ref f) = true
  b : Binds K fd ps []
/-! ### heaps -/
def Keep (p l : Addr) (H H' : Hp) : Prop := ∀ a o, a ≠ p → a ≠ l → H a = some o → H' a = some o
theorem Keep.refl {p l : Addr} {H : Hp} : Keep p l H H := fun _ _ _ _ h => h
theorem Keep.trans {p l : Addr} {H H1 H2 : Hp} (a : Keep p l H H1) (b : Keep p l H1 H2) : Keep p l H H2 := fun c o n1 n2 h => b c o n1 n2 (a c o n1 n2 h)
theorem Keep.new {p l : Addr} {H H1 : Hp} {a : Addr} {o : HO} (k : Keep p l H H1) (h : H1 a = none) : Keep p l H (upd H1 a o) := fun c u n1 n2 e => by
  have e1 := k c u n1 n2 e
  rw [upd_ne (ne_of_none e1 h)]
  exact e1
theorem Keep.own {p l : Addr} {H H1 : Hp} {o : HO} (k : Keep p l H H1) : Keep p l H (upd H1 p o) := fun c u n1 n2 e => by
  rw [upd_ne n1]
  exact k c u n1 n2 e
theorem Keep.own2 {p l : Addr} {H H1 : Hp} {o : HO} (k : Keep p l H H1) : Keep p l H (upd H1 l o) := fun c u n1 n2 e => by
  rw [upd_ne n2]
  exact k c u n1 n2 e
/-- an object that was not there at H may change -/
theorem Keep.mine {p l a : Addr} {H H1 : Hp} {o : HO} (k : Keep p l H H1) (h : H a = none) : Keep p l H (upd H1 a o) := fun c u n1 n2 e => by
  rw [upd_ne (ne_of_none e h)]
  exact k c u n1 n2 e
def Tups (H H' : Hp) : Prop := ∀ a xs, H a = some (.tup xs) → H' a = some (.tup xs)
theorem Tups.refl {H : Hp} : Tups H H := fun _ _ h => h
theorem Tups.trans {H H1 H2 : Hp} (a : Tups H H1) (b : Tups H1 H2) : Tups H H2 := fun c xs h => b c xs (a c xs h)
theorem Tups.new {H : Hp} {a : Addr} {o : HO} (h : H a = none) : Tups H (upd H a o) := fun c xs e => by
  rw [upd_ne (ne_of_none e h)]
  exact e
theorem Tups.ls {H : Hp} {a : Addr} {xs : List V} {o : HO} (h : H a = some (.lst xs)) : Tups H (upd H a o) := fun c ys e => by
  have n : c ≠ a := ne_of e h (by intro z; cases z)
  rw [upd_ne n]
  exact e
theorem Tups.same {H H' : Hp} (h : Same H H') : Tups H H' := fun a xs e => h a _ e
/-- the pot: the cells that are left, the great number at hand, the seed, how many were drawn -/
def Pot (H : Hp) (p l : Addr) (T : Nat) : Prop := ∃ (ns : List Int) (c m : Int) (t : Nat), H p = some (.lst [.ref l, .int c, .int m, .int (t : Int)]) ∧ H l = some (.lst (ns.map V.int)) ∧ 0 ≤ c ∧ t ≤ T ∧ ns.length ≤ 63
theorem Pot.ne {H : Hp} {p l : Addr} {T : Nat} (h : Pot H p l T) : p ≠ l := by
  obtain ⟨ns, c, m, t, h1, h2, _⟩ := h
  intro e
  rw [e, h2] at h1
  cases ns with
  | nil => exact absurd h1 (by intro z; cases z)
  | cons n r => exact absurd h1 (by intro z; cases z)
theorem Pot.mono {H : Hp} {p l : Addr} {T U : Nat} (h : Pot H p l T) (e : T ≤ U) : Pot H p l U := by
  obtain ⟨ns, c, m, t, h1, h2, h3, h4, h5⟩ := h
  exact ⟨ns, c, m, t, h1, h2, h3, Nat.le_trans h4 e, h5⟩
theorem Pot.new {H : Hp} {p l a : Addr} {T : Nat} {o : HO} (h : Pot H p l T) (n : H a = none) : Pot (upd H a o) p l T := by
  obtain ⟨ns, c, m, t, h1, h2, h3⟩ := h
  exact ⟨ns, c, m, t, by rw [upd_ne (ne_of_none h1 n)]; exact h1, by rw [upd_ne (ne_of_none h2 n)]; exact h2, h3⟩
theorem Pot.other {H : Hp} {p l a : Addr} {T : Nat} {o : HO} (h : Pot H p l T) (n1 : a ≠ p) (n2 : a ≠ l) : Pot (upd H a o) p l T := by
  obtain ⟨ns, c, m, t, h1, h2, h3⟩ := h
  exact ⟨ns, c, m, t, by rw [upd_ne n1.symm]; exact h1, by rw [upd_ne n2.symm]; exact h2, h3⟩
theorem Pot.notP {H : Hp} {p l a : Addr} {T : Nat} {xs : List V} (h : Pot H p l T) (e : H a = some (.tup xs)) : a ≠ p ∧ a ≠ l := by
  obtain ⟨ns, c, m, t, h1, h2, h3⟩ := h
  exact ⟨ne_of e h1 (by intro z; cases z), ne_of e h2 (by intro z; cases z)⟩
theorem Pot.fresh {H : Hp} {p l a : Addr} {T : Nat} (h : Pot H p l T) (e : H a = none) : a ≠ p ∧ a ≠ l := by
  obtain ⟨ns, c, m, t, h1, h2, h3⟩ := h
  exact ⟨(ne_of_none h1 e).symm, (ne_of_none h2 e).symm⟩
theorem Keep.tups {p l : Addr} {H H' : Hp} {T : Nat} (k : Keep p l H H') (h : Pot H p l T) : Tups H H' := fun a xs e => by
  obtain ⟨n1, n2⟩ := h.notP e
  exact k a _ n1 n2 e
/-! ### what is drawn -/
def spBlend : Sp := fun vs H Q _ => ∃ (n : Int) (t : Int), vs = [.int n, .int t] ∧ 0 ≤ t ∧ t < 2 ^ 62 ∧ ∀ r, Q (.int r) H
def spDraw : Sp := fun vs H Q _ => ∃ (p l : Addr) (T : Nat) (many : Int), vs = [.ref p, .int many] ∧ Pot H p l T ∧ T < 2 ^ 40 ∧ CDivW 0 many ∧
  ∀ d H', 0 ≤ d → d < many → Pot H' p l (T + 1) → Keep p l H H' → Q (.int d) H'
def spGreat : Sp := fun vs H Q _ => ∃ (p l : Addr) (T : Nat), vs = [.ref p] ∧ Pot H p l T ∧ T < 2 ^ 39 ∧
  ∀ d H', 0 ≤ d → d < 2 ^ 122 → Pot H' p l (T + 5) → Keep p l H H' → Q (.int d) H'
/-! ### tuples at addresses -/
def TupsAt (H : Hp) (as : List Addr) (xss : List (List V)) : Prop := as.length = xss.length ∧ ∀ (i : Nat) (a : Addr), as[i]? = some a → ∃ xs, xss[i]? = some xs ∧ H a = some (.tup xs)
theorem TupsAt.nil {H : Hp} : TupsAt H [] [] := ⟨rfl, fun i a h => by simp at h⟩
theorem TupsAt.mono {H H' : Hp} {as : List Addr} {xss : List (List V)} (h : TupsAt H as xss) (t : Tups H H') : TupsAt H' as xss := ⟨h.1, fun i a e => by
  obtain ⟨xs, h1, h2⟩ := h.2 i a e
  exact ⟨xs, h1, t a xs h2⟩⟩
theorem TupsAt.cons {H : Hp} {as : List Addr} {xss : List (List V)} {a : Addr} {xs : List V} (h : TupsAt H as xss) (e : H a = some (.tup xs)) : TupsAt H (a :: as) (xs :: xss) := by
  refine ⟨by simp [h.1], fun i b hb => ?_⟩
  cases i with
  | zero =>
    have : a = b := Option.some.inj hb
    subst this
    exact ⟨xs, rfl, e⟩
  | succ j => exact h.2 j b hb
theorem TupsAt.snoc {H : Hp} {as : List Addr} {xss : List (List V)} {a : Addr} {xs : List V} (h : TupsAt H as xss) (e : H a = some (.tup xs)) : TupsAt H (as ++ [a]) (xss ++ [xs]) := by
  refine ⟨by simp [h.1], fun i b hb => ?_⟩
  by_cases hi : i < as.length
  · rw [List.getElem?_append_left hi] at hb
    obtain ⟨ys, h1, h2⟩ := h.2 i b hb
    exact ⟨ys, by rw [List.getElem?_append_left (by rw [← h.1]; exact hi)]; exact h1, h2⟩
  · rw [List.getElem?_append_right (by omega)] at hb
    have hz : i - as.length = 0 := by
      cases hk : i - as.length with
      | zero => rfl
      | succ n =>
        rw [hk] at hb
        simp at hb
    rw [hz] at hb
    have : a = b := Option.some.inj hb
    subst this
    refine ⟨xs, ?_, e⟩
    rw [List.getElem?_append_right (by rw [← h.1]; omega), ← h.1, hz]
    rfl
theorem TupsAt.get {H : Hp} {as : List Addr} {xss : List (List V)} (h : TupsAt H as xss) {i : Nat} {v : V} (e : (as.map V.ref)[i]? = some v) : ∃ a xs, v = .ref a ∧ as[i]? = some a ∧ xss[i]? = some xs ∧ H a = some (.tup xs) := by
  rw [List.getElem?_map] at e
  cases q : as[i]? with
  | none =>
    rw [q] at e
    cases e
  | some a =>
    rw [q] at e
    have e' : V.ref a = v := Option.some.inj e
    obtain ⟨xs, h1, h2⟩ := h.2 i a q
    exact ⟨a, xs, e'.symm, rfl, h1, h2⟩
/-! ### wisps -/
abbrev stepV (p : Int × Int) : List V := [.int p.1, .int p.2]
def WispAt (H : Hp) (a : Addr) (s : Int) (ps : List (Int × Int)) : Prop := ∃ (st : Addr) (as : List Addr), H a = some (.tup [.int s, .ref st]) ∧ H st = some (.tup (as.map V.ref)) ∧ TupsAt H as (ps.map stepV)
theorem WispAt.mono {H H' : Hp} {a : Addr} {s : Int} {ps : List (Int × Int)} (h : WispAt H a s ps) (t : Tups H H') : WispAt H' a s ps := by
  obtain ⟨st, as, h1, h2, h3⟩ := h
  exact ⟨st, as, t _ _ h1, t _ _ h2, h3.mono t⟩
theorem step_get {H : Hp} {as : List Addr} {ps : List (Int × Int)} (h : TupsAt H as (ps.map stepV)) {i : Nat} {v : V} (e : (as.map V.ref)[i]? = some v) : ∃ a t g, v = .ref a ∧ ps[i]? = some (t, g) ∧ H a = some (.tup [.int t, .int g]) := by
  obtain ⟨a, xs, h1, _, h2, h3⟩ := h.get e
  rw [List.getElem?_map] at h2
  cases q : ps[i]? with
  | none =>
    rw [q] at h2
    cases h2
  | some p =>
    rw [q] at h2
    have e' : stepV p = xs := Option.some.inj h2
    subst e'
    exact ⟨a, p.1, p.2, h1, rfl, h3⟩
def Good (ps : List (Int × Int)) : Prop := 1 ≤ ps.length ∧ ps.length ≤ 10 ∧ ∀ p ∈ ps, 1 ≤ p.1 ∧ p.1 < 2 ^ 200 ∧ 1 ≤ p.2 ∧ p.2 < 2 ^ 200
def Falls (ps : List (Int × Int)) : Prop := ps.Pairwise (fun a b => b.1 < a.1)
def Small (ps : List (Int × Int)) : Prop := ∀ p ∈ ps, p.1 ≤ 1000 ∧ p.2 ≤ 3
def spPot (K : PySem.W.Frag) : Sp := fun vs H Q _ => ∃ (a : Addr) (ns : List Int), vs = [.ref a] ∧ SqL K H a (ns.map V.int) ∧ ns.length ≤ 63 ∧
  ∀ H' p l, Same H H' → H p = none → H l = none → Pot H' p l 0 → Q (.ref p) H'
def spWisp : Sp := fun vs H Q _ => ∃ (p l : Addr) (T : Nat) (most : Int) (small : Bool), vs = [.ref p, .int most, .bl small] ∧ Pot H p l T ∧ T < 2 ^ 38 ∧ 1 ≤ most ∧ most ≤ 10 ∧
  ∀ H' a s ps, Pot H' p l (T + 150) → Keep p l H H' → WispAt H' a s ps → 0 ≤ s → s ≤ 1 → Good ps → (ps.length : Int) ≤ most → Falls ps → (small = true → Small ps) → H a = none → Q (.ref a) H'
def spWhole : Sp := fun vs H Q _ => ∃ i : Int, vs = [.int i] ∧ Q (.bl true) H
theorem Keep.free {p l a : Addr} {H H' : Hp} {T : Nat} (k : Keep p l H H') (hp : Pot H' p l T) (h : H' a = none) : H a = none := by
  obtain ⟨n1, n2⟩ := hp.fresh h
  cases q : H a with
  | none => rfl
  | some o =>
    rw [k a o n1 n2 q] at h
    cases h
/-! ### the mirrors -/
def longs (ps : List (Int × Int)) : Int := (ps.map (·.2)).sum
def weigh (ps : List (Int × Int)) : Int := (ps.map fun p => p.1 * p.2).sum
def thickAt : List (Int × Int) → Int → Int
  | [], _ => 0
  | (t, g) :: r, k => if k < g then t else thickAt r (k - g)
abbrev rowV (t : Int × Int × Int) : List V := [.int t.1, .int t.2.1, .int t.2.2]
def tableOf : Int → List (Int × Int) → List (Int × Int × Int)
  | _, [] => []
  | b, (t, g) :: r => (b, b + g, t) :: tableOf (b + g) r
def inRow (k : Int) (t : Int × Int × Int) : Bool := decide (t.1 ≤ k) && decide (k < t.2.1)
def strongOf (k : Int) (ts : List (Int × Int × Int)) : Int := ((ts.filter (inRow k)).map (·.2.2)).sum
theorem longs_nonneg : ∀ {ps : List (Int × Int)}, (∀ p ∈ ps, 1 ≤ p.2) → 0 ≤ longs ps
  | [], _ => by decide
  | p :: r, h => by
    have h1 := h p (by simp)
    have h2 := longs_nonneg (ps := r) fun x hx => h x (by simp [hx])
    unfold longs at *
    rw [List.map_cons, List.sum_cons]
    omega
theorem longs_cons {p : Int × Int} {r : List (Int × Int)} : longs (p :: r) = p.2 + longs r := by
  unfold longs
  rw [List.map_cons, List.sum_cons]
theorem weigh_cons {p : Int × Int} {r : List (Int × Int)} : weigh (p :: r) = p.1 * p.2 + weigh r := by
  unfold weigh
  rw [List.map_cons, List.sum_cons]
theorem table_len : ∀ (ps : List (Int × Int)) (b : Int), (tableOf b ps).length = ps.length
  | [], _ => rfl
  | (t, g) :: r, b => by
    show (tableOf (b + g) r).length + 1 = r.length + 1
    rw [table_len r]
theorem table_get : ∀ (ps : List (Int × Int)) (b : Int) (i : Nat) (t g : Int), ps[i]? = some (t, g) → (tableOf b ps)[i]? = some (b + longs (ps.take i), b + longs (ps.take (i + 1)), t)
  | [], _, _, _, _, h => by simp at h
  | (t', g') :: r, b, 0, t, g, h => by
    have e := Option.some.inj h
    obtain ⟨rfl, rfl⟩ := Prod.mk.inj e
    show some (b, b + g', t') = some (b + longs [], b + longs [(t', g')], t')
    unfold longs
    simp
  | (t', g') :: r, b, i + 1, t, g, h => by
    show (tableOf (b + g') r)[i]? = some (b + longs ((t', g') :: r.take i), b + longs ((t', g') :: r.take (i + 1)), t)
    rw [table_get r (b + g') i t g h, longs_cons, longs_cons]
    simp only [Int.add_assoc]
theorem strong_cons {k : Int} {t : Int × Int × Int} {ts : List (Int × Int × Int)} : strongOf k (t :: ts) = (if inRow k t = true then t.2.2 else 0) + strongOf k ts := by
  unfold strongOf
  rw [List.filter_cons]
  split
  · rw [List.map_cons, List.sum_cons]
  · rw [Int.zero_add]
theorem strong_table : ∀ (ps : List (Int × Int)) (b k : Int), (∀ p ∈ ps, 1 ≤ p.2) → strongOf k (tableOf b ps) = if k < b then 0 else thickAt ps (k - b)
  | [], b, k, _ => by
    show (0 : Int) = if k < b then 0 else 0
    split <;> rfl
  | (t, g) :: r, b, k, h => by
    have hg : 1 ≤ g := h (t, g) (by simp)
    have ih := strong_table r (b + g) k fun x hx => h x (by simp [hx])
    show strongOf k ((b, b + g, t) :: tableOf (b + g) r) = if k < b then 0 else if k - b < g then t else thickAt r (k - b - g)
    rw [strong_cons, ih]
    have e : k - b - g = k - (b + g) := by omega
    rw [e]
    by_cases h1 : k < b
    · rw [if_pos h1, if_pos (show k < b + g by omega), if_neg]
      · rfl
      · intro z
        have := (Bool.and_eq_true_iff.mp z).1
        have := of_decide_eq_true this
        simp only at this
        omega
    · by_cases h2 : k - b < g
      · rw [if_neg h1, if_pos h2, if_pos (show k < b + g by omega), if_pos]
        · show t + 0 = t
          omega
        · exact Bool.and_eq_true_iff.mpr ⟨decide_eq_true (show b ≤ k by omega), decide_eq_true (show k < b + g by omega)⟩
      · rw [if_neg h1, if_neg h2, if_neg (show ¬ k < b + g by omega), if_neg]
        · omega
        · intro z
          have := of_decide_eq_true (Bool.and_eq_true_iff.mp z).2
          simp only at this
          omega
def dueOf (ts : List (Int × Int × Int)) : Int := (ts.map fun t => (t.2.1 - t.1) * t.2.2).sum
theorem due_table : ∀ (ps : List (Int × Int)) (b : Int), dueOf (tableOf b ps) = weigh ps
  | [], _ => rfl
  | (t, g) :: r, b => by
    have ih := due_table r (b + g)
    show ((b, b + g, t) :: tableOf (b + g) r |>.map fun t => (t.2.1 - t.1) * t.2.2).sum = weigh ((t, g) :: r)
    rw [weigh_cons, List.map_cons, List.sum_cons, ← ih]
    show (b + g - b) * t + dueOf _ = t * g + dueOf _
    rw [show b + g - b = g by omega, Int.mul_comm]
def sumTo (n : Nat) (f : Int → Int) : Int := ((List.range n).map fun (i : Nat) => f (i : Int)).sum
theorem sumTo_succ (n : Nat) (f : Int → Int) : sumTo (n + 1) f = sumTo n f + f n := by
  unfold sumTo
  rw [List.range_succ, List.map_append, List.sum_append]
  simp
theorem sumTo_const (t : Int) : ∀ n : Nat, sumTo n (fun _ => t) = n * t
  | 0 => by simp [sumTo]
  | n + 1 => by
    rw [sumTo_succ, sumTo_const t n, Int.natCast_add, Int.add_mul]
    simp
theorem sumTo_add (f : Int → Int) (n : Nat) : ∀ m : Nat, sumTo (n + m) f = sumTo n f + sumTo m (fun k => f (n + k))
  | 0 => by simp [sumTo]
  | m + 1 => by
    rw [← Nat.add_assoc, sumTo_succ, sumTo_succ, sumTo_add f n m, Int.natCast_add, Int.add_assoc]
theorem sumTo_congr {f g : Int → Int} : ∀ n : Nat, (∀ i : Nat, i < n → f i = g i) → sumTo n f = sumTo n g
  | 0, _ => rfl
  | n + 1, h => by
    rw [sumTo_succ, sumTo_succ, sumTo_congr n (fun i hi => h i (by omega)), h n (by omega)]
theorem sumTo_thick : ∀ (ps : List (Int × Int)) (n : Nat), (∀ p ∈ ps, 1 ≤ p.2) → longs ps ≤ n → sumTo n (thickAt ps) = weigh ps
  | [], n, _, _ => by
    rw [show thickAt [] = fun _ => 0 from funext fun _ => rfl, sumTo_const]
    simp [weigh]
  | (t, g) :: r, n, h, hl => by
    have hg : 1 ≤ g := h (t, g) (by simp)
    rw [longs_cons] at hl
    have hl : g + longs r ≤ n := hl
    have h0 := longs_nonneg (ps := r) fun x hx => h x (by simp [hx])
    obtain ⟨G, rfl⟩ : ∃ G : Nat, g = G := ⟨g.toNat, by omega⟩
    obtain ⟨m, rfl⟩ : ∃ m : Nat, n = G + m := ⟨n - G, by omega⟩
    rw [sumTo_add, weigh_cons]
    have ih := sumTo_thick r m (fun x hx => h x (by simp [hx])) (by omega)
    have e1 : sumTo G (thickAt ((t, (G : Int)) :: r)) = G * t := by
      rw [← sumTo_const t G]
      refine sumTo_congr G fun i hi => ?_
      show (if (i : Int) < G then t else _) = t
      rw [if_pos (by omega)]
    have e2 : sumTo m (fun k => thickAt ((t, (G : Int)) :: r) (G + k)) = sumTo m (thickAt r) := by
      refine sumTo_congr m fun i _ => ?_
      show (if (G : Int) + i < G then t else thickAt r ((G : Int) + i - G)) = thickAt r i
      rw [if_neg (by omega), show (G : Int) + i - G = i by omega]
    rw [e1, e2, ih, Int.mul_comm]
theorem take_map_succ {α β : Type} {l : List α} {i : Nat} {x : α} (f : α → β) (h : l[i]? = some x) : (l.take (i + 1)).map f = (l.take i).map f ++ [f x] := by
  rw [List.take_add_one, h, List.map_append]
  rfl
theorem longs_take {ps : List (Int × Int)} {i : Nat} {t g : Int} (h : ps[i]? = some (t, g)) : longs (ps.take (i + 1)) = longs (ps.take i) + g := by
  unfold longs
  rw [take_map_succ _ h, List.sum_append]
  simp
theorem Same.wisp {H H' : Hp} {a : Addr} {s : Int} {ps : List (Int × Int)} (e : Same H H') (h : WispAt H a s ps) : WispAt H' a s ps := h.mono (Tups.same e)
theorem same_new {H H1 : Hp} {p : Addr} {o : HO} (k : Same H H1) (h : H1 p = none) : Same H (upd H1 p o) := fun b x e => by
  have e1 := k b x e
  rw [upd_ne (ne_of_none e1 h)]
  exact e1
theorem same_mine {H H1 : Hp} {p : Addr} {o : HO} (k : Same H H1) (h : H p = none) : Same H (upd H1 p o) := fun b x e => by
  rw [upd_ne (ne_of_none e h)]
  exact k b x e
theorem Same.free' {H H' : Hp} (e : Same H H') {l : Addr} (h : H' l = none) : H l = none := Same.free e h
theorem mul_ok {ps : List (Int × Int)} (h : Good ps) {i : Nat} {t g : Int} (e : ps[i]? = some (t, g)) : CMulW t g := by
  obtain ⟨_, _, h3⟩ := h
  have := h3 (t, g) (List.mem_of_getElem? e)
  refine wide_mul (a := 200) (b := 200) ?_ ?_ (by decide) (by decide) (by decide)
  · have h1 : t < 2 ^ 200 := this.2.1
    have h0 : 1 ≤ t := this.1
    have h2 : (t.natAbs : Int) = t := by omega
    have h3 : (t.natAbs : Int) < ((2 ^ 200 : Nat) : Int) := by rw [h2]; exact h1
    exact Int.ofNat_lt.mp h3
  · have h1 : g < 2 ^ 200 := this.2.2.2
    have h0 : 1 ≤ g := this.2.2.1
    have h2 : (g.natAbs : Int) = g := by omega
    have h3 : (g.natAbs : Int) < ((2 ^ 200 : Nat) : Int) := by rw [h2]; exact h1
    exact Int.ofNat_lt.mp h3
def spLen : Sp := fun vs H Q _ => ∃ (a : Addr) (s : Int) (ps : List (Int × Int)), vs = [.ref a] ∧ WispAt H a s ps ∧ Good ps ∧ ∀ H', Same H H' → Q (.int (longs ps)) H'
def spWeight : Sp := fun vs H Q _ => ∃ (a : Addr) (s : Int) (ps : List (Int × Int)), vs = [.ref a] ∧ WispAt H a s ps ∧ Good ps ∧ ∀ H', Same H H' → Q (.int (weigh ps)) H'
def spThick : Sp := fun vs H Q _ => ∃ (a : Addr) (s : Int) (ps : List (Int × Int)) (k : Int), vs = [.ref a, .int k] ∧ WispAt H a s ps ∧ Q (.int (thickAt ps k)) H
def TableAt (H : Hp) (o : Addr) (ts : List (Int × Int × Int)) : Prop := ∃ as, H o = some (.lst (as.map V.ref)) ∧ TupsAt H as (ts.map rowV)
def spTable : Sp := fun vs H Q _ => ∃ (a : Addr) (s : Int) (ps : List (Int × Int)), vs = [.ref a] ∧ WispAt H a s ps ∧ ps.length ≤ 10 ∧ ∀ H' o, Same H H' → H o = none → TableAt H' o (tableOf 0 ps) → Q (.ref o) H'
def spStrong : Sp := fun vs H Q _ => ∃ (a : Addr) (s : Int) (ps : List (Int × Int)) (k : Int), vs = [.ref a, .int k] ∧ WispAt H a s ps ∧ Good ps ∧ 0 ≤ k ∧ ∀ H', Same H H' → Q (.int (thickAt ps k)) H'
def spSpots : Sp := fun vs H Q _ => ∃ (p l : Addr) (T : Nat) (a : Addr) (s : Int) (ps : List (Int × Int)), vs = [.ref p, .ref a] ∧ Pot H p l T ∧ T < 2 ^ 38 ∧ WispAt H a s ps ∧ Good ps ∧
  ∀ (H' : Hp) (o : Addr) (ns : List Int), Pot H' p l (T + 10) → Keep p l H H' → H o = none → H' o = some (.lst (ns.map V.int)) → (∀ n ∈ ns, (0 : Int) ≤ n) → ns.length ≤ 100 → Q (.ref o) H'
theorem row_get {H : Hp} {as : List Addr} {ts : List (Int × Int × Int)} (h : TupsAt H as (ts.map rowV)) {i : Nat} {v : V} (e : (as.map V.ref)[i]? = some v) : ∃ a b c d, v = .ref a ∧ ts[i]? = some (b, c, d) ∧ H a = some (.tup [.int b, .int c, .int d]) := by
  obtain ⟨a, xs, h1, _, h2, h3⟩ := h.get e
  rw [List.getElem?_map] at h2
  cases q : ts[i]? with
  | none =>
    rw [q] at h2
    cases h2
  | some p =>
    rw [q] at h2
    have e' : rowV p = xs := Option.some.inj h2
    subst e'
    exact ⟨a, p.1, p.2.1, p.2.2, h1, rfl, h3⟩
theorem yesIte {σ : L2.St} {H : Hp} {A B : Hp → Prop} (h : A H) : tYes σ H (fun b H3 => if b = true then A H3 else B H3) := by
  show if true = true then A H else B H
  rw [if_pos rfl]
  exact h
def spRight : Sp := fun vs H Q _ => ∃ (p l : Addr) (T : Nat) (a : Addr) (s : Int) (ps : List (Int × Int)) (small : Bool), vs = [.ref p, .ref a, .bl small] ∧ Pot H p l T ∧ T < 2 ^ 37 ∧ WispAt H a s ps ∧ Good ps ∧ (small = true → Small ps) ∧
  ∀ (H' : Hp), Pot H' p l (T + 15) → Keep p l H H' → Q (.bl true) H'
theorem Pot.same {H H' : Hp} {p l : Addr} {T : Nat} (h : Pot H p l T) (e : Same H H') : Pot H' p l T := by
  obtain ⟨ns, c, m, t, h1, h2, h3⟩ := h
  exact ⟨ns, c, m, t, e _ _ h1, e _ _ h2, h3⟩
theorem Same.keep {p l : Addr} {H H' : Hp} (e : Same H H') : Keep p l H H' := fun c o _ _ h => e c o h
theorem WispAt.keep {p l : Addr} {H H' : Hp} {T : Nat} {a : Addr} {s : Int} {ps : List (Int × Int)} (h : WispAt H a s ps) (k : Keep p l H H') (hp : Pot H p l T) : WispAt H' a s ps := h.mono (k.tups hp)
theorem longs_small : ∀ {ps : List (Int × Int)}, Small ps → longs ps ≤ 3 * ps.length
  | [], _ => by decide
  | p :: r, h => by
    have h1 := h p (by simp)
    have h2 := longs_small (ps := r) fun x hx => h x (by simp [hx])
    rw [longs_cons, List.length_cons]
    omega
theorem table_last : ∀ (ps : List (Int × Int)) (b : Int), ps ≠ [] → ∃ b' t, (tableOf b ps).getLast? = some (b', b + longs ps, t)
  | [], _, h => absurd rfl h
  | [(t, g)], b, _ => ⟨b, t, by
    show some (b, b + g, t) = some (b, b + longs [(t, g)], t)
    rw [longs_cons]
    show some (b, b + g, t) = some (b, b + (g + 0), t)
    rw [Int.add_zero]⟩
  | (t, g) :: x :: r, b, _ => by
    obtain ⟨b', t', h⟩ := table_last (x :: r) (b + g) (by simp)
    refine ⟨b', t', ?_⟩
    have e : tableOf b ((t, g) :: x :: r) = (b, b + g, t) :: tableOf (b + g) (x :: r) := rfl
    have e2 : ∃ y ys, tableOf (b + g) (x :: r) = y :: ys := ⟨_, _, rfl⟩
    obtain ⟨y, ys, e2⟩ := e2
    rw [e, e2, List.getLast?_cons_cons, ← e2, h, longs_cons (p := (t, g)), Int.add_assoc]
theorem mulw_symm {i j : Int} (h : CMulW i j) : CMulW j i := by
  unfold CMulW at *
  omega
theorem iteNT {A B : Prop} (h : B) : if (!true) = true then A else B := by
  rw [if_neg (by decide)]
  exact h
def spLaw (K : PySem.W.Frag) : Sp := fun vs H Q _ => ∃ (a : Addr) (ns : List Int), vs = [.ref a] ∧ SqL K H a (ns.map V.int) ∧ ns.length ≤ 63 ∧ ∀ H', Q (.bl true) H'
/-! ### things made of tuples and whole numbers, looked at part by part -/
theorem lcZip {K : PySem.W.Frag} {a b : Addr} {xs ys : List V} {g : TG} {tt : TT} {te : TE} {us : List Nat} {σ : L2.St} {H1 : Hp} {D : Addr} {Qd : Hp → Prop} (hl : xs.length = ys.length) (Pv : Nat → Hp → Prop) (h0 : Pv 0 (upd H1 D (.lst []))) (hq : ∀ i H, Pv i H → SqT K H a xs ∧ SqT K H b ys)
    (hs : ∀ i x y T H, xs[i]? = some x → ys[i]? = some y → H T = none → Pv i H → g (.ref T) (wipe σ us) (upd H T (.tup [x, y])) fun σ2 H2 => wipe σ2 us = wipe σ us ∧ tt σ2 H2 fun c H3 =>
      if c = true then te σ2 H3 fun y H4 => ∃ acc, H4 D = some (.lst acc) ∧ acc.length < sizeLine ∧ Pv (i + 1) (upd H4 D (.lst (acc ++ [y]))) else Pv (i + 1) H3) (hd : ∀ H, Pv xs.length H → Qd H) :
    ∃ W : Nat → Nat → Hp → Prop, (∃ m, W 0 m (upd H1 D (.lst []))) ∧ ∀ i m H, W i m H →
      ((RZ.ItzT K a b).stop i H ∧ Qd H) ∨ ((RZ.ItzT K a b).go i H ∧ ∃ Nx : Hp → Prop, (∀ H', Nx H' → ∃ m', m' < m ∧ W (i + 1) m' H') ∧ ∀ x H', (RZ.ItzT K a b).yld i H x H' → g x (wipe σ us) H' fun σ2 H2 => wipe σ2 us = wipe σ us ∧ tt σ2 H2 fun c H3 =>
        if c = true then te σ2 H3 fun y H4 => ∃ acc, H4 D = some (.lst acc) ∧ acc.length < sizeLine ∧ Nx (upd H4 D (.lst (acc ++ [y]))) else Nx H3) := by
  refine ⟨fun i m H => i + m = xs.length ∧ Pv i H, ⟨xs.length, Nat.zero_add _, h0⟩, fun i m H ⟨em, p⟩ => ?_⟩
  obtain ⟨q1, q2⟩ := hq i H p
  by_cases hi : i < xs.length
  · have g1 : xs[i]? = some xs[i] := List.getElem?_eq_getElem hi
    have g2 : ys[i]? = some (ys[i]'(by omega)) := List.getElem?_eq_getElem (by omega)
    refine .inr ⟨⟨xs, ys, _, _, q1, q2, g1, g2⟩, Pv (i + 1), fun H' p' => ⟨m - 1, by omega, by omega, p'⟩, fun v H' hy => ?_⟩
    obtain ⟨T, x, y, rfl, nT, rfl, f1, f2⟩ := hy
    exact hs i x y T H (f1 _ q1) (f2 _ q2) nT p
  · have e : i = xs.length := by omega
    subst e
    exact .inl ⟨⟨xs, ys, q1, q2, .inl (Nat.le_refl _)⟩, hd H p⟩
theorem sqt_ty {K : PySem.W.Frag} {H : Hp} {a : Addr} {xs : List V} (h : SqT K H a xs) : TyX K H (.ref a) (.type "tuple") := by
  rcases h with (h | ⟨o, h⟩) | ⟨o, its, n, hk, hc, _⟩
  · exact .base (.tup h)
  · exact .fTuple h
  · exact .kTuple hk hc
theorem Same.sqt {K : PySem.W.Frag} {H H' : Hp} {a : Addr} {xs : List V} (e : Same H H') (h : SqT K H a xs) : SqT K H' a xs := by
  rcases h with (h | ⟨o, h⟩) | h
  · exact .inl (.inl (e _ _ h))
  · exact .inl (.inr ⟨o, e _ _ h⟩)
  · exact .inr h
inductive TI : PyData → Prop where
  | int (i : Int) : TI (.int i)
  | tup {xs : List PyData} (h : ∀ x ∈ xs, TI x) (hl : xs.length ≤ 5000) : TI (.tuple xs)
theorem depth_mem : ∀ {xs : List PyData} {x : PyData}, x ∈ xs → x.depth ≤ PyData.depthAll xs
  | y :: r, x, h => by
    show x.depth ≤ max y.depth (PyData.depthAll r)
    rcases List.mem_cons.mp h with rfl | h
    · exact Nat.le_max_left _ _
    · exact Nat.le_trans (depth_mem h) (Nat.le_max_right _ _)
mutual
theorem Dp.same {K : PySem.W.Frag} {H H' : Hp} (e : Same H H') : ∀ {v : V} (d : PyData), Dp K H v d → Dp K H' v d
  | _, .none, .non => .non
  | _, .bool _, .bl _ => .bl _
  | _, .int _, .int _ => .int _
  | _, .str _, .str _ => .str _
  | _, .list ds, .lst h a => .lst (e.seq h) (DpAll.same e ds a)
  | _, .tuple ds, .tup h a => .tup (Same.sqt e h) (DpAll.same e ds a)
theorem DpAll.same {K : PySem.W.Frag} {H H' : Hp} (e : Same H H') : ∀ {vs : List V} (ds : List PyData), DpAll K H vs ds → DpAll K H' vs ds
  | _, [], .nil => .nil
  | _, d :: ds, .cons h a => .cons (Dp.same e d h) (DpAll.same e ds a)
end
theorem DpAll.len {K : PySem.W.Frag} {H : Hp} : ∀ {vs : List V} {ds : List PyData}, DpAll K H vs ds → vs.length = ds.length
  | _, _, .nil => rfl
  | _, _, .cons _ a => congrArg (· + 1) (DpAll.len a)
theorem DpAll.at {K : PySem.W.Frag} {H : Hp} : ∀ {vs : List V} {ds : List PyData} {i : Nat} {v : V}, DpAll K H vs ds → vs[i]? = some v → ∃ d, ds[i]? = some d ∧ Dp K H v d
  | _, _, _, _, .nil, h => by simp at h
  | _, _, 0, v, .cons h a, e => ⟨_, rfl, by have e' := Option.some.inj e; rw [← e']; exact h⟩
  | _, _, i + 1, v, .cons h a, e => DpAll.at (i := i) a e
def spSame (K : PySem.W.Frag) (n : Nat) : Sp := fun vs H Q _ => ∃ (x y : V) (d : PyData), vs = [x, y] ∧ TI d ∧ d.depth < n ∧ Dp K H x d ∧ Dp K H y d ∧ ∀ H', Same H H' → Q (.bl true) H'
def wispD (s : Int) (ps : List (Int × Int)) : PyData := .tuple [.int s, .tuple (ps.map fun p => .tuple [.int p.1, .int p.2])]
theorem wisp_ti {s : Int} {ps : List (Int × Int)} (h : ps.length ≤ 5000) : TI (wispD s ps) := by
  refine .tup (fun x hx => ?_) (by show 2 ≤ 5000; decide)
  simp only [List.mem_cons, List.not_mem_nil, or_false] at hx
  rcases hx with rfl | rfl
  · exact .int _
  · refine .tup (fun x hx => ?_) (by rw [List.length_map]; exact h)
    obtain ⟨p, _, rfl⟩ := List.mem_map.mp hx
    refine .tup (fun x hx => ?_) (by show 2 ≤ 5000; decide)
    simp only [List.mem_cons, List.not_mem_nil, or_false] at hx
    rcases hx with rfl | rfl
    · exact .int _
    · exact .int _
theorem wisp_depth (s : Int) (ps : List (Int × Int)) : (wispD s ps).depth ≤ 3 := by
  have h : PyData.depthAll (ps.map fun p => PyData.tuple [.int p.1, .int p.2]) ≤ 1 := by
    induction ps with
    | nil => decide
    | cons p r ih => exact Nat.max_le.mpr ⟨by show max 0 (max 0 0) + 1 ≤ 1; decide, ih⟩
  show max 0 (max (PyData.depthAll (ps.map fun p => PyData.tuple [.int p.1, .int p.2]) + 1) 0) + 1 ≤ 3
  omega
theorem tups_dp {K : PySem.W.Frag} {H : Hp} : ∀ {as : List Addr} {ps : List (Int × Int)}, TupsAt H as (ps.map stepV) → DpAll K H (as.map V.ref) (ps.map fun p => .tuple [.int p.1, .int p.2])
  | [], [], _ => .nil
  | [], p :: r, h => absurd h.1 (by simp)
  | a :: r, [], h => absurd h.1 (by simp)
  | a :: as, p :: ps, h => by
    obtain ⟨xs, h1, h2⟩ := h.2 0 a rfl
    have e : stepV p = xs := Option.some.inj h1
    subst e
    exact .cons (.tup (SqT.of h2) (.cons (.int _) (.cons (.int _) .nil))) (tups_dp ⟨Nat.succ.inj (by simpa using h.1), fun i b hb => h.2 (i + 1) b hb⟩)
theorem WispAt.dp {K : PySem.W.Frag} {H : Hp} {a : Addr} {s : Int} {ps : List (Int × Int)} (h : WispAt H a s ps) : Dp K H (.ref a) (wispD s ps) := by
  obtain ⟨st, as, h1, h2, h3⟩ := h
  exact .tup (SqT.of h1) (.cons (.int s) (.cons (.tup (SqT.of h2) (tups_dp h3)) .nil))
/-! ### how long what repr tells is -/
/-- all numbers of a thing are below 2 ^ 400 -/
inductive Sh : PyData → Prop where
  | non : Sh .none
  | bl (b : Bool) : Sh (.bool b)
  | int {i : Int} (h : i.natAbs.log2 < 400) : Sh (.int i)
  | lst {xs : List PyData} (h : ∀ x ∈ xs, Sh x) : Sh (.list xs)
  | tup {xs : List PyData} (h : ∀ x ∈ xs, Sh x) : Sh (.tuple xs)
theorem sh_all {xs : List PyData} (h : ∀ x ∈ xs, x.showable = true ∧ x.hasDict = false ∧ x.leavesShort 401 = true) : PyData.showableAll xs = true ∧ PyData.hasDictAll xs = false ∧ PyData.leavesShortAll 401 xs = true := by
  induction xs with
  | nil => exact ⟨rfl, rfl, rfl⟩
  | cons x r ih =>
    obtain ⟨h1, h2, h3⟩ := h x (by simp)
    obtain ⟨g1, g2, g3⟩ := ih fun y hy => h y (by simp [hy])
    refine ⟨?_, ?_, ?_⟩
    · show (x.showable && PyData.showableAll r) = true
      rw [h1, g1]
      rfl
    · show (x.hasDict || PyData.hasDictAll r) = false
      rw [h2, g2]
      rfl
    · show (x.leavesShort 401 && PyData.leavesShortAll 401 r) = true
      rw [h3, g3]
      rfl
theorem Sh.ok {d : PyData} (h : Sh d) : d.showable = true ∧ d.hasDict = false ∧ d.leavesShort 401 = true := by
  induction h with
  | non => exact ⟨rfl, rfl, rfl⟩
  | bl b => exact ⟨rfl, rfl, rfl⟩
  | int h =>
    refine ⟨decide_eq_true (by omega), rfl, decide_eq_true ?_⟩
    have := int_text_length_le (by decide) h
    show (Str.ofString (toString _)).length ≤ 401
    rw [PySem.ofString_length]
    exact this
  | lst _ ih => exact sh_all ih
  | tup _ ih => exact sh_all ih
theorem Sh.fits {d : PyData} (h : Sh d) (hb : d.bulk ≤ 20000) : d.shown.length ≤ sizeLine := by
  have h1 := PyData.shown_le_bulk 401 (by decide) d h.ok.2.2
  have h2 : (401 + 2) * d.bulk ≤ (401 + 2) * 20000 := Nat.mul_le_mul_left _ hb
  rw [sizeLine_eq]
  omega
theorem log_lt {i : Int} (h0 : 0 ≤ i) (h : i < 2 ^ 250) : i.natAbs.log2 < 400 := by
  by_cases hz : i.natAbs = 0
  · rw [hz]
    decide
  · have h2 : (i.natAbs : Int) = i := by omega
    have h3 : (i.natAbs : Int) < ((2 ^ 250 : Nat) : Int) := by rw [h2]; exact h
    have h4 : i.natAbs < 2 ^ 250 := Int.ofNat_lt.mp h3
    have := (Nat.log2_lt hz).mpr h4
    omega
theorem sh_nat {i : Int} (h0 : 0 ≤ i) (h : i < 2 ^ 200) : Sh (.int i) := .int (log_lt h0 (Int.lt_trans h (by decide)))
theorem wisp_sh {s : Int} {ps : List (Int × Int)} (h0 : 0 ≤ s) (h1 : s ≤ 1) (g : Good ps) : Sh (wispD s ps) := by
  refine .tup fun x hx => ?_
  simp only [List.mem_cons, List.not_mem_nil, or_false] at hx
  rcases hx with rfl | rfl
  · exact sh_nat h0 (Int.lt_of_le_of_lt h1 (by decide))
  · refine .tup fun x hx => ?_
    obtain ⟨p, hp, rfl⟩ := List.mem_map.mp hx
    have hg := g.2.2 p hp
    refine .tup fun x hx => ?_
    simp only [List.mem_cons, List.not_mem_nil, or_false] at hx
    rcases hx with rfl | rfl
    · exact sh_nat (by omega) hg.2.1
    · exact sh_nat (by omega) hg.2.2.2
theorem wisp_bulk (s : Int) (ps : List (Int × Int)) : (wispD s ps).bulk ≤ 3 * ps.length + 2 := by
  have h : PyData.bulkAll (ps.map fun p => PyData.tuple [.int p.1, .int p.2]) = 3 * ps.length := by
    induction ps with
    | nil => rfl
    | cons p r ih =>
      show (0 + 1 + (0 + 1 + 0)) + 1 + PyData.bulkAll (r.map fun p => PyData.tuple [.int p.1, .int p.2]) = 3 * (r.length + 1)
      rw [ih]
      omega
  show 0 + 1 + (PyData.bulkAll (ps.map fun p => PyData.tuple [.int p.1, .int p.2]) + 1 + 0) ≤ 3 * ps.length + 2
  omega
theorem last_row {H : Hp} {as : List Addr} {ps : List (Int × Int)} (tu : TupsAt H as ((tableOf 0 ps).map rowV)) (gd : 1 ≤ ps.length) : ∃ z b t, atI (as.map V.ref) (-1) = some (.ref z) ∧ H z = some (.tup [.int b, .int (longs ps), .int t]) := by
  have hne : ps ≠ [] := fun e => by
    rw [e] at gd
    exact absurd gd (by decide)
  obtain ⟨b', t', hl⟩ := table_last ps 0 hne
  rw [Int.zero_add, List.getLast?_eq_getElem?] at hl
  have hlen : as.length = (tableOf 0 ps).length := by
    have := tu.1
    rw [List.length_map] at this
    exact this
  have hpos : 0 < (tableOf 0 ps).length := by
    rw [table_len]
    omega
  have hi : (tableOf 0 ps).length - 1 < as.length := by omega
  have e1 : (as.map V.ref)[(tableOf 0 ps).length - 1]? = some (.ref as[(tableOf 0 ps).length - 1]) := by
    rw [List.getElem?_map, List.getElem?_eq_getElem hi]
    rfl
  obtain ⟨z, b, c, d, e2, e3, e4⟩ := row_get tu e1
  rw [hl] at e3
  have e5 := Option.some.inj e3
  obtain ⟨e6, e7⟩ := Prod.mk.inj e5
  obtain ⟨e8, e9⟩ := Prod.mk.inj e7
  rw [← e6, ← e8, ← e9] at e4
  refine ⟨z, b', t', ?_, e4⟩
  have h0 : as.map V.ref ≠ [] := fun e => by
    have := congrArg List.length e
    rw [List.length_map, hlen] at this
    have this : (tableOf 0 ps).length = 0 := this
    omega
  have h2 : (as.map V.ref).getLast h0 = .ref z := by
    have := List.getLast?_eq_getLast h0
    rw [List.getLast?_eq_getElem?, List.length_map, hlen, e1] at this
    exact (Option.some.inj this).symm.trans e2
  have h1 := List.dropLast_concat_getLast h0
  rw [h2] at h1
  rw [← h1]
  exact atI_last _ _
theorem longs_lt {ps : List (Int × Int)} (g : Good ps) : longs ps < 2 ^ 204 := by
  have h : ∀ qs : List (Int × Int), (∀ p ∈ qs, p.2 < 2 ^ 200) → longs qs ≤ qs.length * 2 ^ 200 := by
    intro qs
    induction qs with
    | nil => intro _; decide
    | cons p r ih =>
      intro hq
      have h1 := hq p (by simp)
      have h2 := ih fun x hx => hq x (by simp [hx])
      rw [longs_cons, List.length_cons, Int.natCast_add, Int.add_mul]
      have h3 : ((1 : Nat) : Int) * 2 ^ 200 = 2 ^ 200 := by decide
      rw [h3]
      omega
  have h1 := h ps fun p hp => (g.2.2 p hp).2.2.2
  have h2 : (ps.length : Int) * 2 ^ 200 ≤ 10 * 2 ^ 200 := Int.mul_le_mul_of_nonneg_right (by have := g.2.1; omega) (by decide)
  have h3 : (10 : Int) * 2 ^ 200 < 2 ^ 204 := by decide
  omega
theorem fit_of {b : Int} (h0 : 1 ≤ b) (h : b < 2 ^ 210) : CDivW 0 b := by
  refine wide_div (b := 210) (by omega) ?_ (by decide) (by decide)
  have h2 : (b.natAbs : Int) = b := by omega
  have h3 : (b.natAbs : Int) < ((2 ^ 210 : Nat) : Int) := by rw [h2]; exact h
  exact Int.ofNat_lt.mp h3
def spRightG : Sp := fun vs H Q _ => ∃ (p l : Addr) (T : Nat) (a : Addr) (s : Int) (ps : List (Int × Int)), vs = [.ref p, .ref a] ∧ Pot H p l T ∧ T < 2 ^ 36 ∧ WispAt H a s ps ∧ Good ps ∧ 0 ≤ s ∧ s ≤ 1 ∧
  ∀ (H' : Hp), Pot H' p l (T + 2000) → Keep p l H H' → Q (.bl true) H'
theorem int_get {ns : List Int} {i : Nat} {x : V} (h : (ns.map V.int)[i]? = some x) : ∃ n, x = .int n ∧ ns[i]? = some n := by
  rw [List.getElem?_map] at h
  cases q : ns[i]? with
  | none =>
    rw [q] at h
    cases h
  | some n =>
    rw [q] at h
    exact ⟨n, (Option.some.inj h).symm, rfl⟩
theorem filter_take_succ {α : Type} {l : List α} {i : Nat} {x : α} (p : α → Bool) (h : l[i]? = some x) : (l.take (i + 1)).filter p = (l.take i).filter p ++ (if p x = true then [x] else []) := by
  rw [List.take_add_one, h, List.filter_append]
  show _ ++ List.filter p [x] = _
  rw [List.filter_cons]
  rfl
/-! ### max(numbers, default=d) -/
section
variable {prog : Program} {w : World} {A : Around} {R : Result → Shared → Prop} {I : Addr} {fp wr : List Addr} {n : Nat} {P : Nat → Value → Prop} {St : Nat → Heap → Prop}
theorem maxLoopD (W : Walks prog w A.in1 I fp wr n P St) (bt : Nat → Nat → Bool) (cm : CmpOf prog w A.in1 .Gt P bt) (S : Addr) (nS : S ∉ fp) (dv : Value) : ∀ (k j : Nat) (t : Shared) (vb : Value) (c : Nat), n - (j + 1) = k → j + 1 ≤ n → St (j + 1) t.heap → P (argBest bt j) vb →
    t.heap.get? S = some { cls := .type "list", dict := none, data := .seq #[vb, vb] c, slots := #[] } → (∀ v h' tk, P (argBest bt (n - 1)) v → (∀ b o, b ∉ wr → b ≠ S → t.heap.get? b = some o → h'.get? b = some o) → R (.ok (.ret v)) { t with heap := h', toks := tk }) →
    codeAny (model prog w) A (.builtin "max.loop" ⟨[.ref I, .none, .ref S], [("default", dv)]⟩) R t := by
  have nW : S ∉ wr := fun h => nS (W.sub _ h)
  have nm : (toString "max" ++ toString ".loop" : String) = "max.loop" := by decide
  intro k
  induction k with
  | zero =>
    intro j t vb c ek hj st pb eS r
    have en : j + 1 = n := by omega
    refine codeAny_builtin F.entry_max_loop ?_
    rw [Around.under_plainId F.plain_max_loop _]
    refine wpAny_bind (wpAny_seqItems eS rfl (wpAny_bind (wpAny_tryCatch (W.done t _ _ (en ▸ st) fun h' tk ke => ?_))))
    refine wpAny_bind (wpAny_updateSeq (ke S _ nW eS) rfl (wpAny_bind (wpAny_letGo (wpAny_pure ?_))))
    exact r vb _ tk (by rw [← en]; exact pb) fun b o nb nb2 e => (Heap.get?_update_other _ _ (Ne.symm nb2)).trans (ke b o nb e)
  | succ k ih =>
    intro j t vb c ek hj st pb eS r
    have hj2 : j + 1 < n := by omega
    refine codeAny_builtin F.entry_max_loop ?_
    rw [Around.under_plainId F.plain_max_loop _]
    refine wpAny_bind (wpAny_seqItems eS rfl (wpAny_bind (wpAny_tryCatch (W.item (j + 1) t _ _ hj2 st fun v h' tk pv st' ke => ?_))))
    have eS' := ke S _ nW eS
    show wpAny _ A.in1 (tryCatch (holding [v, v] (richCompare .Gt v vb >>= _)) _ >>= _) _ _ _
    refine wpAny_bind (wpAny_tryCatch (wpAny_holding (wpAny_bind (cm (j + 1) (argBest bt j) v vb _ _ _ pv pb (wpAny_bind (wpAny_holding (wpAny_truthy_bool (wpAny_bind (wpAny_letGo (wpAny_pure ?_))))))))))
    cases hb : bt (j + 1) (argBest bt j) with
    | true =>
      simp only [if_true]
      refine wpAny_bind (wpAny_updateSeq eS' rfl (wpAny_bind (wpAny_letGo ?_)))
      rw [nm]
      refine wpAny_pure ⟨plainId_quiet F.plain_max_loop _, ih (j + 1) _ v _ (by omega) hj2 (W.frame _ _ _ st' fun b fb o e => ?_) (by simp only [argBest, hb, if_true]; exact pv) (Heap.get?_update_self _ eS' rfl) fun v2 h2 tk2 p2 ke2 => ?_⟩
      · exact (Heap.get?_update_other _ _ (fun z : S = b => nS (by rw [z]; exact fb))).trans e
      · exact r v2 h2 tk2 p2 fun b o nb nb2 e => ke2 b o nb nb2 ((Heap.get?_update_other _ _ (Ne.symm nb2)).trans (ke b o nb e))
    | false =>
      simp only [Bool.false_eq_true, if_false]
      refine wpAny_bind (wpAny_letGo ?_)
      rw [nm]
      refine wpAny_pure ⟨plainId_quiet F.plain_max_loop _, ih (j + 1) _ vb c (by omega) hj2 st' (by simp only [argBest, hb, Bool.false_eq_true, if_false]; exact pb) eS' fun v2 h2 tk2 p2 ke2 => ?_⟩
      exact r v2 h2 tk2 p2 fun b o nb nb2 e => ke2 b o nb nb2 (ke b o nb e)
theorem maxFirstD (W : Walks prog w A.in1 I fp wr n P St) (bt : Nat → Nat → Bool) (cm : CmpOf prog w A.in1 .Gt P bt) (S : Addr) (nS : S ∉ fp) (dv : Value) {t : Shared} {c : Nat} (st : St 0 t.heap) (eS : t.heap.get? S = some { cls := .type "list", dict := none, data := .seq #[] c, slots := #[] })
    (r : ∀ v h' tk, (n = 0 ∧ v = dv ∨ 0 < n ∧ P (argBest bt (n - 1)) v) → (∀ b o, b ∉ wr → b ≠ S → t.heap.get? b = some o → h'.get? b = some o) → R (.ok (.ret v)) { t with heap := h', toks := tk }) :
    codeAny (model prog w) A (.builtin "max.loop" ⟨[.ref I, .none, .ref S], [("default", dv)]⟩) R t := by
  have nW : S ∉ wr := fun h => nS (W.sub _ h)
  have nm : (toString "max" ++ toString ".loop" : String) = "max.loop" := by decide
  refine codeAny_builtin F.entry_max_loop ?_
  rw [Around.under_plainId F.plain_max_loop _]
  by_cases hn : 0 < n
  · refine wpAny_bind (wpAny_seqItems eS rfl (wpAny_bind (wpAny_tryCatch (W.item 0 t _ _ hn st fun v h' tk pv st' ke => ?_))))
    have eS' := ke S _ nW eS
    show wpAny _ A.in1 (updateSeq S (fun _ => #[v, v]) >>= _) _ _ _
    refine wpAny_bind (wpAny_updateSeq eS' rfl ?_)
    rw [nm]
    refine wpAny_pure ⟨plainId_quiet F.plain_max_loop _, maxLoopD W bt cm S nS dv _ 0 _ v _ rfl hn (W.frame _ _ _ st' fun b fb o e => ?_) pv (Heap.get?_update_self _ eS' rfl) fun v2 h2 tk2 p2 ke2 => ?_⟩
    · exact (Heap.get?_update_other _ _ (fun z : S = b => nS (by rw [z]; exact fb))).trans e
    · exact r v2 h2 tk2 (.inr ⟨hn, p2⟩) fun b o nb nb2 e => ke2 b o nb nb2 ((Heap.get?_update_other _ _ (Ne.symm nb2)).trans (ke b o nb e))
  · have n0 : n = 0 := by omega
    refine wpAny_bind (wpAny_seqItems eS rfl (wpAny_bind (wpAny_tryCatch (W.done t _ _ (n0 ▸ st) fun h' tk ke => ?_))))
    refine wpAny_bind (wpAny_rule (wpAny_pure ?_))
    exact r dv h' tk (.inl ⟨n0, rfl⟩) fun b o nb _ e => ke b o nb e
end
theorem args_maxD (a d : Value) : argsOk "max" ⟨[a], [("default", d)]⟩ := by unfold argsOk; kernel_rfl
theorem maxD_walk {prog : Program} {w : World} {A : Around} {E : Value → Shared → Prop} {t : Shared} {x dv : Value} {Q : Value → Shared → Prop} (h : wpAny (model prog w) A.in1 (pyIter x) (fun it t2 => ∃ I fp wr n P St bt, it = .ref I ∧ Walks prog w A.in1 I fp wr n P St ∧ St 0 t2.heap ∧ (∀ b ∈ fp, b < t2.heap.objs.size) ∧ CmpOf prog w A.in1 .Gt P bt ∧
      ∀ v h' tk, (n = 0 ∧ v = dv ∨ 0 < n ∧ P (argBest bt (n - 1)) v) → (∀ b o, b ∉ wr → t2.heap.get? b = some o → h'.get? b = some o) → Q v { t2 with heap := h', toks := tk }) E t) : wpAny (model prog w) A (call (.builtin "max") [x] [("default", dv)]) Q E t := by
  have nm : (toString "max" ++ toString ".loop" : String) = "max.loop" := by decide
  refine PyProof.Rows.kmk_tree PySem.F.kind_max PySem.F.plain_max PySem.F.entry_max (args_maxD _ _) ?_
  refine wpAny_bind (wpAny_of_eq (show Builtin.Builtins.bindParams "max" ["key", "default"] 0 ⟨[], [(Str.ofString "default", dv)]⟩ = pure [none, some dv] from rfl) ?_)
  refine wpAny_bind (wpAny_pure (wpAny_bind (wpAny_mono h (fun it t2 h2 => ?_) fun _ _ e => e)))
  obtain ⟨I, fp, wr, n, P, St, bt, rfl, W, st, hfp, cm, r⟩ := h2
  refine wpAny_bind (wpAny_newObj_type ?_)
  have nS : t2.heap.objs.size ∉ fp := fun hm => Nat.lt_irrefl _ (hfp _ hm)
  rw [nm]
  refine wpAny_pure ⟨plainId_quiet F.plain_max_loop _, maxFirstD W bt cm t2.heap.objs.size nS dv (W.frame _ _ _ st fun b _ o e => Heap.get?_push_of_some _ e) (Heap.get?_push_size _ rfl) fun v h' tk hv hk => ?_⟩
  exact r v h' tk hv fun b o nb e => hk b o nb (Nat.ne_of_lt (Heap.lt_size e)) (Heap.get?_push_of_some _ e)
theorem maxD_raw {prog : Program} {w : World} {A : Around} {E : Value → Shared → Prop} {t : Shared} {l : Addr} {its : List Value} {ns : List Int} {dv : Value} {Q : Value → Shared → Prop} (hh : A.handled = none) (hl : t.heap.IsList l its.toArray) (hi : IntsAre its ns)
    (r : ∀ v h' tk, (∀ b o, t.heap.get? b = some o → h'.get? b = some o) → (ns = [] ∧ v = dv ∨ ∃ M u, v = .int M u ∧ M ∈ ns ∧ ∀ y, y ∈ ns → y ≤ M) → Q v { t with heap := h', toks := tk }) : wpAny (model prog w) A (call (.builtin "max") [.ref l] [("default", dv)]) Q E t := by
  obtain ⟨xs, e⟩ := hi.allInts.items
  have hn : numsOf (intItems xs).toList = ns := by rw [← e]; exact hi.numsOf
  rw [nums_intItems] at hn
  subst hn
  rw [e] at hl
  refine maxD_walk (iter_intList hl fun t2 e2 st hfp hlI => ?_)
  subst e2
  refine ⟨_, _, _, _, _, _, _, rfl, Walks.list (A := A.in1) hh _ l hlI (intItems xs), st, hfp, CmpOf.ints_gt (numAt xs) (fun _ _ => intItems_at), fun v h' tk hv hk => ?_⟩
  refine r v h' tk (old_kept hk) ?_
  rcases hv with ⟨h0, rfl⟩ | ⟨h0, hv⟩
  · refine .inl ⟨?_, rfl⟩
    have : xs.size = 0 := by simpa [intItems] using h0
    have : xs.toList = [] := List.eq_nil_of_length_eq_zero (by simpa using this)
    rw [this]
    rfl
  · have hs : 0 < xs.size := by simpa [intItems] using h0
    have hv : (intItems xs)[argBest (fun i j => decide (numAt xs i > numAt xs j)) (xs.size - 1)]? = some v := by simpa [intItems] using hv
    obtain ⟨u, rfl⟩ := intItems_at hv
    obtain ⟨h1, h2⟩ := argBest_gt (numAt xs) (xs.size - 1)
    refine .inr ⟨_, u, rfl, ?_, fun y hy => ?_⟩
    · rw [numAt_eq]
      exact PySem.getD_mem (by rw [List.length_map, Array.length_toList]; omega)
    · obtain ⟨j, hj, rfl⟩ := mem_getD hy
      rw [List.length_map, Array.length_toList] at hj
      rw [← numAt_eq]
      exact h2 j (by omega)
def rMaxD (K : PySem.W.Frag) : List V → List V → Hp → VK → Prop := fun xs zs H Q => ∃ (a : Addr) (ns : List Int) (d : Int), xs = [.ref a] ∧ zs = [.int d] ∧ SqL K H a (ns.map V.int) ∧ ∀ m, (ns = [] ∧ m = d ∨ m ∈ ns ∧ ∀ y, y ∈ ns → y ≤ m) → Q (.int m) H
theorem call_maxD {X : Cx} (hc : X.calm = true) : CallRK X (.builtin "max") ["default"] (rMaxD X.K) := by
  intro pins s σ H xs zs us ws Q I va vz h
  obtain ⟨a, ns, d, rfl, rfl, hs, q⟩ := h
  obtain ⟨its, rv, hl, _⟩ := I.list hs
  rw [Vals.ref1 va]
  cases vz with
  | cons r1 r2 =>
  cases r2
  obtain ⟨u, rfl⟩ := r1
  refine maxD_raw (I.ok.hd hc) hl.isList rv.ints fun v h' tk hk hv => ?_
  rcases hv with ⟨h0, rfl⟩ | ⟨M, u2, rfl, h1, h2⟩
  · exact ⟨.int d, H, I.kept hk, ⟨_, rfl⟩, q d (.inl ⟨h0, rfl⟩)⟩
  · exact ⟨.int M, H, I.kept hk, ⟨_, rfl⟩, q M (.inr ⟨h1, h2⟩)⟩
/-! ### laid wisps and strands -/
structure Lw where
  so : Int
  ps : List (Int × Int)
  pl : Int
  le : Option Int
def letV : Option Int → V
  | none => .non
  | some n => .int n
def LaidAt (H : Hp) (a : Addr) (L : Lw) : Prop := ∃ wa, H a = some (.tup [.ref wa, .int L.pl, letV L.le]) ∧ WispAt H wa L.so L.ps
theorem LaidAt.mono {H H' : Hp} {a : Addr} {L : Lw} (h : LaidAt H a L) (t : Tups H H') : LaidAt H' a L := by
  obtain ⟨wa, h1, h2⟩ := h
  exact ⟨wa, t _ _ h1, h2.mono t⟩
def LaidsAt (H : Hp) (as : List Addr) (Ls : List Lw) : Prop := as.length = Ls.length ∧ ∀ (i : Nat) (a : Addr), as[i]? = some a → ∃ L, Ls[i]? = some L ∧ LaidAt H a L
theorem LaidsAt.mono {H H' : Hp} {as : List Addr} {Ls : List Lw} (h : LaidsAt H as Ls) (t : Tups H H') : LaidsAt H' as Ls := ⟨h.1, fun i a e => by
  obtain ⟨L, h1, h2⟩ := h.2 i a e
  exact ⟨L, h1, h2.mono t⟩⟩
theorem LaidsAt.nil {H : Hp} : LaidsAt H [] [] := ⟨rfl, fun i a h => by simp at h⟩
theorem LaidsAt.snoc {H : Hp} {as : List Addr} {Ls : List Lw} {a : Addr} {L : Lw} (h : LaidsAt H as Ls) (e : LaidAt H a L) : LaidsAt H (as ++ [a]) (Ls ++ [L]) := by
  refine ⟨by simp [h.1], fun i b hb => ?_⟩
  by_cases hi : i < as.length
  · rw [List.getElem?_append_left hi] at hb
    obtain ⟨M, h1, h2⟩ := h.2 i b hb
    exact ⟨M, by rw [List.getElem?_append_left (by rw [← h.1]; exact hi)]; exact h1, h2⟩
  · rw [List.getElem?_append_right (by omega)] at hb
    have hz : i - as.length = 0 := by
      cases hk : i - as.length with
      | zero => rfl
      | succ n =>
        rw [hk] at hb
        simp at hb
    rw [hz] at hb
    have : a = b := Option.some.inj hb
    subst this
    refine ⟨L, ?_, e⟩
    rw [List.getElem?_append_right (by rw [← h.1]; omega), ← h.1, hz]
    rfl
theorem LaidsAt.take {H : Hp} {as : List Addr} {Ls : List Lw} (h : LaidsAt H as Ls) (n : Nat) : LaidsAt H (as.take n) (Ls.take n) := by
  refine ⟨by simp [h.1], fun i a e => ?_⟩
  rw [List.getElem?_take] at e
  by_cases hi : i < n
  · rw [if_pos hi] at e
    obtain ⟨L, h1, h2⟩ := h.2 i a e
    exact ⟨L, by rw [List.getElem?_take, if_pos hi]; exact h1, h2⟩
  · rw [if_neg hi] at e
    cases e
theorem LaidsAt.set {H : Hp} {as : List Addr} {Ls : List Lw} {a : Addr} {L : Lw} (h : LaidsAt H as Ls) (e : LaidAt H a L) (n : Nat) : LaidsAt H (as.set n a) (Ls.set n L) := by
  refine ⟨by simp [h.1], fun i b hb => ?_⟩
  have hi : i < as.length := by
    have := (List.getElem?_eq_some_iff.mp hb).1
    rw [List.length_set] at this
    exact this
  by_cases hn : n = i
  · subst hn
    rw [List.getElem?_set_self hi] at hb
    have : a = b := Option.some.inj hb
    subst this
    exact ⟨L, List.getElem?_set_self (by rw [← h.1]; exact hi), e⟩
  · rw [List.getElem?_set_ne hn] at hb
    obtain ⟨M, h1, h2⟩ := h.2 i b hb
    exact ⟨M, by rw [List.getElem?_set_ne hn]; exact h1, h2⟩
def StrandAt (H : Hp) (a : Addr) (Ls : List Lw) : Prop := ∃ as, H a = some (.tup (as.map V.ref)) ∧ LaidsAt H as Ls
theorem StrandAt.mono {H H' : Hp} {a : Addr} {Ls : List Lw} (h : StrandAt H a Ls) (t : Tups H H') : StrandAt H' a Ls := by
  obtain ⟨as, h1, h2⟩ := h
  exact ⟨as, t _ _ h1, h2.mono t⟩
theorem StrandAt.keep {p l : Addr} {H H' : Hp} {T : Nat} {a : Addr} {Ls : List Lw} (h : StrandAt H a Ls) (k : Keep p l H H') (hp : Pot H p l T) : StrandAt H' a Ls := h.mono (k.tups hp)
theorem laid_get {H : Hp} {as : List Addr} {Ls : List Lw} (h : LaidsAt H as Ls) {i : Nat} {v : V} (e : (as.map V.ref)[i]? = some v) : ∃ a L, v = .ref a ∧ as[i]? = some a ∧ Ls[i]? = some L ∧ LaidAt H a L := by
  rw [List.getElem?_map] at e
  cases q : as[i]? with
  | none =>
    rw [q] at e
    cases e
  | some a =>
    rw [q] at e
    obtain ⟨L, h1, h2⟩ := h.2 i a q
    exact ⟨a, L, (Option.some.inj e).symm, rfl, h1, h2⟩
def GoodL (L : Lw) : Prop := Good L.ps ∧ 0 ≤ L.so ∧ L.so ≤ 1 ∧ 0 ≤ L.pl ∧ L.pl < 2 ^ 130 ∧ ∀ n, L.le = some n → L.pl < n ∧ n < 2 ^ 206
/-- where a laid wisp is over -/
def clip (le : Option Int) (e : Int) : Int := match le with
  | none => e
  | some n => if n < e then n else e
def lastOf (L : Lw) : Int := clip L.le (L.pl + longs L.ps)
def partsOf (le : Option Int) : List (Int × Int) → Int → List (Int × Int × Int)
  | [], _ => []
  | (t, g) :: r, st => (if st < clip le (st + g) then [(st, clip le (st + g), t)] else []) ++ partsOf le r (clip le (st + g))
def lawParts (le : Option Int) : List (Int × Int) → Int → List (Int × Int × Int)
  | [], _ => []
  | (t, g) :: r, st => (if st < clip le (st + g) then [(st, clip le (st + g), t)] else []) ++ lawParts le r (st + g)
theorem clip_le {le : Option Int} {e : Int} : clip le e ≤ e := by
  cases le with
  | none => exact Int.le_refl _
  | some n =>
    show (if n < e then n else e) ≤ e
    split <;> omega
theorem clip_mono {le : Option Int} {e f : Int} (h : e ≤ f) : clip le e ≤ clip le f := by
  cases le with
  | none => exact h
  | some n =>
    show (if n < e then n else e) ≤ (if n < f then n else f)
    split <;> split <;> omega
theorem clip_clip {le : Option Int} {e g : Int} (hg : 0 ≤ g) : clip le (clip le e + g) = clip le (e + g) := by
  cases le with
  | none => rfl
  | some n =>
    show (if n < (if n < e then n else e) + g then n else (if n < e then n else e) + g) = if n < e + g then n else e + g
    (repeat' split) <;> omega
theorem clip_idem {le : Option Int} {e : Int} : clip le (clip le e) = clip le e := by
  cases le with
  | none => rfl
  | some n =>
    show (if n < (if n < e then n else e) then n else (if n < e then n else e)) = if n < e then n else e
    (repeat' split) <;> omega
/-- all parts end at or ahead of where the wisp is over -/
theorem parts_le {le : Option Int} : ∀ (ps : List (Int × Int)) (st : Int), (∀ p ∈ ps, 1 ≤ p.2) → ∀ x ∈ partsOf le ps st, x.2.1 ≤ clip le (st + longs ps)
  | [], _, _, x, h => by cases h
  | (t, g) :: r, st, hg, x, h => by
    have hg1 : 1 ≤ g := hg (t, g) (by simp)
    have hr : ∀ p ∈ r, 1 ≤ p.2 := fun x hx => hg x (by simp [hx])
    have h0 := longs_nonneg hr
    have h : x ∈ (if st < clip le (st + g) then [(st, clip le (st + g), t)] else []) ++ partsOf le r (clip le (st + g)) := h
    rw [longs_cons]
    show x.2.1 ≤ clip le (st + (g + longs r))
    rcases List.mem_append.mp h with h | h
    · by_cases hc : st < clip le (st + g)
      · rw [if_pos hc] at h
        simp only [List.mem_cons, List.not_mem_nil, or_false] at h
        subst h
        exact clip_mono (by omega)
      · rw [if_neg hc] at h
        cases h
    · have ih := parts_le r (clip le (st + g)) hr x h
      rw [clip_clip h0] at ih
      rw [← Int.add_assoc]
      exact ih
/-- one of them ends there -/
theorem parts_has {le : Option Int} : ∀ (ps : List (Int × Int)) (st : Int), (∀ p ∈ ps, 1 ≤ p.2) → st < clip le (st + longs ps) → ∃ x ∈ partsOf le ps st, x.2.1 = clip le (st + longs ps)
  | [], st, _, h => by
    have e : longs [] = 0 := rfl
    rw [e, Int.add_zero] at h
    have := clip_le (le := le) (e := st)
    omega
  | (t, g) :: r, st, hg, h => by
    have hg1 : 1 ≤ g := hg (t, g) (by simp)
    have hr : ∀ p ∈ r, 1 ≤ p.2 := fun x hx => hg x (by simp [hx])
    have h0 := longs_nonneg hr
    rw [longs_cons] at h ⊢
    have e1 : st + ((t, g).2 + longs r) = st + g + longs r := by
      show st + (g + longs r) = _
      omega
    rw [e1] at h ⊢
    have e2 : clip le (clip le (st + g) + longs r) = clip le (st + g + longs r) := clip_clip h0
    by_cases hc : clip le (st + g) < clip le (st + g + longs r)
    · obtain ⟨x, h1, h2⟩ := parts_has r (clip le (st + g)) hr (by rw [e2]; exact hc)
      refine ⟨x, List.mem_append_right _ h1, ?_⟩
      rw [h2, e2]
    · have e3 : clip le (st + g) = clip le (st + g + longs r) := by
        have := clip_mono (le := le) (e := st + g) (f := st + g + longs r) (by omega)
        omega
      refine ⟨(st, clip le (st + g), t), List.mem_append_left _ ?_, e3⟩
      rw [if_pos (by omega)]
      simp
/-- the law's own parts: the last one ends there -/
theorem law_nil {le : Option Int} : ∀ (ps : List (Int × Int)) (st : Int), (∀ p ∈ ps, 1 ≤ p.2) → clip le st < st ∨ (∃ n, le = some n ∧ n ≤ st) → lawParts le ps st = []
  | [], _, _, _ => rfl
  | (t, g) :: r, st, hg, h => by
    have hg1 : 1 ≤ g := hg (t, g) (by simp)
    have hr : ∀ p ∈ r, 1 ≤ p.2 := fun x hx => hg x (by simp [hx])
    have hn : ∃ n, le = some n ∧ n ≤ st := by
      rcases h with h | h
      · cases le with
        | none => exact absurd h (Int.lt_irrefl _)
        | some n =>
          refine ⟨n, rfl, ?_⟩
          have h : (if n < st then n else st) < st := h
          split at h <;> omega
      · exact h
    obtain ⟨n, rfl, hn⟩ := hn
    show (if st < clip (some n) (st + g) then _ else []) ++ lawParts (some n) r (st + g) = []
    rw [law_nil r (st + g) hr (.inr ⟨n, rfl, by omega⟩), if_neg]
    · rfl
    · show ¬ st < (if n < st + g then n else st + g)
      split <;> omega
theorem law_last {le : Option Int} : ∀ (ps : List (Int × Int)) (st : Int), ps ≠ [] → (∀ p ∈ ps, 1 ≤ p.2) → (∀ n, le = some n → st < n) → ∃ ys b t, lawParts le ps st = ys ++ [(b, clip le (st + longs ps), t)]
  | [], _, h, _, _ => absurd rfl h
  | (t, g) :: r, st, _, hg, hn => by
    have hg1 : 1 ≤ g := hg (t, g) (by simp)
    have hr : ∀ p ∈ r, 1 ≤ p.2 := fun x hx => hg x (by simp [hx])
    have h0 := longs_nonneg hr
    have hc : st < clip le (st + g) := by
      cases le with
      | none => show st < st + g; omega
      | some n =>
        have := hn n rfl
        show st < (if n < st + g then n else st + g)
        split <;> omega
    have e : lawParts le ((t, g) :: r) st = (st, clip le (st + g), t) :: lawParts le r (st + g) := by
      show (if st < clip le (st + g) then _ else []) ++ lawParts le r (st + g) = _
      rw [if_pos hc]
      rfl
    rw [e, longs_cons]
    have e1 : st + ((t, g).2 + longs r) = st + g + longs r := by
      show st + (g + longs r) = _
      omega
    rw [e1]
    by_cases hz : r = [] ∨ ∃ n, le = some n ∧ n ≤ st + g
    · have e2 : lawParts le r (st + g) = [] := by
        rcases hz with rfl | hz
        · rfl
        · exact law_nil r (st + g) hr (.inr hz)
      refine ⟨[], st, t, ?_⟩
      rw [e2]
      have e3 : clip le (st + g) = clip le (st + g + longs r) := by
        rcases hz with rfl | ⟨n, rfl, hz⟩
        · show clip le (st + g) = clip le (st + g + 0)
          rw [Int.add_zero]
        · show (if n < st + g then n else st + g) = if n < st + g + longs r then n else st + g + longs r
          split <;> split <;> omega
      rw [e3]
      rfl
    · have hr0 : r ≠ [] := fun z => hz (.inl z)
      have hn2 : ∀ n, le = some n → st + g < n := fun n e => by
        by_cases h : st + g < n
        · exact h
        · exact absurd (.inr ⟨n, e, by omega⟩) hz
      obtain ⟨ys, b, t', h⟩ := law_last r (st + g) hr0 hr hn2
      exact ⟨_ :: ys, b, t', by rw [h]; rfl⟩
theorem law_len {le : Option Int} : ∀ (ps : List (Int × Int)) (st : Int), (lawParts le ps st).length ≤ ps.length
  | [], _ => Nat.le_refl _
  | (t, g) :: r, st => by
    show ((if st < clip le (st + g) then [(st, clip le (st + g), t)] else []) ++ lawParts le r (st + g)).length ≤ r.length + 1
    rw [List.length_append]
    have := law_len (le := le) r (st + g)
    split
    · show 1 + _ ≤ _
      omega
    · show 0 + _ ≤ _
      omega
theorem part_len {le : Option Int} : ∀ (ps : List (Int × Int)) (st : Int), (partsOf le ps st).length ≤ ps.length
  | [], _ => Nat.le_refl _
  | (t, g) :: r, st => by
    show ((if st < clip le (st + g) then [(st, clip le (st + g), t)] else []) ++ partsOf le r (clip le (st + g))).length ≤ r.length + 1
    rw [List.length_append]
    have := part_len (le := le) r (clip le (st + g))
    split
    · show 1 + _ ≤ _
      omega
    · show 0 + _ ≤ _
      omega
/-- how thick a laid wisp is at a place -/
def thickL (L : Lw) (p : Int) : Int := if p < L.pl then 0 else match L.le with
  | none => thickAt L.ps (p - L.pl)
  | some n => if n ≤ p then 0 else thickAt L.ps (p - L.pl)
theorem thick_pos : ∀ (ps : List (Int × Int)) (k : Int), 0 ≤ k → (∀ p ∈ ps, 1 ≤ p.1 ∧ 1 ≤ p.2) → (0 < thickAt ps k ↔ k < longs ps)
  | [], k, h, _ => by
    have e : longs [] = 0 := rfl
    show (0 : Int) < 0 ↔ k < longs []
    omega
  | (t, g) :: r, k, h, hg => by
    have hg1 := hg (t, g) (by simp)
    have ht : 1 ≤ t := hg1.1
    have hgg : 1 ≤ g := hg1.2
    have hr : ∀ p ∈ r, 1 ≤ p.1 ∧ 1 ≤ p.2 := fun x hx => hg x (by simp [hx])
    have h0 := longs_nonneg fun x hx => (hr x hx).2
    rw [longs_cons]
    show 0 < (if k < g then t else thickAt r (k - g)) ↔ k < g + longs r
    by_cases hk : k < g
    · rw [if_pos hk]
      constructor <;> intro _ <;> omega
    · rw [if_neg hk, thick_pos r (k - g) (by omega) hr]
      omega
theorem thick_runs {L : Lw} (g : GoodL L) (p : Int) : 0 < thickL L p ↔ L.pl ≤ p ∧ p < lastOf L := by
  have hp : ∀ x ∈ L.ps, 1 ≤ x.1 ∧ 1 ≤ x.2 := fun x hx => ⟨(g.1.2.2 x hx).1, (g.1.2.2 x hx).2.2.1⟩
  unfold thickL lastOf clip
  by_cases h : p < L.pl
  · rw [if_pos h]
    omega
  · rw [if_neg h]
    have tp := thick_pos L.ps (p - L.pl) (by omega) hp
    cases q : L.le with
    | none =>
      show 0 < thickAt L.ps (p - L.pl) ↔ L.pl ≤ p ∧ p < L.pl + longs L.ps
      rw [tp]
      omega
    | some n =>
      show 0 < (if n ≤ p then 0 else thickAt L.ps (p - L.pl)) ↔ L.pl ≤ p ∧ p < (if n < L.pl + longs L.ps then n else L.pl + longs L.ps)
      by_cases h2 : n ≤ p
      · rw [if_pos h2]
        split <;> omega
      · rw [if_neg h2, tp]
        split <;> omega
theorem last_gt {L : Lw} (g : GoodL L) : L.pl < lastOf L := by
  have hp : ∀ x ∈ L.ps, 1 ≤ x.2 := fun x hx => (g.1.2.2 x hx).2.2.1
  have hl : 1 ≤ longs L.ps := by
    cases q : L.ps with
    | nil =>
      have := g.1.1
      rw [q] at this
      exact absurd this (by decide)
    | cons p r =>
      rw [q] at hp
      have h1 := hp p (by simp)
      have h2 := longs_nonneg (ps := r) fun x hx => hp x (by simp [hx])
      rw [longs_cons]
      omega
  unfold lastOf clip
  cases q : L.le with
  | none => show L.pl < L.pl + longs L.ps; omega
  | some n =>
    have := (g.2.2.2.2.2 n q).1
    show L.pl < (if n < L.pl + longs L.ps then n else L.pl + longs L.ps)
    split <;> omega
def spThickOf : Sp := fun vs H Q _ => ∃ (a : Addr) (L : Lw) (p : Int), vs = [.ref a, .int p] ∧ LaidAt H a L ∧ Q (.int (thickL L p)) H
def spPartsOf : Sp := fun vs H Q _ => ∃ (a : Addr) (L : Lw), vs = [.ref a] ∧ LaidAt H a L ∧ L.ps.length ≤ 10 ∧ ∀ H' o, Same H H' → H o = none → TableAt H' o (partsOf L.le L.ps L.pl) → Q (.ref o) H'
def spThicks : Sp := fun vs H Q _ => ∃ (a : Addr) (Ls : List Lw) (p : Int), vs = [.ref a, .int p] ∧ StrandAt H a Ls ∧ Ls.length ≤ 60 ∧ ∀ H' o, Same H H' → H o = none → H' o = some (.lst ((Ls.map fun L => thickL L p).map V.int)) → Q (.ref o) H'
def numsFrom : Nat → List Int → List Int
  | _, [] => []
  | k, x :: r => (if 0 < x then [(k : Int)] else []) ++ numsFrom (k + 1) r
theorem nums_snoc : ∀ (xs : List Int) (k : Nat) (x : Int), numsFrom k (xs ++ [x]) = numsFrom k xs ++ (if 0 < x then [((k + xs.length : Nat) : Int)] else [])
  | [], k, x => by
    show (if 0 < x then [(k : Int)] else []) ++ [] = [] ++ _
    rw [List.append_nil]
    rfl
  | y :: r, k, x => by
    show (if 0 < y then [(k : Int)] else []) ++ numsFrom (k + 1) (r ++ [x]) = (if 0 < y then [(k : Int)] else []) ++ numsFrom (k + 1) r ++ _
    rw [nums_snoc r (k + 1) x, List.append_assoc, show k + 1 + r.length = k + (y :: r).length by rw [List.length_cons]; omega]
theorem nums_nil : ∀ (xs : List Int) (k : Nat), (∀ x ∈ xs, ¬ 0 < x) → numsFrom k xs = []
  | [], _, _ => rfl
  | y :: r, k, h => by
    show (if 0 < y then [(k : Int)] else []) ++ numsFrom (k + 1) r = []
    rw [if_neg (h y (by simp)), nums_nil r (k + 1) fun x hx => h x (by simp [hx])]
    rfl
theorem nums_ne : ∀ (xs : List Int) (k : Nat) (x : Int), x ∈ xs → 0 < x → numsFrom k xs ≠ []
  | y :: r, k, x, h, hx => by
    show (if 0 < y then [(k : Int)] else []) ++ numsFrom (k + 1) r ≠ []
    rcases List.mem_cons.mp h with rfl | h
    · rw [if_pos hx]
      exact fun z => by cases z
    · intro z
      exact nums_ne r (k + 1) x h hx (List.append_eq_nil_iff.mp z).2
theorem nums_len : ∀ (xs : List Int) (k : Nat), (numsFrom k xs).length ≤ xs.length
  | [], _ => Nat.le_refl _
  | y :: r, k => by
    show ((if 0 < y then [(k : Int)] else []) ++ numsFrom (k + 1) r).length ≤ r.length + 1
    rw [List.length_append]
    have := nums_len r (k + 1)
    split
    · show 1 + _ ≤ _
      omega
    · show 0 + _ ≤ _
      omega
def spNumbers : Sp := fun vs H Q _ => ∃ (a : Addr) (ns : List Int), vs = [.ref a] ∧ H a = some (.lst (ns.map V.int)) ∧ ns.length ≤ 60 ∧ ∀ H' o, Same H H' → H o = none → H' o = some (.tup ((numsFrom 0 ns).map V.int)) → Q (.ref o) H'
def spRunning : Sp := fun vs H Q _ => ∃ (a : Addr) (Ls : List Lw) (p : Int), vs = [.ref a, .int p] ∧ StrandAt H a Ls ∧ Ls.length ≤ 60 ∧ ∀ H' o, Same H H' → H o = none → H' o = some (.tup ((numsFrom 0 (Ls.map fun L => thickL L p)).map V.int)) → Q (.ref o) H'
def IsEnd (Ls : List Lw) (m : Int) : Prop := (Ls = [] → m = 0) ∧ (Ls ≠ [] → ∃ L ∈ Ls, m = lastOf L) ∧ ∀ L ∈ Ls, lastOf L ≤ m
def spEnd : Sp := fun vs H Q _ => ∃ (a : Addr) (Ls : List Lw), vs = [.ref a] ∧ StrandAt H a Ls ∧ Ls.length ≤ 60 ∧ (∀ L ∈ Ls, GoodL L) ∧ ∀ H' m, Same H H' → IsEnd Ls m → Q (.int m) H'
theorem letV_none : (!decide (letV none = V.non)) = false := by decide
theorem letV_some (n : Int) : (!decide (letV (some n) = V.non)) = true := by
  rw [decide_eq_false (fun z : letV (some n) = V.non => by cases z)]
  rfl
theorem letV_some' (n : Int) : decide (letV (some n) = V.non) = false := decide_eq_false (fun z : letV (some n) = V.non => by cases z)
theorem iteEqT {b : Bool} {A B : Prop} (e : b = true) (h : A) : if b = true then A else B := by
  rw [if_pos e]
  exact h
theorem iteEqF {b : Bool} {A B : Prop} (e : b = false) (h : B) : if b = true then A else B := by
  rw [e, if_neg Bool.false_ne_true]
  exact h
def endsOf (L : Lw) : List Int := (partsOf L.le L.ps L.pl).map fun t => t.2.1
theorem ends_ok {Ls : List Lw} (g : ∀ L ∈ Ls, GoodL L) {m : Int} (h : (Ls.map endsOf).flatten = [] ∧ m = 0 ∨ m ∈ (Ls.map endsOf).flatten ∧ ∀ y, y ∈ (Ls.map endsOf).flatten → y ≤ m) : IsEnd Ls m := by
  have has : ∀ L ∈ Ls, lastOf L ∈ (Ls.map endsOf).flatten := fun L hL => by
    have gL := g L hL
    have hp : ∀ x ∈ L.ps, 1 ≤ x.2 := fun x hx => (gL.1.2.2 x hx).2.2.1
    obtain ⟨x, h1, h2⟩ := parts_has (le := L.le) L.ps L.pl hp (last_gt gL)
    refine List.mem_flatten.mpr ⟨endsOf L, List.mem_map.mpr ⟨L, hL, rfl⟩, List.mem_map.mpr ⟨x, h1, h2⟩⟩
  have at_ : ∀ y ∈ (Ls.map endsOf).flatten, ∃ L ∈ Ls, y ≤ lastOf L := fun y hy => by
    obtain ⟨l, h1, h2⟩ := List.mem_flatten.mp hy
    obtain ⟨L, hL, rfl⟩ := List.mem_map.mp h1
    obtain ⟨x, h3, rfl⟩ := List.mem_map.mp h2
    have gL := g L hL
    exact ⟨L, hL, parts_le L.ps L.pl (fun x hx => (gL.1.2.2 x hx).2.2.1) x h3⟩
  rcases h with ⟨h0, rfl⟩ | ⟨h1, h2⟩
  · have hn : Ls = [] := by
      cases Ls with
      | nil => rfl
      | cons L r =>
        have := has L (by simp)
        rw [h0] at this
        cases this
    exact ⟨fun _ => rfl, fun z => absurd hn z, fun L hL => by rw [hn] at hL; cases hL⟩
  · have hn : Ls ≠ [] := fun z => by
      rw [z] at h1
      cases h1
    obtain ⟨L, hL, hle⟩ := at_ m h1
    have := h2 _ (has L hL)
    exact ⟨fun z => absurd z hn, fun _ => ⟨L, hL, by omega⟩, fun L' hL' => h2 _ (has L' hL')⟩
theorem LaidAt.same {H H' : Hp} {a : Addr} {L : Lw} (e : Same H H') (h : LaidAt H a L) : LaidAt H' a L := h.mono (Tups.same e)
def spPick : Sp := fun vs H Q _ => ∃ (p l : Addr) (T : Nat) (a : Addr) (xs : List V), vs = [.ref p, .ref a] ∧ Pot H p l T ∧ T < 2 ^ 39 ∧ H a = some (.lst xs) ∧ a ≠ p ∧ a ≠ l ∧ 1 ≤ xs.length ∧ xs.length ≤ 2000 ∧
  ∀ H' (j : Nat) x, xs[j]? = some x → Pot H' p l (T + 1) → Keep p l H H' → Q x H'
def LPartsAt (H : Hp) (bs : List Addr) (Ls : List Lw) : Prop := bs.length = Ls.length ∧ ∀ (i : Nat) (b : Addr), bs[i]? = some b → ∃ L, Ls[i]? = some L ∧ TableAt H b (lawParts L.le L.ps L.pl)
theorem TableAt.same {H H' : Hp} {o : Addr} {ts : List (Int × Int × Int)} (e : Same H H') (h : TableAt H o ts) : TableAt H' o ts := by
  obtain ⟨as, h1, h2⟩ := h
  exact ⟨as, e _ _ h1, h2.mono (Tups.same e)⟩
theorem LPartsAt.same {H H' : Hp} {bs : List Addr} {Ls : List Lw} (e : Same H H') (h : LPartsAt H bs Ls) : LPartsAt H' bs Ls := ⟨h.1, fun i b hb => by
  obtain ⟨L, h1, h2⟩ := h.2 i b hb
  exact ⟨L, h1, TableAt.same e h2⟩⟩
theorem LPartsAt.nil {H : Hp} : LPartsAt H [] [] := ⟨rfl, fun i a h => by simp at h⟩
theorem LPartsAt.snoc {H : Hp} {as : List Addr} {Ls : List Lw} {a : Addr} {L : Lw} (h : LPartsAt H as Ls) (e : TableAt H a (lawParts L.le L.ps L.pl)) : LPartsAt H (as ++ [a]) (Ls ++ [L]) := by
  refine ⟨by simp [h.1], fun i b hb => ?_⟩
  by_cases hi : i < as.length
  · rw [List.getElem?_append_left hi] at hb
    obtain ⟨M, h1, h2⟩ := h.2 i b hb
    exact ⟨M, by rw [List.getElem?_append_left (by rw [← h.1]; exact hi)]; exact h1, h2⟩
  · rw [List.getElem?_append_right (by omega)] at hb
    have hz : i - as.length = 0 := by
      cases hk : i - as.length with
      | zero => rfl
      | succ n =>
        rw [hk] at hb
        simp at hb
    rw [hz] at hb
    have : a = b := Option.some.inj hb
    subst this
    refine ⟨L, ?_, e⟩
    rw [List.getElem?_append_right (by rw [← h.1]; omega), ← h.1, hz]
    rfl
def spLawParts : Sp := fun vs H Q _ => ∃ (a : Addr) (Ls : List Lw), vs = [.ref a] ∧ StrandAt H a Ls ∧ Ls.length ≤ 60 ∧ (∀ L ∈ Ls, GoodL L) ∧ ∀ (H' : Hp) (o : Addr) (bs : List Addr), Same H H' → H o = none → H' o = some (.lst (bs.map V.ref)) → LPartsAt H' bs Ls → Q (.ref o) H'
/-- the last part of the law's own -/
theorem lp_last {H : Hp} {b : Addr} {L : Lw} (g : GoodL L) (h : TableAt H b (lawParts L.le L.ps L.pl)) : ∃ (as : List Addr) (z : Addr) (t b' : Int), H b = some (.lst (as.map V.ref)) ∧ atI (as.map V.ref) (-1) = some (.ref z) ∧ H z = some (.tup [.int b', .int (lastOf L), .int t]) := by
  obtain ⟨as, h1, h2⟩ := h
  have hp : ∀ x ∈ L.ps, 1 ≤ x.2 := fun x hx => (g.1.2.2 x hx).2.2.1
  have hne : L.ps ≠ [] := fun e => by
    have := g.1.1
    rw [e] at this
    exact absurd this (by decide)
  obtain ⟨ys, b', t, e⟩ := law_last (le := L.le) L.ps L.pl hne hp fun n hn => (g.2.2.2.2.2 n hn).1
  rw [e] at h2
  have hl : as.length = ys.length + 1 := by
    have := h2.1
    simpa using this
  have hi : ys.length < as.length := by omega
  have e1 : (as.map V.ref)[ys.length]? = some (.ref as[ys.length]) := by
    rw [List.getElem?_map, List.getElem?_eq_getElem hi]
    rfl
  obtain ⟨z, b2, c2, d2, e2, e3, e4⟩ := row_get h2 e1
  rw [List.getElem?_append_right (Nat.le_refl _), Nat.sub_self] at e3
  have e5 := Option.some.inj e3
  obtain ⟨e6, e7⟩ := Prod.mk.inj e5
  obtain ⟨e8, e9⟩ := Prod.mk.inj e7
  refine ⟨as, z, t, b', h1, ?_, ?_⟩
  · have h0 : as.map V.ref ≠ [] := fun q => by
      have := congrArg List.length q
      rw [List.length_map, hl] at this
      exact absurd this (by simp)
    have h3 : (as.map V.ref).getLast h0 = .ref z := by
      have := List.getLast?_eq_getLast h0
      rw [List.getLast?_eq_getElem?, List.length_map, hl, Nat.add_sub_cancel, e1] at this
      exact (Option.some.inj this).symm.trans e2
    have h4 := List.dropLast_concat_getLast h0
    rw [h3] at h4
    rw [← h4]
    exact atI_last _ _
  · rw [e4, ← e6, ← e8, ← e9]
    rfl
theorem LPartsAt.other {H : Hp} {bs : List Addr} {Ls : List Lw} {o : Addr} {xs : List V} {u : HO} (h : LPartsAt H bs Ls) (hne : ∀ b ∈ bs, b ≠ o) (eo : H o = some (.lst xs)) : LPartsAt (upd H o u) bs Ls := ⟨h.1, fun i b hb => by
  obtain ⟨L, h1, as, h2, h3⟩ := h.2 i b hb
  exact ⟨L, h1, as, by rw [upd_ne (hne b (List.mem_of_getElem? hb))]; exact h2, h3.mono (Tups.ls eo)⟩⟩
def Sf (p l S : Addr) (as : List Addr) (Ls : List Lw) (H H' : Hp) (T : Nat) : Prop := H' S = some (.lst (as.map V.ref)) ∧ LaidsAt H' as Ls ∧ Pot H' p l T ∧ Keep p l H H'
theorem Sf.keep {p l S : Addr} {as : List Addr} {Ls : List Lw} {H H' H2 : Hp} {T U : Nat} (h : Sf p l S as Ls H H' T) (n1 : S ≠ p) (n2 : S ≠ l) (k : Keep p l H' H2) (hp : Pot H2 p l U) : Sf p l S as Ls H H2 U := ⟨k _ _ n1 n2 h.1, h.2.1.mono (k.tups h.2.2.1), hp, h.2.2.2.trans k⟩
theorem Sf.new {p l S a : Addr} {as : List Addr} {Ls : List Lw} {H H' : Hp} {T : Nat} {o : HO} (h : Sf p l S as Ls H H' T) (n : H' a = none) : Sf p l S as Ls H (upd H' a o) T := ⟨by rw [upd_ne (ne_of_none h.1 n)]; exact h.1, h.2.1.mono (Tups.new n), h.2.2.1.new n, h.2.2.2.new n⟩
theorem Sf.up {p l S : Addr} {as : List Addr} {Ls : List Lw} {H H' : Hp} {T U : Nat} (h : Sf p l S as Ls H H' T) (e : T ≤ U) : Sf p l S as Ls H H' U := ⟨h.1, h.2.1, h.2.2.1.mono e, h.2.2.2⟩
theorem cut_take (xs : List V) (n : Nat) : cutV xs none (some (n : Int)) = xs.take n := by
  unfold cutV
  rw [HT.sIx_none, HT.sIx_nat]
  show (xs.drop 0).take (min n xs.length - 0) = xs.take n
  rw [List.drop_zero, Nat.sub_zero]
  by_cases h : n ≤ xs.length
  · rw [Nat.min_eq_left h]
  · rw [Nat.min_eq_right (by omega), List.take_length, List.take_of_length_le (by omega)]
def spStrand : Sp := fun vs H Q _ => ∃ (p l : Addr) (T : Nat) (most : Int) (small : Bool), vs = [.ref p, .int most, .bl small] ∧ Pot H p l T ∧ T < 2 ^ 37 ∧ (most = 8 ∨ most = 60) ∧
  ∀ H' a Ls, Pot H' p l (T + 20000) → Keep p l H H' → StrandAt H' a Ls → Ls.length ≤ 60 → (∀ L ∈ Ls, GoodL L) → Q (.ref a) H'
theorem first_of {ns : List Int} {M : Int} (h : M ∈ ns) : ∃ j : Nat, ns[j]? = some M ∧ ∀ m z, m < j → ns[m]? = some z → z ≠ M := by
  induction ns with
  | nil => cases h
  | cons y r ih =>
    by_cases e : y = M
    · exact ⟨0, by rw [e]; rfl, fun m z hm _ => absurd hm (Nat.not_lt_zero _)⟩
    · have hr : M ∈ r := by
        rcases List.mem_cons.mp h with h | h
        · exact absurd h.symm e
        · exact h
      obtain ⟨j, h1, h2⟩ := ih hr
      refine ⟨j + 1, h1, fun m z hm hz => ?_⟩
      cases m with
      | zero =>
        have : y = z := Option.some.inj hz
        rw [← this]
        exact e
      | succ m => exact h2 m z (by omega) hz
theorem cut_drop (xs : List V) (n : Nat) (h : n ≤ xs.length) : cutV xs (some (n : Int)) none = xs.drop n := by
  unfold cutV
  rw [HT.sIx_none, HT.sIx_nat, Nat.min_eq_left h]
  exact List.take_of_length_le (by rw [List.length_drop]; exact Nat.le_refl _)
theorem LaidsAt.parts {H : Hp} {as : List Addr} {Ls : List Lw} {n : Nat} {b : Addr} {L : Lw} (h : LaidsAt H as Ls) (hn : n < as.length) (e : LaidAt H b L) : LaidsAt H (as.take n ++ [b] ++ as.drop (n + 1)) (Ls.set n L) := by
  have e1 : as.take n ++ [b] ++ as.drop (n + 1) = as.set n b := by
    rw [List.set_eq_take_append_cons_drop, if_pos hn, List.append_assoc]
    rfl
  rw [e1]
  exact h.set e n
def lasts (Ls : List Lw) : List Int := Ls.map lastOf
def spLetLast : Sp := fun vs H Q _ => ∃ (p l : Addr) (T : Nat) (a : Addr) (Ls : List Lw), vs = [.ref p, .ref a] ∧ Pot H p l T ∧ T < 2 ^ 38 ∧ StrandAt H a Ls ∧ Ls ≠ [] ∧ Ls.length ≤ 60 ∧ (∀ L ∈ Ls, GoodL L) ∧
  ∀ (H' : Hp) (b : Addr) (Ms : List Lw), Pot H' p l (T + 1) → Keep p l H H' → StrandAt H' b Ms → Ms.length = Ls.length → (∀ L ∈ Ms, GoodL L) → Q (.ref b) H'
theorem last_lt {L : Lw} (g : GoodL L) : lastOf L < 2 ^ 205 := by
  have h1 := longs_lt g.1
  have h2 := g.2.2.2.2.1
  have h3 : (2 : Int) ^ 204 + 2 ^ 130 < 2 ^ 205 := by decide
  have h4 := clip_le (le := L.le) (e := L.pl + longs L.ps)
  unfold lastOf
  omega
theorem slA {K : PySem.W.Frag} {H : Hp} {a : Addr} {xs : List V} {lo hi : Option Int} {Q : VK} (h : H a = some (.tup xs)) (q : ∀ H' p, Same H H' → H' p = some (.tup (cutV xs lo hi)) → Q (.ref p) H') : rSlA K (.ref a) lo hi H Q := by
  refine ⟨a, xs, rfl, SqT.of h, fun e => ?_, fun _ p np => q _ p (same_new (Same.refl H) np) upd_same⟩
  refine q H a (Same.refl H) ?_
  rw [h]
  unfold cutV
  rw [e.1, e.2, List.drop_zero, Nat.sub_zero, List.take_length]
theorem catA {K : PySem.W.Frag} {H : Hp} {a b : Addr} {xs ys : List V} {Q : VK} (ha : H a = some (.tup xs)) (hb : H b = some (.tup ys)) (hz : xs.length + ys.length ≤ sizeLine) (q : ∀ H' p, Same H H' → H' p = some (.tup (xs ++ ys)) → Q (.ref p) H') : rCatA K (.ref a) (.ref b) H Q := by
  refine ⟨a, b, xs, ys, rfl, rfl, SqT.of ha, SqT.of hb, hz, fun e => ?_, fun _ e => ?_, fun _ _ p np => q _ p (same_new (Same.refl H) np) upd_same⟩
  · refine q H b (Same.refl H) ?_
    rw [hb, e]
    rfl
  · refine q H a (Same.refl H) ?_
    rw [ha, e, List.append_nil]
theorem can_all {xs : List PyData} (h : ∀ x ∈ xs, x.canLay0 = true) : PyData.canLayAll0 xs = true := by
  induction xs with
  | nil => rfl
  | cons x r ih =>
    show (x.canLay0 && PyData.canLayAll0 r) = true
    rw [h x (by simp), ih fun y hy => h y (by simp [hy])]
    rfl
theorem Sh.can {d : PyData} (h : Sh d) : d.canLay0 = true := by
  induction h with
  | non => rfl
  | bl b => rfl
  | int h => rfl
  | lst _ ih => exact can_all ih
  | tup _ ih => exact can_all ih
theorem depth_all {xs : List PyData} {n : Nat} (h : ∀ x ∈ xs, x.depth ≤ n) : PyData.depthAll xs ≤ n := by
  induction xs with
  | nil => exact Nat.zero_le _
  | cons x r ih => exact Nat.max_le.mpr ⟨h x (by simp), ih fun y hy => h y (by simp [hy])⟩
def letD : Option Int → PyData
  | none => .none
  | some n => .int n
def laidD (L : Lw) : PyData := .tuple [wispD L.so L.ps, .int L.pl, letD L.le]
def strandD (Ls : List Lw) : PyData := .tuple (Ls.map laidD)
theorem laid_sh {L : Lw} (g : GoodL L) : Sh (laidD L) := by
  refine .tup fun x hx => ?_
  simp only [List.mem_cons, List.not_mem_nil, or_false] at hx
  rcases hx with rfl | rfl | rfl
  · exact wisp_sh g.2.1 g.2.2.1 g.1
  · exact sh_nat g.2.2.2.1 (Int.lt_trans g.2.2.2.2.1 (by decide))
  · cases h : L.le with
    | none => exact .non
    | some n =>
      have := g.2.2.2.2.2 n h
      have h0 := g.2.2.2.1
      exact .int (log_lt (by omega) (Int.lt_trans this.2 (by decide)))
theorem laid_depth (L : Lw) : (laidD L).depth ≤ 4 := by
  have := wisp_depth L.so L.ps
  refine Nat.succ_le_succ (depth_all fun x hx => ?_)
  simp only [List.mem_cons, List.not_mem_nil, or_false] at hx
  rcases hx with rfl | rfl | rfl
  · exact this
  · exact Nat.zero_le _
  · cases L.le with
    | none => exact Nat.zero_le _
    | some n => exact Nat.zero_le _
theorem strand_sh {Ls : List Lw} (g : ∀ L ∈ Ls, GoodL L) : Sh (strandD Ls) := .tup fun x hx => by
  obtain ⟨L, hL, rfl⟩ := List.mem_map.mp hx
  exact laid_sh (g L hL)
theorem strand_depth (Ls : List Lw) : (strandD Ls).depth ≤ 5 := Nat.succ_le_succ (depth_all fun x hx => by
  obtain ⟨L, hL, rfl⟩ := List.mem_map.mp hx
  exact laid_depth L)
theorem Sh.shaped {d : PyData} (h : Sh d) (hd : d.depth ≤ 64) : SeqAt.shaped d = true := Bool.and_eq_true_iff.mpr ⟨h.can, decide_eq_true hd⟩
theorem LaidAt.dp {K : PySem.W.Frag} {H : Hp} {a : Addr} {L : Lw} (h : LaidAt H a L) : Dp K H (.ref a) (laidD L) := by
  obtain ⟨wa, h1, h2⟩ := h
  refine .tup (SqT.of h1) (.cons h2.dp (.cons (.int _) (.cons ?_ .nil)))
  cases L.le with
  | none => exact .non
  | some n => exact .int n
theorem laids_dp {K : PySem.W.Frag} {H : Hp} : ∀ {as : List Addr} {Ls : List Lw}, LaidsAt H as Ls → DpAll K H (as.map V.ref) (Ls.map laidD)
  | [], [], _ => .nil
  | [], L :: r, h => absurd h.1 (by simp)
  | a :: r, [], h => absurd h.1 (by simp)
  | a :: as, L :: Ls, h => by
    obtain ⟨M, h1, h2⟩ := h.2 0 a rfl
    have e : L = M := Option.some.inj h1
    subst e
    exact .cons h2.dp (laids_dp ⟨Nat.succ.inj (by simpa using h.1), fun i b hb => h.2 (i + 1) b hb⟩)
theorem StrandAt.dp {K : PySem.W.Frag} {H : Hp} {a : Addr} {Ls : List Lw} (h : StrandAt H a Ls) : Dp K H (.ref a) (strandD Ls) := by
  obtain ⟨as, h1, h2⟩ := h
  exact .tup (SqT.of h1) (laids_dp h2)
theorem eq_nil (ds : List PyData) : PyData.eqv (.tuple ds) (.tuple []) = ds.isEmpty := by
  cases ds with
  | nil => rfl
  | cons x r => rfl
theorem ints_dp {K : PySem.W.Frag} {H : Hp} : ∀ ns : List Int, DpAll K H (ns.map V.int) (ns.map PyData.int)
  | [] => .nil
  | n :: r => .cons (.int n) (ints_dp r)
theorem ints_shaped (ns : List Int) : SeqAt.shaped (.tuple (ns.map PyData.int)) = true := by
  refine Bool.and_eq_true_iff.mpr ⟨can_all fun x hx => ?_, decide_eq_true (Nat.le_trans (Nat.succ_le_succ (depth_all (n := 0) fun x hx => ?_)) (by decide))⟩
  · obtain ⟨n, _, rfl⟩ := List.mem_map.mp hx
    rfl
  · obtain ⟨n, _, rfl⟩ := List.mem_map.mp hx
    exact Nat.le_refl _
def spRight7 : Sp := fun vs H Q _ => ∃ (p l : Addr) (T : Nat) (a : Addr) (Ls : List Lw), vs = [.ref p, .ref a] ∧ Pot H p l T ∧ T < 2 ^ 38 ∧ StrandAt H a Ls ∧ Ls.length ≤ 60 ∧ (∀ L ∈ Ls, GoodL L) ∧
  ∀ (H' : Hp), Pot H' p l (T + 5) → Keep p l H H' → Q (.bl true) H'
theorem end_is {Ls : List Lw} (g : ∀ L ∈ Ls, GoodL L) {m M : Int} (h : IsEnd Ls m) (h1 : M ∈ 0 :: lasts Ls) (h2 : ∀ y, y ∈ 0 :: lasts Ls → y ≤ M) : m = M := by
  obtain ⟨a1, a2, a3⟩ := h
  have h0 := h2 0 (by simp)
  by_cases hn : Ls = []
  · have e := a1 hn
    rw [hn] at h1
    have : M = 0 := by simpa [lasts] using h1
    omega
  · obtain ⟨L, hL, e⟩ := a2 hn
    have h3 := h2 m (List.mem_cons_of_mem _ (List.mem_map.mpr ⟨L, hL, e.symm⟩))
    have h4 := last_gt (g L hL)
    have h5 := (g L hL).2.2.2.1
    rcases List.mem_cons.mp h1 with h | h
    · omega
    · obtain ⟨L', hL', e'⟩ := List.mem_map.mp h
      have := a3 L' hL'
      omega
def Strs (H : Hp) (cs : List Addr) : Prop := ∀ c ∈ cs, ∃ Ls, StrandAt H c Ls ∧ Ls.length ≤ 60 ∧ ∀ L ∈ Ls, GoodL L
theorem Strs.mono {H H' : Hp} {cs : List Addr} (h : Strs H cs) (t : Tups H H') : Strs H' cs := fun c hc => by
  obtain ⟨Ls, h1, h2⟩ := h c hc
  exact ⟨Ls, h1.mono t, h2⟩
theorem ref_get {bs : List Addr} {i : Nat} {x : V} (h : (bs.map V.ref)[i]? = some x) : ∃ b, x = .ref b ∧ bs[i]? = some b := by
  rw [List.getElem?_map] at h
  cases q : bs[i]? with
  | none =>
    rw [q] at h
    cases h
  | some b =>
    rw [q] at h
    exact ⟨b, (Option.some.inj h).symm, rfl⟩
/-! ### dicts of numbers: update, sorted -/
section
variable {X : Cx}
def rUpd : V → List V → Hp → VK → Prop := fun x vs H Q => ∃ (a b : Addr) (kvs more : List (Key × V)), x = .ref a ∧ vs = [.ref b] ∧ H a = some (.dK kvs) ∧ H b = some (.dK more) ∧ a ≠ b ∧ kvs.length + more.length ≤ sizeLine ∧ Q .non (upd H a (.dK (mergeK kvs more)))
theorem mt_dupdate : MtR X "dict.update" rUpd := by
  intro pins s σ H x vs v us Q I rx rv h
  obtain ⟨a, b, kvs, more, rfl, rfl, ea, eb, ne, hz, q⟩ := h
  cases (show v = Value.ref a from rx)
  rw [Vals.ref1 rv]
  obtain ⟨z1, y1, vs1, rel1, dd1⟩ := dk_of I.hok ea
  obtain ⟨z2, y2, vs2, rel2, dd2⟩ := dk_of I.hok eb
  refine call_meetsIn PySem.F.slot_dict_update dd1.typeIs PySem.F.entry_dict_update (PySem.F.args_dict_update_2 _ _) (meets_dict_update (mixKind X.prog X.w) a b ne y2) ⟨vs1, vs2, dd1, dd2, by rw [← rel1.length, ← rel2.length]; exact hz, fun h' dd' _ hs => ?_⟩
  have he : ∃ o, h'.get? a = some o := dd'.elim fun o z => z.elim fun _ z => z.elim fun _ z => ⟨o, z.1⟩
  exact ⟨.non, _, d_write I (by rw [ea]; exact True.intro) hs he (dk_new (Nat.le_trans (length_mergeK more kvs) hz) y1 (KV.merge rel2 rel1) dd'), rfl, q⟩
def rSortD : List V → Hp → VK → Prop := fun xs H Q => ∃ (a : Addr) (kvs : List (Key × V)) (ks : List Int), xs = [.ref a] ∧ H a = some (.dK kvs) ∧ kvs.map (·.1) = ks.map Sum.inl ∧ ∀ (ys : List Int) (p : Addr), ys.Perm ks → ys.Pairwise (· ≤ ·) → H p = none → Q (.ref p) (upd H p (.lst (ys.map V.int)))
theorem call_sortD (hc : X.calm = true) : CallR X (.builtin "sorted") rSortD := by
  intro pins s σ H xs us Q I va h
  obtain ⟨a, kvs, ks, rfl, ea, hks, q⟩ := h
  rw [Vals.ref1 va]
  obtain ⟨z, lo, vs, rel, dd⟩ := dk_of I.hok ea
  obtain ⟨ep, hat⟩ := dd.dictAt
  have ek : vs.map (·.1) = ks.map Sum.inl := rel.keys.symm.trans hks
  have hl : vs.length = ks.length := by
    have e := congrArg List.length ek
    rw [List.length_map, List.length_map] at e
    exact e
  have hz : vs.length ≤ sizeLine := by rw [← rel.length]; exact z
  refine Calls.call_function_entry PyProof.Rows.kind_sorted PyProof.Rows.plain_sorted PyProof.Rows.entry_sorted (PyProof.Rows.args_sorted1 _) ?_
  unfold Builtin.«sorted»
  refine wpAny_bind (m := checkCount "sorted" 1 1 _) (wpAny_pure (wpAny_bind (PySem.W.kdu_collect (A := X.A.in1) (PySem.W.kdl_dict (knd := mixKind X.prog X.w) (kvs := vs) (ep := ep) lo) (I.ok.hd hc) hat hz fun h1 tk acc hk hacc => ?_)))
  have hal : acc.toList.length = ks.length := by rw [Array.length_toList, hacc.1, hl]
  have hS : IntsAre acc.toList ks := ints_each hal fun j v e => by
    obtain ⟨k, x, e1, e2⟩ := hacc.2 j v (by rw [← Array.getElem?_toList]; exact e)
    have e3 : (vs.map (·.1))[j]? = some k := by rw [List.getElem?_map, e1]; rfl
    rw [ek, List.getElem?_map] at e3
    cases e4 : ks[j]? with
    | none => rw [e4] at e3; cases e3
    | some y =>
      rw [e4] at e3
      cases (show Sum.inl y = k from Option.some.inj e3)
      rcases keyIs_shape (show keyIs (Sum.inl y) v = true from e2) with ⟨i, t, q1, q2⟩ | ⟨i, t, q1, q2⟩
      · cases q1
        exact ⟨y, t, rfl, q2⟩
      · cases q1
  have J : Inv X pins σ H { s with heap := h1, toks := tk } := I.kept hk
  have hz2 : acc.toList.length ≤ sizeLine := by rw [hal, ← hl]; exact hz
  refine wpAny_bind (wpAny_newList ?_ hz2)
  have hoL : (h1.push (seqObj "list" acc.toList.toArray 0)).get? h1.objs.size = some (seqObj "list" acc.toList.toArray 0) := Heap.get?_push_size _ rfl
  show wpAny _ _ _ _ _ { s with heap := h1.push (seqObj "list" acc.toList.toArray 0), toks := tk }
  refine wpAny_bind (wpAny_holding (wpAny_call_entry PyProof.Rows.slot_list_sort ⟨_, hoL, rfl⟩ PyProof.Rows.entry_list_sort (SrtO.list_sort_ord SrtO.swo_int hoL hz2 (fun h2 => SrtO.ints_sortable hS h2) fun out g1 g2 => ⟨_, rfl, ?_⟩) (PyProof.Rows.args_list_sort _)))
  obtain ⟨k1, k2, k3⟩ := SrtO.ints_out hS g1 g2
  obtain ⟨ep2, he2⟩ := PyProof.Rows.sortedHeap_at (vs := acc.toList) (out := out.toArray) hoL
  have hz3 : ((out.map SrtO.iv).map V.int).length ≤ sizeLine := by rw [List.length_map, k2.length_eq, ← hal]; exact hz2
  refine wpAny_pure ⟨_, rfl, .ref h1.objs.size, upd H h1.objs.size (.lst ((out.map SrtO.iv).map V.int)), J.laid (t' := tk) (fun b u e => ?_) (Nat.le_refl _) (show ObjOk X.prog X.w _ _ _ (.lst ((out.map SrtO.iv).map V.int)) from ⟨hz3, out, ep2, vals_of_ints k1, he2⟩), rfl, q _ _ k2 k3 (J.hok.fresh (Nat.le_refl _))⟩
  have hb : b < h1.objs.size := Heap.lt_size e
  rw [PyProof.Rows.sortedHeap_old (Nat.ne_of_lt hb) (by rw [size_push']; exact Nat.lt_succ_of_lt hb)]
  exact Heap.get?_push_of_some _ e
end
/-! ### zip of a tuple and a list -/
section
open PySem
variable {prog : Program} {w : World} {A : Around} {E : Value → Shared → Prop} {s : Shared}
theorem mixItem {z tI tO j1 j2 m1 m2 : Addr} {k : Nat} {us vs : Array Value} {u v a b : Value} {Q : Value → Shared → Prop} (D : ZipApart z tI tO j1 j2 m1 m2)
    (gz : IsZip s.heap z tI tO .none) (gI : IsPair s.heap tI (.ref j1) (.ref j2)) (gO : IsPair s.heap tO a b) (g1 : s.heap.IsTupleIter j1 m1 k) (g2 : s.heap.IsListIter j2 m2 k) (t1 : s.heap.IsTuple m1 us) (t2 : s.heap.IsList m2 vs) (e1 : us[k]? = some u) (e2 : vs[k]? = some v)
    (q : ∀ h', IsZip h' z tI tO (rawInt s.heap.objs.size) → IsPair h' tO u v → h'.IsTupleIter j1 m1 (k + 1) → h'.IsListIter j2 m2 (k + 1) → IsPair h' s.heap.objs.size u v → h'.objs.size = s.heap.objs.size + 1 →
      (∀ c o, ¬ c ∈ [z, tI, tO, j1, j2] ∨ c = tI → s.heap.get? c = some o → h'.get? c = some o) → Q (.ref s.heap.objs.size) { s with heap := h' }) :
    wpAny (model prog w) A (Builtin.«zip.__next__» ⟨[.ref z], []⟩) (fun r s' => ∃ x, r = .done (.ret x) ∧ Q x s') E s := by
  show wpAny _ _ (field (.ref z) 2 >>= _) _ _ _
  refine wpAny_bind (wpAny_field gz rfl (x := .bool false) rfl ?_)
  show wpAny _ _ (field (.ref z) 3 >>= _) _ _ _
  refine wpAny_bind (wpAny_field gz rfl (x := .ref tI) rfl (wpAny_bind (wpAny_seqItems gI rfl ?_)))
  show wpAny _ _ (Builtin.SmallTypes.ownedTupleIsFree (.ref z) >>= _) _ _ s
  refine wpAny_bind ?_; unfold Builtin.SmallTypes.ownedTupleIsFree
  refine wpAny_bind (wpAny_field gz rfl (x := .none) rfl (wpAny_pure ?_)); simp only [if_true]
  refine wpAny_bind (wpAny_rule (wpAny_bind (wpAny_field gz rfl (x := .ref tO) rfl (wpAny_bind (wpAny_setField_rec gz (by simp) fun p1 gz1 b1 => ?_)))))
  have gz1 : IsZip p1 z tI tO .ellipsis := gz1
  refine wpAny_bind ?_; simp only [List.forIn_cons, List.zipIdx_cons, List.forIn_nil, List.zipIdx_nil]
  -- the tuple's next one
  refine wpAny_bind (wpAny_bind (wpAny_onRaise ?_))
  show wpAny _ _ (Builtin.SmallTypes.nextOf (.ref j1) >>= _) _ _ _
  refine wpAny_bind (RZ.nextOf_tuple_item (g1.extBut b1.extBut D.i1z) (t1.extBut b1.extBut D.l1z) e1 fun p2 g12 b2 => wpAny_pure ?_)
  have gO2 : IsPair p2 tO a b := b2.extBut _ _ D.TOi1 (b1.extBut _ _ D.TOz gO)
  refine wpAny_bind (wpAny_seqItems gO2 rfl (wpAny_bind (wpAny_updateSeq_pair gO2 fun p3 gO3 b3 => wpAny_bind (wpAny_letGo (wpAny_pure ?_)))))
  have gO3 : IsPair p3 tO u b := gO3
  -- the list's next one
  refine wpAny_bind (wpAny_bind (wpAny_onRaise ?_))
  show wpAny _ _ (Builtin.SmallTypes.nextOf (.ref j2) >>= _) _ _ _
  have g23 := ((g2.extBut b1.extBut D.i2z).extBut b2.extBut D.i12.symm).extBut b3.extBut D.TOi2.symm
  have t23 := ((t2.extBut b1.extBut D.l2z).extBut b2.extBut D.l2i1).extBut b3.extBut D.l2TO
  refine wpAny_bind (wpAny_nextOf_list_item g23 t23 e2 fun p4 g24 b4 => wpAny_pure ?_)
  have gO4 : IsPair p4 tO u b := b4.extBut _ _ D.TOi2 gO3
  refine wpAny_bind (wpAny_seqItems gO4 rfl (wpAny_bind (wpAny_updateSeq_pair gO4 fun p5 gO5 b5 => wpAny_bind (wpAny_letGo (wpAny_pure (wpAny_pure ?_))))))
  have gO5 : IsPair p5 tO u v := gO5
  refine wpAny_bind (wpAny_seqItems gO5 rfl (wpAny_bind (wpAny_newTuple ?_)))
  have zs : p5.objs.size = s.heap.objs.size := by rw [b5.1, b4.1, b3.1, b2.1, b1.1]
  have gz5 : IsZip p5 z tI tO .ellipsis := b5.extBut _ _ D.TOz.symm (b4.extBut _ _ D.i2z.symm (b3.extBut _ _ D.TOz.symm (b2.extBut _ _ D.i1z.symm gz1)))
  have kp : ∀ c o, c ≠ z → c ≠ tO → c ≠ j1 → c ≠ j2 → s.heap.get? c = some o → p5.get? c = some o := fun c o n1 n2 n3 n4 e => by
    rw [b5.2 c n2, b4.2 c n4, b3.2 c n2, b2.2 c n3, b1.2 c n1]
    exact e
  have g15 : p5.IsTupleIter j1 m1 (k + 1) := g12.at fun o e => by
    rw [b5.2 _ D.TOi1.symm, b4.2 _ D.i12, b3.2 _ D.TOi1.symm]
    exact e
  have g25 : p5.IsListIter j2 m2 (k + 1) := g24.at fun o e => (b5.2 _ D.TOi2.symm).trans e
  have lz : z < p5.objs.size := Heap.lt_size gz5
  show wpAny _ _ (Builtin.SmallTypes.ownedTupleHandOut (.ref z) (.ref p5.objs.size) >>= _) _ _ _
  refine wpAny_bind ?_; unfold Builtin.SmallTypes.ownedTupleHandOut
  have gz6 : IsZip (p5.push { cls := .type "tuple", data := .seq #[u, v] }) z tI tO .ellipsis := Heap.get?_push_of_some _ gz5
  refine wpAny_bind (wpAny_setField_rec gz6 (by simp) fun p7 gz7 b7 => ?_)
  have gz7 : IsZip p7 z tI tO (rawInt p5.objs.size) := gz7
  refine wpAny_setField_rec gz7 (by simp) fun p8 gz8 b8 => wpAny_pure ⟨_, rfl, ?_⟩
  have gz8 : IsZip p8 z tI tO (rawInt p5.objs.size) := gz8
  have up : ∀ c o, c ≠ z → p5.get? c = some o → p8.get? c = some o := fun c o n e => by
    rw [b8.2 c n, b7.2 c n]
    exact Heap.get?_push_of_some _ e
  have gT : IsPair p8 p5.objs.size u v := by
    show p8.get? _ = _
    rw [b8.2 _ (Nat.ne_of_gt lz), b7.2 _ (Nat.ne_of_gt lz)]
    exact Heap.get?_push_size _ rfl
  have z8 : p8.objs.size = p5.objs.size + 1 := by rw [b8.1, b7.1, Heap.size_push]
  rw [zs] at gz8 gT z8
  show Q (.ref p5.objs.size) _
  rw [zs]
  refine q p8 gz8 (up _ _ D.TOz gO5) (g15.at fun o e => up _ o D.i1z e) (g25.at fun o e => up _ o D.i2z e) gT z8 fun c o n e => ?_
  have n4 : c ≠ z ∧ c ≠ tO ∧ c ≠ j1 ∧ c ≠ j2 := by
    rcases n with n | n
    · simp only [List.mem_cons, List.not_mem_nil, or_false, not_or] at n
      exact ⟨n.1, n.2.2.1, n.2.2.2.1, n.2.2.2.2⟩
    · subst n
      exact ⟨D.TIz, D.TITO, D.TIi1, D.TIi2⟩
  exact up c o n4.1 (kp c o n4.1 n4.2.1 n4.2.2.1 n4.2.2.2 e)
theorem mixEnd {z tI tO j1 j2 m1 m2 : Addr} {k : Nat} {us vs : Array Value} {a b : Value} {Q : Fin → Shared → Prop} (hh : A.handled = none) (D : ZipApart z tI tO j1 j2 m1 m2)
    (gz : IsZip s.heap z tI tO .none) (gI : IsPair s.heap tI (.ref j1) (.ref j2)) (gO : IsPair s.heap tO a b) (g1 : s.heap.IsTupleIter j1 m1 k) (g2 : s.heap.IsListIter j2 m2 k) (t1 : s.heap.IsTuple m1 us) (t2 : s.heap.IsList m2 vs) (hend : us[k]? = none ∨ vs[k]? = none)
    (q : ∀ h' x, (∀ c o, ¬ c ∈ [z, tI, tO, j1, j2] → s.heap.get? c = some o → h'.get? c = some o) → (∃ o, h'.get? x = some o ∧ o.cls = .type "StopIteration") → E (.ref x) { s with heap := h' }) :
    wpAny (model prog w) A (Builtin.«zip.__next__» ⟨[.ref z], []⟩) Q E s := by
  have four : ∀ c, ¬ c ∈ [z, tI, tO, j1, j2] → c ≠ z ∧ c ≠ tO ∧ c ≠ j1 ∧ c ≠ j2 := fun c n => by
    simp only [List.mem_cons, List.not_mem_nil, or_false, not_or] at n
    exact ⟨n.1, n.2.2.1, n.2.2.2.1, n.2.2.2.2⟩
  show wpAny _ _ (field (.ref z) 2 >>= _) _ _ _
  refine wpAny_bind (wpAny_field gz rfl (x := .bool false) rfl ?_)
  show wpAny _ _ (field (.ref z) 3 >>= _) _ _ _
  refine wpAny_bind (wpAny_field gz rfl (x := .ref tI) rfl (wpAny_bind (wpAny_seqItems gI rfl ?_)))
  show wpAny _ _ (Builtin.SmallTypes.ownedTupleIsFree (.ref z) >>= _) _ _ s
  refine wpAny_bind ?_; unfold Builtin.SmallTypes.ownedTupleIsFree
  refine wpAny_bind (wpAny_field gz rfl (x := .none) rfl (wpAny_pure ?_)); simp only [if_true]
  refine wpAny_bind (wpAny_rule (wpAny_bind (wpAny_field gz rfl (x := .ref tO) rfl (wpAny_bind (wpAny_setField_rec gz (by simp) fun p1 gz1 b1 => ?_)))))
  have gz1 : IsZip p1 z tI tO .ellipsis := gz1
  refine wpAny_bind ?_; simp only [List.forIn_cons, List.zipIdx_cons, List.forIn_nil, List.zipIdx_nil]
  refine wpAny_bind (wpAny_bind (wpAny_onRaise ?_))
  show wpAny _ _ (Builtin.SmallTypes.nextOf (.ref j1) >>= _) _ _ _
  have last : ∀ (h : Heap) (x : Addr), IsZip h z tI tO .ellipsis → (∃ o, h.get? x = some o ∧ o.cls = .type "StopIteration") → x ≠ z := fun h x gz ⟨o, e, ec⟩ n => by
    subst n
    rw [gz] at e
    cases e
    simp at ec
  cases e1 : us[k]? with
  | none =>
    refine wpAny_bind (RZ.nextOf_tuple_end hh (g1.extBut b1.extBut D.i1z) (t1.extBut b1.extBut D.l1z) e1 fun p2 x b2 ex => ?_)
    have gz2 : IsZip p2 z tI tO .ellipsis := b2 _ _ D.i1z.symm gz1
    have nz := last p2 x gz2 ex
    obtain ⟨o, eo, ec⟩ := ex
    refine wpAny_setField_rec gz2 (by simp) fun p3 _ b3 => q p3 x (fun c o n e => ?_) ⟨o, (b3.2 _ nz).trans eo, ec⟩
    have n4 := four c n
    rw [b3.2 c n4.1]
    exact b2 _ _ n4.2.2.1 ((b1.2 c n4.1).trans e)
  | some u =>
    have e2 : vs[k]? = none := by
      rcases hend with h | h
      · rw [e1] at h
        cases h
      · exact h
    refine wpAny_bind (RZ.nextOf_tuple_item (g1.extBut b1.extBut D.i1z) (t1.extBut b1.extBut D.l1z) e1 fun p2 g12 b2 => wpAny_pure ?_)
    have gO2 : IsPair p2 tO a b := b2.extBut _ _ D.TOi1 (b1.extBut _ _ D.TOz gO)
    refine wpAny_bind (wpAny_seqItems gO2 rfl (wpAny_bind (wpAny_updateSeq_pair gO2 fun p3 gO3 b3 => wpAny_bind (wpAny_letGo (wpAny_pure ?_)))))
    refine wpAny_bind (wpAny_bind (wpAny_onRaise ?_))
    show wpAny _ _ (Builtin.SmallTypes.nextOf (.ref j2) >>= _) _ _ _
    have g23 := ((g2.extBut b1.extBut D.i2z).extBut b2.extBut D.i12.symm).extBut b3.extBut D.TOi2.symm
    have t23 := ((t2.extBut b1.extBut D.l2z).extBut b2.extBut D.l2i1).extBut b3.extBut D.l2TO
    refine wpAny_bind (wpAny_nextOf_list_end hh g23 t23 e2 fun p4 x b4 ex => ?_)
    have gz4 : IsZip p4 z tI tO .ellipsis := b4 _ _ D.i2z.symm (b3.extBut _ _ D.TOz.symm (b2.extBut _ _ D.i1z.symm gz1))
    have nz := last p4 x gz4 ex
    obtain ⟨o, eo, ec⟩ := ex
    refine wpAny_setField_rec gz4 (by simp) fun p5 _ b5 => q p5 x (fun c o n e => ?_) ⟨o, (b5.2 _ nz).trans eo, ec⟩
    have n4 := four c n
    rw [b5.2 c n4.1]
    refine b4 _ _ n4.2.2.2 ?_
    rw [b3.2 c n4.2.1, b2.2 c n4.2.2.1, b1.2 c n4.1]
    exact e
theorem mixNextItem {z tI tO j1 j2 m1 m2 : Addr} {k : Nat} {us vs : Array Value} {u v a b : Value} {Q : Option Value → Shared → Prop} (D : ZipApart z tI tO j1 j2 m1 m2)
    (gz : IsZip s.heap z tI tO .none) (gI : IsPair s.heap tI (.ref j1) (.ref j2)) (gO : IsPair s.heap tO a b) (g1 : s.heap.IsTupleIter j1 m1 k) (g2 : s.heap.IsListIter j2 m2 k) (t1 : s.heap.IsTuple m1 us) (t2 : s.heap.IsList m2 vs) (e1 : us[k]? = some u) (e2 : vs[k]? = some v)
    (q : ∀ h', IsZip h' z tI tO (rawInt s.heap.objs.size) → IsPair h' tO u v → h'.IsTupleIter j1 m1 (k + 1) → h'.IsListIter j2 m2 (k + 1) → IsPair h' s.heap.objs.size u v → h'.objs.size = s.heap.objs.size + 1 →
      (∀ c o, ¬ c ∈ [z, tI, tO, j1, j2] ∨ c = tI → s.heap.get? c = some o → h'.get? c = some o) → Q (some (.ref s.heap.objs.size)) { s with heap := h' }) :
    wpAny (model prog w) A (pyNext (.ref z)) Q E s := by
  have ty : s.TypeIs (.ref z) "zip" := ⟨_, gz, rfl⟩
  unfold pyNext; refine wpAny_bind (wpAny_attempt (wpAny_callSpecial?_slot (name := Str.ofString "__next__") ty F.slot_zip_next ?_))
  exact wpAny_call_entry F.slot_zip_next ty F.entry_zip_next (mixItem D gz gI gO g1 g2 t1 t2 e1 e2 fun h' r1 r2 r3 r4 r5 r6 r7 => wpAny_pure (q h' r1 r2 r3 r4 r5 r6 r7)) (F.args_zip_next_1 _)
theorem mixNextEnd {z tI tO j1 j2 m1 m2 : Addr} {k : Nat} {us vs : Array Value} {a b : Value} {Q : Option Value → Shared → Prop} (hh : A.handled = none) (D : ZipApart z tI tO j1 j2 m1 m2)
    (gz : IsZip s.heap z tI tO .none) (gI : IsPair s.heap tI (.ref j1) (.ref j2)) (gO : IsPair s.heap tO a b) (g1 : s.heap.IsTupleIter j1 m1 k) (g2 : s.heap.IsListIter j2 m2 k) (t1 : s.heap.IsTuple m1 us) (t2 : s.heap.IsList m2 vs) (hend : us[k]? = none ∨ vs[k]? = none)
    (q : ∀ h', (∀ c o, ¬ c ∈ [z, tI, tO, j1, j2] → s.heap.get? c = some o → h'.get? c = some o) → Q none { s with heap := h' }) : wpAny (model prog w) A (pyNext (.ref z)) Q E s := by
  have ty : s.TypeIs (.ref z) "zip" := ⟨_, gz, rfl⟩
  unfold pyNext; refine wpAny_bind (wpAny_attempt (wpAny_callSpecial?_slot (name := Str.ofString "__next__") ty F.slot_zip_next ?_))
  refine wpAny_call_entry F.slot_zip_next ty F.entry_zip_next (mixEnd hh D gz gI gO g1 g2 t1 t2 hend fun h' x kp ⟨o, eo, ec⟩ => ?_) (F.args_zip_next_1 _)
  exact wpAny_bind (wpAny_isInstance (T := "StopIteration") (b := true) ⟨o, eo, ec⟩ isSubtype_stop (wpAny_pure (q _ kp)))
end
section
open PySem
/-- the tuple at a and the list at b as they stand at each turn -/
def ItzM (K : PySem.W.Frag) (a b : Addr) : It where
  go i H := ∃ (us vs : List V) (x y : V), SqT K H a us ∧ SqL K H b vs ∧ us[i]? = some x ∧ vs[i]? = some y
  yld i H v H' := ∃ c x y, v = .ref c ∧ H c = none ∧ H' = upd H c (.tup [x, y]) ∧ (∀ us, SqT K H a us → us[i]? = some x) ∧ ∀ vs, SqL K H b vs → vs[i]? = some y
  stop i H := ∃ us vs : List V, SqT K H a us ∧ SqL K H b vs ∧ (us.length ≤ i ∨ vs.length ≤ i)
theorem turnMix {P : Program} {w : World} {K : PySem.W.Frag} {el : List Expr} {n : Nat} {tp : Pos} {a b z tI tO j1 j2 : Addr} (D : ZipApart z tI tO j1 j2 a b) :
    Turn P w K (.Tuple el n tp) (ItzM K a b) [z, tI, tO, j1, j2] z (fun i h => IsZip h z tI tO .none ∧ IsPair h tI (.ref j1) (.ref j2) ∧ (∃ x y, IsPair h tO x y) ∧ h.IsTupleIter j1 a i ∧ h.IsListIter j2 b i) where
  mem := by simp
  obj := fun i h st c hc => by
    obtain ⟨gz, gI, ⟨x, y, gO⟩, ⟨o1, e1, _, d1⟩, o2, e2, _, d2⟩ := st
    simp only [List.mem_cons, List.not_mem_nil, or_false] at hc
    rcases hc with rfl | rfl | rfl | rfl | rfl
    · exact ⟨_, gz, fun v e => nomatch e⟩
    · exact ⟨_, gI, fun v e => nomatch e⟩
    · exact ⟨_, gO, fun v e => nomatch e⟩
    · exact ⟨o1, e1, fun v e => by rw [d1] at e; cases e⟩
    · exact ⟨o2, e2, fun v e => by rw [d2] at e; cases e⟩
  keep := fun i h h' st k => by
    obtain ⟨gz, gI, ⟨x, y, gO⟩, g1, g2⟩ := st
    exact ⟨k _ (by simp) _ gz, k _ (by simp) _ gI, ⟨x, y, k _ (by simp) _ gO⟩, g1.at fun o e => k _ (by simp) o e, g2.at fun o e => k _ (by simp) o e⟩
  item := by
    intro X eP ew eK hc i pins s σ H E I hf st hg
    subst eP ew eK
    obtain ⟨gz, gI, ⟨x0, y0, gO⟩, g1, g2⟩ := st
    obtain ⟨us, vs, x, y, s1, s2, e1, e2⟩ := hg
    obtain ⟨as, r1, t1, _⟩ := I.tuple s1
    obtain ⟨bs, r2, t2, _⟩ := I.list s2
    obtain ⟨u, eu, ru⟩ := r1.get e1
    obtain ⟨v, ev, rv⟩ := r2.get e2
    have lz : z < s.heap.objs.size := Heap.lt_size gz
    refine mixNextItem D gz gI gO g1 g2 t1 t2.isList (u := u) (v := v) (by simpa using eu) (by simpa using ev) fun h' k1 k2 k3 k4 k5 k6 k7 => ⟨_, rfl, ?_⟩
    refine wpAny_letOwnedTupleGo_zip (s := { s with heap := h' }) k1 fun h2 l1 sb => ?_
    have pr : h2.get? s.heap.objs.size = some { cls := .type "tuple", data := .seq #[u, v] } := (sb.2 _ (Nat.ne_of_gt lz)).trans k5
    have ok : ObjOk X.prog X.w (upd H s.heap.objs.size (.tup [x, y])) h2 s.heap.objs.size (.tup [x, y]) := ⟨by show 2 ≤ sizeLine; decide, [u, v], .cons ru (.cons rv .nil), _, pr, rfl, _, rfl⟩
    have J : Inv X pins σ (upd H s.heap.objs.size (.tup [x, y])) { s with heap := h2 } := I.turnedNew (t' := s.toks) (ch := [z, tI, tO, j1, j2]) (fun c o n e => by
      have nz : c ≠ z := fun e => n (by simp [e])
      exact (sb.2 c nz).trans (k7 c o (.inl n) e)) hf (Nat.le_refl _) ok
    refine ⟨.ref s.heap.objs.size, _, J, rfl, ⟨_, x, y, rfl, I.hok.fresh (Nat.le_refl _), rfl, fun l hl => ?_, fun l hl => ?_⟩, ⟨l1, ?_, ⟨u, v, ?_⟩, ?_, ?_⟩, fun c hcm => ?_⟩
    · rw [I.tuple_inj hl s1]
      exact e1
    · rw [I.list_inj hl s2]
      exact e2
    · exact (sb.2 _ D.TIz).trans (k7 _ _ (.inr rfl) gI)
    · exact (sb.2 _ D.TOz).trans k2
    · exact k3.at fun o e => (sb.2 _ D.i1z).trans e
    · exact k4.at fun o e => (sb.2 _ D.i2z).trans e
    · have lt : c < s.heap.objs.size := by
        have hc' := hcm
        simp only [List.mem_cons, List.not_mem_nil, or_false] at hc'
        rcases hc' with rfl | rfl | rfl | rfl | rfl
        · exact lz
        · exact Heap.lt_size gI
        · exact Heap.lt_size gO
        · exact g1.elim fun _ e => Heap.lt_size e.1
        · exact g2.elim fun _ e => Heap.lt_size e.1
      rw [upd_ne (Nat.ne_of_lt lt)]
      exact (hf c hcm).1
  done := by
    intro X eP ew eK hc i pins s σ H E I hf st hg
    subst eP ew eK
    obtain ⟨gz, gI, ⟨x0, y0, gO⟩, g1, g2⟩ := st
    obtain ⟨us, vs, s1, s2, he⟩ := hg
    obtain ⟨as, r1, t1, _⟩ := I.tuple s1
    obtain ⟨bs, r2, t2, _⟩ := I.list s2
    have l1 := r1.length
    have l2 := r2.length
    refine mixNextEnd (I.ok.hd hc) D gz gI gO g1 g2 t1 t2.isList ?_ fun h' kp => ⟨rfl, I.turnedL (t' := s.toks) (ch := [z, tI, tO, j1, j2]) (fun c o n e => kp c o n e) hf⟩
    rcases he with h | h
    · exact .inl (by simp; omega)
    · exact .inr (by simp; omega)
  self := fun A i s Q E st h => wpAny_pyIter_zip st.1 h
abbrev mx1 (h : Heap) (a : Addr) : Heap := h.push { cls := .type "tuple_iterator", data := .fields #[.ref a, .int 0 0] }
abbrev mx2 (h : Heap) (a b : Addr) : Heap := (mx1 h a).push { cls := .type "list_iterator", data := .fields #[.ref b, .int 0 0] }
abbrev mx3 (h : Heap) (a b : Addr) : Heap := (mx2 h a b).push { cls := .type "tuple", data := .seq #[.ref h.objs.size, .ref (mx1 h a).objs.size] }
abbrev mx4 (h : Heap) (a b : Addr) : Heap := (mx3 h a b).push { cls := .type "tuple", data := .seq #[.none, .none] }
abbrev mx5 (h : Heap) (a b : Addr) : Heap := (mx4 h a b).push { cls := .type "zip", data := .fields #[.none, .bool false, .bool false, .ref (mx2 h a b).objs.size, .ref (mx3 h a b).objs.size] }
theorem mixMade (a b : Addr) (us vs : Array Value) : Meets (Builtin.«zip.__new__» ⟨[.type "zip", .ref a, .ref b], []⟩) (fun _ R s => s.heap.IsTuple a us ∧ s.heap.IsList b vs ∧ R (.ok (.ret (.ref (mx4 s.heap a b).objs.size))) { s with heap := mx5 s.heap a b }) :=
  .of_wp fun prog w A R s h => by
    obtain ⟨hp, g, d, tk, os⟩ := s
    obtain ⟨t1, t2, q⟩ := h
    have sz := sub_zip
    have T1 : Heap.IsTuple (Shared.heap ⟨hp, g, d, tk, os⟩) a us := t1
    have T2 : Heap.IsList (Shared.heap ⟨hp.push { cls := .type "tuple_iterator", data := .fields #[.ref a, .int 0 0] }, g, d, tk, os⟩) b vs := Heap.IsList.push t2 _
    wp_walk using wpAny_pyIter_tuple T1, wpAny_pyIter_list T2
    exact ⟨_, rfl, q⟩
theorem mixCall {prog : Program} {w : World} {A : Around} {E : Value → Shared → Prop} {s : Shared} {a b : Addr} {us vs : Array Value} {Q : Value → Shared → Prop} (t1 : s.heap.IsTuple a us) (t2 : s.heap.IsList b vs)
    (q : ∀ h', IsZip h' (s.heap.objs.size + 4) (s.heap.objs.size + 2) (s.heap.objs.size + 3) .none ∧ IsPair h' (s.heap.objs.size + 2) (.ref s.heap.objs.size) (.ref (s.heap.objs.size + 1)) ∧ IsPair h' (s.heap.objs.size + 3) .none .none ∧ h'.IsTupleIter s.heap.objs.size a 0 ∧ h'.IsListIter (s.heap.objs.size + 1) b 0 →
      (∀ c o, s.heap.get? c = some o → h'.get? c = some o) → Q (.ref (s.heap.objs.size + 4)) { s with heap := h' }) : wpAny (model prog w) A (call (.type "zip") [.ref a, .ref b]) Q E s := by
  refine callType_new F.called_zip (by decide) (F.typeCall_zip_2 _ _) (F.newCall_zip_2 _ _) (fun ob => F.args_object_init_3 ob _ _) F.entry_zip_new (mixMade a b us vs) ⟨t1, t2, ?_⟩
  have n1 : (mx1 s.heap a).objs.size = s.heap.objs.size + 1 := Heap.size_push ..
  have n2 : (mx2 s.heap a b).objs.size = s.heap.objs.size + 2 := by rw [Heap.size_push, n1]
  have n3 : (mx3 s.heap a b).objs.size = s.heap.objs.size + 3 := by rw [Heap.size_push, n2]
  have n4 : (mx4 s.heap a b).objs.size = s.heap.objs.size + 4 := by rw [Heap.size_push, n3]
  have on : ∀ {h : Heap} {c : Addr} {o p : Obj}, h.get? c = some o → (h.push p).get? c = some o := fun e => Heap.get?_push_of_some _ e
  have f5 : (mx5 s.heap a b).get? (mx4 s.heap a b).objs.size = some _ := Heap.get?_push_size _ rfl
  have f4 : (mx5 s.heap a b).get? (mx3 s.heap a b).objs.size = some _ := on (Heap.get?_push_size _ rfl)
  have f3 : (mx5 s.heap a b).get? (mx2 s.heap a b).objs.size = some _ := on (on (Heap.get?_push_size _ rfl))
  have f2 : (mx5 s.heap a b).get? (mx1 s.heap a).objs.size = some _ := on (on (on (Heap.get?_push_size _ rfl)))
  have f1 : (mx5 s.heap a b).get? s.heap.objs.size = some _ := on (on (on (on (Heap.get?_push_size _ rfl))))
  rw [n2, n3, n4] at f5
  rw [n1, n2] at f3
  rw [n3] at f4
  rw [n1] at f2
  show _ ∧ _
  rw [n4]
  exact ⟨⟨_, f5, rfl⟩, q _ ⟨f5, f3, f4, ⟨_, f1, rfl, rfl⟩, _, f2, rfl, rfl⟩ fun c o e => on (on (on (on (on e))))⟩
def iMix (K : PySem.W.Frag) (ta : TA) : L2.TI := fun σ H R => ta σ H fun vs H1 => ∃ a b xs ys, vs = [.ref a, .ref b] ∧ SqT K H1 a xs ∧ SqL K H1 b ys ∧ R (ItzM K a b) H1
theorem pi_mix {X : Cx} {e e2 : Expr} {ta : TA} {p pos tp : Pos} {el : List Expr} {n : Nat} (hg : Gl X "zip") (hm : X.mg "zip" = none) (ha : PA X [e, e2] ta)
    (h1 : starEach [e, e2] X.env = (false, eval e X.env) :: starEach [e2] X.env := by rfl) (h2 : (backTo pos (starEach [e2] X.env)).any (·.1) = false := by rfl) : PI X (.Tuple el n tp) (.Call (.Name "zip" p) [e, e2] [] pos) (iMix X.K ta) := by
  constructor
  intro pins s σ H R I h
  refine Call_ (ld_blt I hg hm PyProof.Rows.boot_zip (PyProof.Rows.callWith_type1 (thn (ha.run pos pins s σ H _ I h) fun us s1 hz => ?_) h1 h2))
  obtain ⟨vs, H1, J, va, a, b, xs, ys, rfl, hx, hy, q⟩ := hz
  match us, va with
  | [_, _], .cons r1 (.cons r2 .nil) =>
    cases r1
    cases r2
    obtain ⟨as, rv1, t1, _⟩ := J.tuple hx
    obtain ⟨bs, rv2, t2, _⟩ := J.list hy
    have la : a < s1.heap.objs.size := t1.elim fun _ z => Heap.lt_size z.1
    refine mixCall t1 t2.isList fun h' st kp => wpAny_pyIter_zip st.1 ?_
    refine ⟨s1.heap.objs.size + 4, [s1.heap.objs.size + 4, s1.heap.objs.size + 2, s1.heap.objs.size + 3, s1.heap.objs.size, s1.heap.objs.size + 1], _, _, H1, rfl, J.kept (t' := s1.toks) kp, turnMix (PySem.W.ktu_apart s1.heap.objs.size a b la t2.lt), ⟨st.1, st.2.1, ⟨_, _, st.2.2.1⟩, st.2.2.2.1, st.2.2.2.2⟩, fun c hc => ?_, q⟩
    have le : s1.heap.objs.size ≤ c := by
      simp only [List.mem_cons, List.not_mem_nil, or_false] at hc
      rcases hc with rfl | rfl | rfl | rfl | rfl
      · exact Nat.le_add_right _ _
      · exact Nat.le_add_right _ _
      · exact Nat.le_add_right _ _
      · exact Nat.le_refl _
      · exact Nat.le_add_right _ _
    exact J.fpOk le (J.hok.fresh le)
theorem walk_mix {K : PySem.W.Frag} {a b : Addr} {xs ys : List V} (hl : xs.length = ys.length) : Walk (ItzM K a b) xs.length (fun H => SqT K H a xs ∧ SqL K H b ys) (YPair (fun i => xs[i]?) (fun i => ys[i]?)) where
  goes i H hi q := ⟨xs, ys, xs[i], ys[i]'(hl ▸ hi), q.1, q.2, List.getElem?_eq_getElem hi, List.getElem?_eq_getElem (hl ▸ hi)⟩
  stops H q := ⟨xs, ys, q.1, q.2, .inl (Nat.le_refl _)⟩
  yields i H v H' _ q y := by
    obtain ⟨c, x, z, k1, k2, k3, k4, k5⟩ := y
    exact ⟨c, x, z, k1, k2, k3, k4 xs q.1, k5 ys q.2⟩
end
/-! ### enumerate of a tuple -/
section
open PySem
theorem enuMade (a : Addr) (us : Array Value) (n : Nat) (dc : Option Addr) (sl : Array (Option Value)) : Meets (Builtin.«enumerate.__new__» ⟨[.type "enumerate", .ref a], []⟩) (fun _ R s => s.heap.get? a = some { cls := .type "tuple", dict := dc, data := .seq us n, slots := sl } ∧
      R (.ok (.ret (.ref (s.heap.push { cls := .type "tuple_iterator", data := .fields #[.ref a, .int 0 0] }).objs.size)))
        { s with heap := (s.heap.push { cls := .type "tuple_iterator", data := .fields #[.ref a, .int 0 0] }).push { cls := .type "enumerate", data := .fields #[.none, .bool false, .ref s.heap.objs.size, rawInt 0, .none, .none] } }) :=
  .of_wp fun prog w A R s h => by
    obtain ⟨hp, g, d, tk, os⟩ := s
    obtain ⟨e, q⟩ := h
    have su := sub_enumerate
    have T : Heap.IsTuple (Shared.heap ⟨hp, g, d, tk, os⟩) a us := ⟨_, e, rfl, n, rfl⟩
    wp_walk using PySem.AutoSeq1.wpAny_loadPart' e
    refine wpAny_stack_any fun st => wpAny_pure ?_
    split
    · rename_i c _ _ _ _ _
      cases (c == Value.type "enumerate")
      · wp_walk using PySem.AutoSeq1.wpAny_loadPart' e, wpAny_pyIter_tuple T
        exact ⟨_, rfl, q⟩
      · wp_walk using PySem.AutoSeq1.wpAny_loadPart' e, wpAny_pyIter_tuple T
        exact ⟨_, rfl, q⟩
    · wp_walk using PySem.AutoSeq1.wpAny_loadPart' e, wpAny_pyIter_tuple T
      exact ⟨_, rfl, q⟩
variable {prog : Program} {w : World} {A : Around} {E : Value → Shared → Prop} {s : Shared}
theorem enuCall {a : Addr} {us : Array Value} {Q : Value → Shared → Prop} (t : s.heap.IsTuple a us)
    (q : ∀ h', IsEnum h' (s.heap.objs.size + 1) s.heap.objs.size 0 .none → h'.IsTupleIter s.heap.objs.size a 0 → (∀ b o, s.heap.get? b = some o → h'.get? b = some o) → Q (.ref (s.heap.objs.size + 1)) { s with heap := h' }) :
    wpAny (model prog w) A (call (.type "enumerate") [.ref a]) Q E s := by
  obtain ⟨⟨c, dc, dt, sl⟩, e, ec, n, ed⟩ := t
  have ec : c = .type "tuple" := ec
  have ed : dt = .seq us n := ed
  subst ec ed
  refine callType_new F.called_enumerate (by decide) (F.typeCall_enumerate_1 _) (F.newCall_enumerate_1 _) (fun ob => F.args_object_init_2 ob _) F.entry_enumerate_new (enuMade a us n dc sl) ⟨e, ?_⟩
  have z : (s.heap.push { cls := .type "tuple_iterator", data := .fields #[.ref a, .int 0 0] }).objs.size = s.heap.objs.size + 1 := Heap.size_push ..
  have g2 : ((s.heap.push { cls := .type "tuple_iterator", data := .fields #[.ref a, .int 0 0] }).push { cls := .type "enumerate", data := .fields #[.none, .bool false, .ref s.heap.objs.size, rawInt 0, .none, .none] }).get? (s.heap.push { cls := .type "tuple_iterator", data := .fields #[.ref a, .int 0 0] }).objs.size = some _ := Heap.get?_push_size _ rfl
  show _ ∧ _
  rw [z] at g2 ⊢
  exact ⟨⟨_, g2, rfl⟩, q _ g2 ⟨_, Heap.get?_push_of_some _ (Heap.get?_push_size _ rfl), rfl, rfl⟩ fun b o x => Heap.get?_push_of_some _ (Heap.get?_push_of_some _ x)⟩
theorem enuItem {e j a : Addr} {i : Nat} {us : Array Value} {x old : Value} {Q : Value → Shared → Prop} (g : IsEnum s.heap e j i old) (gj : s.heap.IsTupleIter j a i) (t : s.heap.IsTuple a us) (ex : us[i]? = some x) (ne : e ≠ j)
    (q : ∀ h', IsEnumOut h' e j ((i : Int) + 1) x s.heap.objs.size → h'.IsTupleIter j a (i + 1) → h'.get? s.heap.objs.size = some { cls := .type "tuple", data := .seq #[.int i s.toks, x] } →
      (∀ b o, b ≠ e → b ≠ j → s.heap.get? b = some o → h'.get? b = some o) → Q (.ref s.heap.objs.size) { s with heap := h', toks := s.toks + 1 }) :
    wpAny (model prog w) A (Builtin.«enumerate.__next__» ⟨[.ref e], []⟩) (fun r s' => ∃ v, r = .done (.ret v) ∧ Q v s') E s := by
  obtain ⟨hp, gg, dd, tk, os⟩ := s
  show wpAny _ _ (field (.ref e) 2 >>= _) _ _ _
  refine wpAny_bind (wpAny_field g rfl (x := .ref j) rfl (wpAny_bind (RZ.nextOf_tuple_item gj t ex fun p1 gj1 b1 => ?_)))
  have b1 : Heap.SameBut j hp p1 := b1
  have g1 : IsEnum p1 e j i old := (b1.2 e ne).trans g
  show wpAny _ _ (field (.ref e) 3 >>= _) _ _ ⟨p1, gg, dd, tk, os⟩
  refine wpAny_bind (wpAny_field g1 rfl (x := rawInt i) rfl ?_)
  show wpAny _ _ (field (.ref e) 4 >>= _) _ _ ⟨p1, gg, dd, tk, os⟩
  refine wpAny_bind (wpAny_field g1 rfl (x := .none) rfl ?_)
  show wpAny _ _ (mkInt i >>= _) _ _ ⟨p1, gg, dd, tk, os⟩
  refine wpAny_bind (wpAny_mkInt ?_)
  show wpAny _ _ (setField (.ref e) 3 (rawInt ((i : Int) + 1)) >>= _) _ _ ⟨p1, gg, dd, tk + 1, os⟩
  refine wpAny_bind (wpAny_setField_rec g1 (by simp) fun p2 g2 b2 => ?_)
  have b2 : Heap.SameBut e p1 p2 := b2
  have g2 : IsEnum p2 e j ((i : Int) + 1) old := g2
  show wpAny _ _ (setField (.ref e) 4 .none >>= _) _ _ ⟨p2, gg, dd, tk + 1, os⟩
  refine wpAny_bind (wpAny_setField_rec g2 (by simp) fun p3 g3 b3 => ?_)
  have b3 : Heap.SameBut e p2 p3 := b3
  have g3 : IsEnum p3 e j ((i : Int) + 1) old := g3
  show wpAny _ _ (newTuple [.int i tk, x] >>= _) _ _ ⟨p3, gg, dd, tk + 1, os⟩
  refine wpAny_bind (wpAny_newTuple ?_)
  have zs : p3.objs.size = hp.objs.size := by rw [b3.1, b2.1, b1.1]
  have g4 : IsEnum (p3.push { cls := .type "tuple", data := .seq #[.int i tk, x] }) e j ((i : Int) + 1) old := Heap.get?_push_of_some _ g3
  have t4 : (p3.push { cls := .type "tuple", data := .seq #[.int i tk, x] }).get? hp.objs.size = some { cls := .type "tuple", data := .seq #[.int i tk, x] } := by
    rw [← zs]
    exact Heap.get?_push_size _ rfl
  have k4 : ∀ b o, b ≠ e → b ≠ j → hp.get? b = some o → (p3.push { cls := .type "tuple", data := .seq #[.int i tk, x] }).get? b = some o := fun b o n1 n2 h => Heap.get?_push_of_some _ (by
    rw [b3.2 b n1, b2.2 b n1, b1.2 b n2]
    exact h)
  have j4 : (p3.push { cls := .type "tuple", data := .seq #[.int i tk, x] }).IsTupleIter j a (i + 1) := gj1.at fun o h => Heap.get?_push_of_some _ (by
    rw [b3.2 j ne.symm, b2.2 j ne.symm]
    exact h)
  have el : e < hp.objs.size := Heap.lt_size g
  show wpAny _ _ (Builtin.SmallTypes.ownedTupleIsFree (.ref e) >>= _) _ _ ⟨p3.push { cls := .type "tuple", data := .seq #[.int i tk, x] }, gg, dd, tk + 1, os⟩
  rw [zs]
  generalize p3.push { cls := .type "tuple", data := .seq #[.int i tk, x] } = p4 at g4 t4 k4 j4
  refine wpAny_bind ?_; unfold Builtin.SmallTypes.ownedTupleIsFree
  refine wpAny_bind (wpAny_field g4 rfl (x := .none) rfl (wpAny_pure ?_)); simp only [if_true]
  refine wpAny_bind (wpAny_rule (wpAny_bind (wpAny_field g4 rfl (x := old) rfl (wpAny_bind (wpAny_setField_rec g4 (by simp) fun p5 g5 b5 => ?_)))))
  have b5 : Heap.SameBut e p4 p5 := b5
  have g5 : IsEnum p5 e j ((i : Int) + 1) x := g5
  show wpAny _ _ (Builtin.SmallTypes.ownedTupleHandOut (.ref e) (.ref hp.objs.size) >>= _) _ _ ⟨p5, gg, dd, tk + 1, os⟩
  refine wpAny_bind ?_; unfold Builtin.SmallTypes.ownedTupleHandOut
  refine wpAny_bind (wpAny_setField_rec g5 (by simp) fun p6 g6 b6 => ?_)
  have b6 : Heap.SameBut e p5 p6 := b6
  have g6 : IsEnumOut p6 e j ((i : Int) + 1) x hp.objs.size := g6
  refine wpAny_setField_rec g6 (by simp) fun p7 g7 b7 => ?_
  have b7 : Heap.SameBut e p6 p7 := b7
  have up : ∀ b o, b ≠ e → p4.get? b = some o → p7.get? b = some o := fun b o n h => by
    rw [b7.2 b n, b6.2 b n, b5.2 b n]
    exact h
  exact wpAny_bind (wpAny_letGo (wpAny_pure ⟨_, rfl, q p7 g7 (j4.at fun o h => up _ o ne.symm h) (up _ _ (Nat.ne_of_gt el) t4) fun b o n1 n2 h => up b o n1 (k4 b o n1 n2 h)⟩))
theorem enuNextItem {e j a : Addr} {i : Nat} {us : Array Value} {x old : Value} {Q : Option Value → Shared → Prop} (g : IsEnum s.heap e j i old) (gj : s.heap.IsTupleIter j a i) (t : s.heap.IsTuple a us) (ex : us[i]? = some x) (ne : e ≠ j)
    (q : ∀ h', IsEnumOut h' e j ((i : Int) + 1) x s.heap.objs.size → h'.IsTupleIter j a (i + 1) → h'.get? s.heap.objs.size = some { cls := .type "tuple", data := .seq #[.int i s.toks, x] } →
      (∀ b o, b ≠ e → b ≠ j → s.heap.get? b = some o → h'.get? b = some o) → Q (some (.ref s.heap.objs.size)) { s with heap := h', toks := s.toks + 1 }) : wpAny (model prog w) A (pyNext (.ref e)) Q E s := by
  have ty : s.TypeIs (.ref e) "enumerate" := ⟨_, g, rfl⟩
  unfold pyNext; refine wpAny_bind (wpAny_attempt (wpAny_callSpecial?_slot (name := Str.ofString "__next__") ty F.slot_enumerate_next ?_))
  exact wpAny_call_entry F.slot_enumerate_next ty F.entry_enumerate_next (enuItem g gj t ex ne fun h' r1 r2 r3 r4 => wpAny_pure (q h' r1 r2 r3 r4)) (F.args_enumerate_next_1 _)
theorem enuNextEnd {e j a : Addr} {i : Nat} {us : Array Value} {old : Value} {Q : Option Value → Shared → Prop} (hh : A.handled = none) (g : IsEnum s.heap e j i old) (gj : s.heap.IsTupleIter j a i) (t : s.heap.IsTuple a us) (ex : us[i]? = none)
    (q : ∀ h', Heap.ExtBut j s.heap h' → Q none { s with heap := h' }) : wpAny (model prog w) A (pyNext (.ref e)) Q E s := by
  have ty : s.TypeIs (.ref e) "enumerate" := ⟨_, g, rfl⟩
  unfold pyNext; refine wpAny_bind (wpAny_attempt (wpAny_callSpecial?_slot (name := Str.ofString "__next__") ty F.slot_enumerate_next ?_))
  refine wpAny_call_entry F.slot_enumerate_next ty F.entry_enumerate_next ?_ (F.args_enumerate_next_1 _)
  show wpAny _ _ (field (.ref e) 2 >>= _) _ _ _
  refine wpAny_bind (wpAny_field g rfl (x := .ref j) rfl (wpAny_bind (RZ.nextOf_tuple_end hh gj t ex fun h' x b ⟨o, eo, ec⟩ => ?_)))
  exact wpAny_bind (wpAny_isInstance (T := "StopIteration") (b := true) ⟨o, eo, ec⟩ isSubtype_stop (wpAny_pure (q _ b)))
/-- the tuple at a, each item in a new pair -/
def IteT (K : PySem.W.Frag) (a : Addr) : It where
  go i H := ∃ (us : List V) (x : V), SqT K H a us ∧ us[i]? = some x
  yld i H v H' := ∃ c x, v = .ref c ∧ H c = none ∧ H' = upd H c (.tup [.int (i : Nat), x]) ∧ ∀ us, SqT K H a us → us[i]? = some x
  stop i H := ∃ us : List V, SqT K H a us ∧ us.length ≤ i
theorem turnEnuT {P : Program} {w : World} {K : PySem.W.Frag} {el : List Expr} {n : Nat} {tp : Pos} (a e j : Addr) :
    Turn P w K (.Tuple el n tp) (IteT K a) [e, j] e (fun i h => (∃ old, IsEnum h e j ((i : Nat) : Int) old) ∧ h.IsTupleIter j a i ∧ e ≠ j) where
  mem := by simp
  obj := fun i h st b hb => by
    obtain ⟨⟨old, g⟩, ⟨o, eo, _, ed⟩, _⟩ := st
    simp only [List.mem_cons, List.not_mem_nil, or_false] at hb
    rcases hb with rfl | rfl
    · exact ⟨_, g, fun v q => nomatch q⟩
    · exact ⟨o, eo, fun v q => by rw [ed] at q; cases q⟩
  keep := fun i h h' st k => by
    obtain ⟨⟨old, g⟩, gj, ne⟩ := st
    exact ⟨⟨old, k _ (by simp) _ g⟩, gj.at fun o q => k _ (by simp) o q, ne⟩
  item := by
    intro X eP ew eK hc i pins s σ H E I hf st hg
    subst eP ew eK
    obtain ⟨⟨old, g⟩, gj, ne⟩ := st
    obtain ⟨us, x, hq, ex⟩ := hg
    obtain ⟨as, r1, t1, _⟩ := I.tuple hq
    obtain ⟨u, eu, ru⟩ := r1.get ex
    have el : e < s.heap.objs.size := Heap.lt_size g
    have jl : j < s.heap.objs.size := gj.elim fun _ q => Heap.lt_size q.1
    refine enuNextItem g gj t1 (x := u) (by simpa using eu) ne fun h' k1 k2 k3 k4 => ⟨_, rfl, ?_⟩
    refine wpAny_letOwnedTupleGo_enum (s := { s with heap := h', toks := s.toks + 1 }) k1 fun h2 l1 sb => ?_
    have pr : h2.get? s.heap.objs.size = some { cls := .type "tuple", data := .seq #[.int i s.toks, u] } := (sb.2 _ (Nat.ne_of_gt el)).trans k3
    have ok : ObjOk X.prog X.w (upd H s.heap.objs.size (.tup [.int (i : Nat), x])) h2 s.heap.objs.size (.tup [.int (i : Nat), x]) := ⟨by show 2 ≤ sizeLine; decide, [.int i s.toks, u], .cons ⟨_, rfl⟩ (.cons ru .nil), _, pr, rfl, _, rfl⟩
    have J : Inv X pins σ (upd H s.heap.objs.size (.tup [.int (i : Nat), x])) { s with heap := h2, toks := s.toks + 1 } := I.turnedNew (ch := [e, j]) (fun b o n q => by
      have n1 : b ≠ e := fun z => n (by simp [z])
      have n2 : b ≠ j := fun z => n (by simp [z])
      exact (sb.2 b n1).trans (k4 b o n1 n2 q)) hf (Nat.le_refl _) ok
    refine ⟨.ref s.heap.objs.size, _, J, rfl, ⟨_, x, rfl, I.hok.fresh (Nat.le_refl _), rfl, fun ys hy => ?_⟩, ⟨⟨u, ?_⟩, k2.at fun o q => (sb.2 j ne.symm).trans q, ne⟩, fun b hb => ?_⟩
    · rw [I.tuple_inj hy hq]
      exact ex
    · rw [show ((i + 1 : Nat) : Int) = (i : Int) + 1 by omega]
      exact l1
    · have lt : b < s.heap.objs.size := by
        have hb' := hb
        simp only [List.mem_cons, List.not_mem_nil, or_false] at hb'
        rcases hb' with rfl | rfl
        · exact el
        · exact jl
      rw [upd_ne (Nat.ne_of_lt lt)]
      exact (hf b hb).1
  done := by
    intro X eP ew eK hc i pins s σ H E I hf st hg
    subst eP ew eK
    obtain ⟨⟨old, g⟩, gj, ne⟩ := st
    obtain ⟨us, hq, hx⟩ := hg
    obtain ⟨as, r1, t1, _⟩ := I.tuple hq
    obtain ⟨f0, f1, f2, f3, f4, f5⟩ := hf j (by simp)
    have l1 := r1.length
    exact enuNextEnd (I.ok.hd hc) g gj t1 (by simp; omega) fun h' b => ⟨rfl, I.turned (t' := s.toks) (fun c o n q => b c o n q) f0 f1 f3 f4 f5⟩
  self := fun A i s Q E st h => st.1.elim fun _ g => wpAny_pyIter_enum g h
def iEnuT (K : PySem.W.Frag) (ta : TA) : L2.TI := fun σ H R => ta σ H fun vs H1 => ∃ a xs, vs = [.ref a] ∧ SqT K H1 a xs ∧ R (IteT K a) H1
theorem pi_enuT {X : Cx} {e : Expr} {ta : TA} {p pos tp : Pos} {el : List Expr} {n : Nat} (hg : Gl X "enumerate") (hm : X.mg "enumerate" = none) (ha : PA X [e] ta) (h1 : starEach [e] X.env = [(false, eval e X.env)] := by rfl) :
    PI X (.Tuple el n tp) (.Call (.Name "enumerate" p) [e] [] pos) (iEnuT X.K ta) := by
  constructor
  intro pins s σ H R I h
  refine Call_ (ld_blt I hg hm boot_enumerate (PyProof.Rows.callWith_type1 (thn (ha.run pos pins s σ H _ I h) fun us s1 hz => ?_) h1 rfl))
  obtain ⟨vs, H1, J, va, a, xs, rfl, hx, q⟩ := hz
  match us, va with
  | [_], .cons r1 .nil =>
    cases r1
    obtain ⟨as, rv, t1, _⟩ := J.tuple hx
    refine enuCall t1 fun h' g gj kp => wpAny_pyIter_enum g ?_
    refine ⟨s1.heap.objs.size + 1, [s1.heap.objs.size + 1, s1.heap.objs.size], _, _, H1, rfl, J.kept (t' := s1.toks) kp, turnEnuT a (s1.heap.objs.size + 1) s1.heap.objs.size, ⟨⟨.none, g⟩, gj, Nat.succ_ne_self _⟩, fun b hb => ?_, q⟩
    have le : s1.heap.objs.size ≤ b := by
      simp only [List.mem_cons, List.not_mem_nil, or_false] at hb
      rcases hb with rfl | rfl
      · exact Nat.le_add_right _ _
      · exact Nat.le_refl _
    exact J.fpOk le (J.hok.fresh le)
theorem walk_enuT {K : PySem.W.Frag} {a : Addr} {xs : List V} : Walk (IteT K a) xs.length (fun H => SqT K H a xs) (YPair (fun i => some (.int (i : Nat))) (fun i => xs[i]?)) where
  goes i H hi q := ⟨xs, xs[i], q, List.getElem?_eq_getElem hi⟩
  stops H q := ⟨xs, q, Nat.le_refl _⟩
  yields i H v H' _ q y := by
    obtain ⟨c, x, k1, k2, k3, k4⟩ := y
    exact ⟨c, .int (i : Nat), x, k1, k2, k3, rfl, k4 xs q⟩
end
/-! ### weights between two places -/
abbrev mnI (x y : Int) : Int := if y < x then y else x
abbrev mxI (x y : Int) : Int := if y > x then y else x
def ovl (a b : Int) (t : Int × Int × Int) : Int := mxI 0 (mnI t.2.1 b - mxI t.1 a)
def wsum (a b : Int) (ts : List (Int × Int × Int)) : Int := (ts.map fun t => t.2.2 * ovl a b t).sum
def WL (a b : Int) (Ls : List Lw) : Int := (Ls.map fun L => wsum a b (partsOf L.le L.ps L.pl)).sum
def thickS (Ls : List Lw) (p : Int) : Int := (Ls.map fun L => thickL L p).sum
theorem ovl_add {a b c : Int} (h1 : a ≤ b) (h2 : b ≤ c) (t : Int × Int × Int) : ovl a b t + ovl b c t = ovl a c t := by
  unfold ovl mxI mnI
  (repeat' split) <;> omega
theorem ovl_same (c : Int) (t : Int × Int × Int) : ovl c c t = 0 := by
  unfold ovl mxI mnI
  (repeat' split) <;> omega
theorem wsum_cons (a b : Int) (t : Int × Int × Int) (r : List (Int × Int × Int)) : wsum a b (t :: r) = t.2.2 * ovl a b t + wsum a b r := by
  unfold wsum
  rw [List.map_cons, List.sum_cons]
theorem wsum_app (a b : Int) (r s : List (Int × Int × Int)) : wsum a b (r ++ s) = wsum a b r + wsum a b s := by
  unfold wsum
  rw [List.map_append, List.sum_append]
theorem wsum_add {a b c : Int} (h1 : a ≤ b) (h2 : b ≤ c) : ∀ ts, wsum a b ts + wsum b c ts = wsum a c ts
  | [] => rfl
  | t :: r => by
    rw [wsum_cons, wsum_cons, wsum_cons, ← wsum_add h1 h2 r, ← ovl_add h1 h2 t, Int.mul_add]
    omega
theorem wsum_same (c : Int) : ∀ ts, wsum c c ts = 0
  | [] => rfl
  | t :: r => by rw [wsum_cons, wsum_same c r, ovl_same, Int.mul_zero]; rfl
theorem WL_cons (a b : Int) (L : Lw) (r : List Lw) : WL a b (L :: r) = wsum a b (partsOf L.le L.ps L.pl) + WL a b r := by
  unfold WL
  rw [List.map_cons, List.sum_cons]
theorem WL_add {a b c : Int} (h1 : a ≤ b) (h2 : b ≤ c) : ∀ Ls, WL a b Ls + WL b c Ls = WL a c Ls
  | [] => rfl
  | L :: r => by
    have := wsum_add h1 h2 (partsOf L.le L.ps L.pl)
    have := WL_add h1 h2 r
    rw [WL_cons, WL_cons, WL_cons]
    omega
theorem WL_same (c : Int) : ∀ Ls, WL c c Ls = 0
  | [] => rfl
  | L :: r => by rw [WL_cons, wsum_same, WL_same c r]; rfl
theorem WL_snoc (a b : Int) (Ls : List Lw) (L : Lw) : WL a b (Ls ++ [L]) = WL a b Ls + wsum a b (partsOf L.le L.ps L.pl) := by
  unfold WL
  rw [List.map_append, List.sum_append]
  simp
/-- both ways of parting are one -/
theorem parts_none {n : Int} : ∀ (ps : List (Int × Int)) (st : Int), (∀ p ∈ ps, 1 ≤ p.2) → n ≤ st → partsOf (some n) ps st = []
  | [], _, _, _ => rfl
  | (t, g) :: r, st, hg, h => by
    have hg1 : 1 ≤ g := hg (t, g) (by simp)
    have hc : clip (some n) (st + g) = n := by
      show (if n < st + g then n else st + g) = n
      rw [if_pos (by omega)]
    show (if st < clip (some n) (st + g) then [(st, clip (some n) (st + g), t)] else []) ++ partsOf (some n) r (clip (some n) (st + g)) = []
    rw [hc, if_neg (by omega), parts_none r n (fun x hx => hg x (by simp [hx])) (Int.le_refl _)]
    rfl
theorem parts_eq {le : Option Int} : ∀ (ps : List (Int × Int)) (st : Int), (∀ p ∈ ps, 1 ≤ p.2) → lawParts le ps st = partsOf le ps st
  | [], _, _ => rfl
  | (t, g) :: r, st, hg => by
    have hg1 : 1 ≤ g := hg (t, g) (by simp)
    have hr : ∀ p ∈ r, 1 ≤ p.2 := fun x hx => hg x (by simp [hx])
    show (if st < clip le (st + g) then [(st, clip le (st + g), t)] else []) ++ lawParts le r (st + g) = (if st < clip le (st + g) then [(st, clip le (st + g), t)] else []) ++ partsOf le r (clip le (st + g))
    cases le with
    | none => rw [parts_eq r (st + g) hr]; rfl
    | some n =>
      by_cases h : n < st + g
      · have hc : clip (some n) (st + g) = n := by
          show (if n < st + g then n else st + g) = n
          rw [if_pos h]
        rw [hc, law_nil r (st + g) hr (.inr ⟨n, rfl, by omega⟩), parts_none r n hr (Int.le_refl _)]
      · have hc : clip (some n) (st + g) = st + g := by
          show (if n < st + g then n else st + g) = st + g
          rw [if_neg h]
        rw [hc, parts_eq r (st + g) hr]
theorem law_mem {le : Option Int} : ∀ (ps : List (Int × Int)) (st : Int), (∀ p ∈ ps, 1 ≤ p.2) → ∀ x ∈ lawParts le ps st, st ≤ x.1 ∧ x.1 < x.2.1 ∧ x.2.1 ≤ st + longs ps ∧ ∃ g, (x.2.2, g) ∈ ps
  | [], _, _, x, h => by cases h
  | (t, g) :: r, st, hg, x, h => by
    have hg1 : 1 ≤ g := hg (t, g) (by simp)
    have hr : ∀ p ∈ r, 1 ≤ p.2 := fun x hx => hg x (by simp [hx])
    have h0 := longs_nonneg hr
    have h : x ∈ (if st < clip le (st + g) then [(st, clip le (st + g), t)] else []) ++ lawParts le r (st + g) := h
    rw [longs_cons]
    show _ ∧ _ ∧ x.2.1 ≤ st + (g + longs r) ∧ _
    rcases List.mem_append.mp h with h | h
    · by_cases hc : st < clip le (st + g)
      · rw [if_pos hc] at h
        simp only [List.mem_cons, List.not_mem_nil, or_false] at h
        subst h
        have := clip_le (le := le) (e := st + g)
        exact ⟨Int.le_refl _, hc, by show clip le (st + g) ≤ _; omega, g, by simp⟩
      · rw [if_neg hc] at h
        cases h
    · obtain ⟨h1, h2, h3, g', h4⟩ := law_mem r (st + g) hr x h
      exact ⟨by omega, h2, by omega, g', by simp [h4]⟩
theorem part_ok {L : Lw} (g : GoodL L) {x : Int × Int × Int} (h : x ∈ partsOf L.le L.ps L.pl) : x.1 < x.2.1 ∧ 0 ≤ x.2.2 ∧ x.2.2 < 2 ^ 200 ∧ x.2.1 - x.1 < 2 ^ 210 := by
  have hp : ∀ p ∈ L.ps, 1 ≤ p.2 := fun p hp => (g.1.2.2 p hp).2.2.1
  rw [← parts_eq L.ps L.pl hp] at h
  obtain ⟨h1, h2, h3, g', h4⟩ := law_mem L.ps L.pl hp x h
  have h5 := g.1.2.2 _ h4
  have h6 := longs_lt g.1
  have h7 : (2 : Int) ^ 204 < 2 ^ 210 := by decide
  exact ⟨h2, by have := h5.1; show 0 ≤ x.2.2; have h8 : 1 ≤ x.2.2 := this; omega, h5.2.1, by omega⟩
theorem mulW_of {i j : Int} (h0 : 0 ≤ i) (h1 : i < 2 ^ 250) (h2 : 0 ≤ j) (h3 : j < 2 ^ 250) : CMulW i j := by
  have a := log_lt h0 h1
  have b := log_lt h2 h3
  unfold CMulW
  omega
theorem ovl_le {a b : Int} {t : Int × Int × Int} (h : t.1 < t.2.1) : 0 ≤ ovl a b t ∧ ovl a b t ≤ t.2.1 - t.1 := by
  unfold ovl mxI mnI
  (repeat' split) <;> omega
theorem ovl_mul {L : Lw} (g : GoodL L) {x : Int × Int × Int} (h : x ∈ partsOf L.le L.ps L.pl) (a b : Int) : CMulW x.2.2 (ovl a b x) := by
  obtain ⟨h1, h2, h3, h4⟩ := part_ok g h
  obtain ⟨h5, h6⟩ := ovl_le (a := a) (b := b) h1
  have h7 : (2 : Int) ^ 210 < 2 ^ 250 := by decide
  have h8 : (2 : Int) ^ 200 < 2 ^ 250 := by decide
  exact mulW_of h2 (by omega) h5 (by omega)
theorem ovl_in {a b : Int} {t : Int × Int × Int} (h : t.1 < t.2.1) (hab : a ≤ b) (h1 : t.1 < b) (h2 : t.2.1 > a) : mnI t.2.1 b - mxI t.1 a = ovl a b t := by
  unfold ovl mxI mnI
  (repeat' split) <;> omega
theorem ovl_out {a b : Int} {t : Int × Int × Int} (h : ¬ (t.1 < b ∧ t.2.1 > a)) : ovl a b t = 0 := by
  unfold ovl mxI mnI
  (repeat' split) <;> omega
/-- at one place -/
theorem ovl_one (p s e t : Int) : ovl p (p + 1) (s, e, t) = if s ≤ p ∧ p < e then 1 else 0 := by
  show (if mnI e (p + 1) - mxI s p > 0 then mnI e (p + 1) - mxI s p else 0) = _
  unfold mxI mnI
  (repeat' split) <;> omega
theorem one_none : ∀ (ps : List (Int × Int)) (st p : Int), (∀ x ∈ ps, 1 ≤ x.2) → wsum p (p + 1) (lawParts none ps st) = if p < st then 0 else thickAt ps (p - st)
  | [], st, p, _ => by
    show 0 = if p < st then 0 else 0
    split <;> rfl
  | (t, g) :: r, st, p, hg => by
    have hg1 : 1 ≤ g := hg (t, g) (by simp)
    have hr : ∀ p ∈ r, 1 ≤ p.2 := fun x hx => hg x (by simp [hx])
    have e : lawParts none ((t, g) :: r) st = (st, st + g, t) :: lawParts none r (st + g) := by
      show (if st < st + g then [(st, st + g, t)] else []) ++ lawParts none r (st + g) = _
      rw [if_pos (by omega)]
      rfl
    rw [e, wsum_cons, one_none r (st + g) p hr, ovl_one]
    show t * (if st ≤ p ∧ p < st + g then 1 else 0) + _ = if p < st then 0 else (if p - st < g then t else thickAt r (p - st - g))
    rw [show p - (st + g) = p - st - g by omega]
    by_cases h1 : p < st
    · rw [if_pos h1, if_neg (by omega), if_pos (by omega)]
      omega
    · by_cases h2 : p < st + g
      · rw [if_neg h1, if_pos (by omega), if_pos (by omega), if_pos (by omega)]
        omega
      · rw [if_neg h1, if_neg (by omega), if_neg (by omega), if_neg (by omega)]
        omega
theorem one_some (n : Int) : ∀ (ps : List (Int × Int)) (st p : Int), (∀ x ∈ ps, 1 ≤ x.2) → wsum p (p + 1) (lawParts (some n) ps st) = if p < st ∨ n ≤ p then 0 else thickAt ps (p - st)
  | [], st, p, _ => by
    show 0 = if p < st ∨ n ≤ p then 0 else 0
    split <;> rfl
  | (t, g) :: r, st, p, hg => by
    have hg1 : 1 ≤ g := hg (t, g) (by simp)
    have hr : ∀ p ∈ r, 1 ≤ p.2 := fun x hx => hg x (by simp [hx])
    have e : wsum p (p + 1) (lawParts (some n) ((t, g) :: r) st) = t * (if st ≤ p ∧ p < st + g ∧ p < n then 1 else 0) + wsum p (p + 1) (lawParts (some n) r (st + g)) := by
      show wsum p (p + 1) ((if st < clip (some n) (st + g) then [(st, clip (some n) (st + g), t)] else []) ++ lawParts (some n) r (st + g)) = _
      rw [wsum_app]
      congr 1
      show wsum p (p + 1) (if st < (if n < st + g then n else st + g) then [(st, (if n < st + g then n else st + g), t)] else []) = _
      by_cases h : st < (if n < st + g then n else st + g)
      · rw [if_pos h, wsum_cons, ovl_one]
        show t * _ + 0 = t * _
        rw [Int.add_zero]
        congr 1
        by_cases h3 : n < st + g
        · rw [if_pos h3] at h ⊢
          by_cases h4 : st ≤ p ∧ p < n
          · rw [if_pos h4, if_pos (by omega)]
          · rw [if_neg h4, if_neg (by omega)]
        · rw [if_neg h3] at h ⊢
          by_cases h4 : st ≤ p ∧ p < st + g
          · rw [if_pos h4, if_pos (by omega)]
          · rw [if_neg h4, if_neg (by omega)]
      · rw [if_neg h]
        show 0 = _
        have : ¬ (st ≤ p ∧ p < st + g ∧ p < n) := by
          split at h <;> omega
        rw [if_neg this, Int.mul_zero]
    rw [e, one_some n r (st + g) p hr]
    show _ = if p < st ∨ n ≤ p then 0 else (if p - st < g then t else thickAt r (p - st - g))
    rw [show p - (st + g) = p - st - g by omega]
    by_cases h1 : p < st ∨ n ≤ p
    · rw [if_pos h1, if_neg (by omega), if_pos (by omega)]
      omega
    · by_cases h2 : p < st + g
      · rw [if_neg h1, if_pos (by omega), if_pos (by omega), if_pos (by omega)]
        omega
      · rw [if_neg h1, if_neg (by omega), if_neg (by omega), if_neg (by omega)]
        omega
theorem one_thick {L : Lw} (g : GoodL L) (p : Int) : wsum p (p + 1) (partsOf L.le L.ps L.pl) = thickL L p := by
  have hp : ∀ p ∈ L.ps, 1 ≤ p.2 := fun p hp => (g.1.2.2 p hp).2.2.1
  rw [← parts_eq L.ps L.pl hp]
  unfold thickL
  cases L.le with
  | none => exact one_none L.ps L.pl p hp
  | some n =>
    rw [one_some n L.ps L.pl p hp]
    show _ = if p < L.pl then 0 else if n ≤ p then 0 else _
    by_cases h1 : p < L.pl
    · rw [if_pos h1, if_pos (.inl h1)]
    · by_cases h2 : n ≤ p
      · rw [if_neg h1, if_pos h2, if_pos (.inr h2)]
      · rw [if_neg h1, if_neg h2, if_neg (by omega)]
theorem WL_one (p : Int) : ∀ (Ls : List Lw), (∀ L ∈ Ls, GoodL L) → WL p (p + 1) Ls = thickS Ls p
  | [], _ => rfl
  | L :: r, g => by
    rw [WL_cons, WL_one p r fun L' h => g L' (by simp [h]), one_thick (g L (by simp))]
    unfold thickS
    rw [List.map_cons, List.sum_cons]
theorem WL_sum {Ls : List Lw} (g : ∀ L ∈ Ls, GoodL L) (a : Int) : ∀ n : Nat, ((List.range n).map fun (i : Nat) => thickS Ls (a + i)).sum = WL a (a + n) Ls
  | 0 => by
    show 0 = WL a (a + 0) Ls
    rw [Int.add_zero, WL_same]
  | n + 1 => by
    rw [List.range_succ, List.map_append, List.sum_append, WL_sum g a n]
    show _ + (thickS Ls (a + n) + 0) = _
    rw [Int.add_zero, ← WL_one _ Ls g, WL_add (by omega) (by omega)]
    congr 1
    omega
/-- keys that are numbers -/
def IK (kvs : List (Key × V)) : Prop := ∀ x ∈ kvs, ∃ i : Int, x.1 = Sum.inl i
theorem IK.put {kvs : List (Key × V)} (h : IK kvs) (i : Int) (v : V) : IK (putK kvs (Sum.inl i) v) := by
  unfold putK
  intro x hx
  split at hx
  · obtain ⟨y, hy, rfl⟩ := List.mem_map.mp hx
    split
    · exact h y hy
    · exact h y hy
  · rcases List.mem_append.mp hx with hx | hx
    · exact h x hx
    · simp only [List.mem_cons, List.not_mem_nil, or_false] at hx
      rw [hx]
      exact ⟨i, rfl⟩
theorem IK.merge : ∀ {more kvs : List (Key × V)}, IK kvs → IK more → IK (mergeK kvs more)
  | [], _, h, _ => h
  | (k, v) :: r, kvs, h, hm => by
    obtain ⟨i, e⟩ := hm (k, v) (by simp)
    have e : k = Sum.inl i := e
    subst e
    exact IK.merge (more := r) (h.put i v) fun x hx => hm x (by simp [hx])
theorem IK.keys : ∀ {kvs : List (Key × V)}, IK kvs → ∃ ks : List Int, kvs.map (·.1) = ks.map Sum.inl ∧ ks.length = kvs.length
  | [], _ => ⟨[], rfl, rfl⟩
  | x :: r, h => by
    obtain ⟨i, e⟩ := h x (by simp)
    obtain ⟨ks, e2, e3⟩ := IK.keys (kvs := r) fun y hy => h y (by simp [hy])
    exact ⟨i :: ks, by rw [List.map_cons, List.map_cons, e, e2], by rw [List.length_cons, List.length_cons, e3]⟩
theorem small2000 {n : Nat} (h : n ≤ 5000) : n < sizeLine := Nat.lt_of_le_of_lt h (by decide)
def spThickS : Sp := fun vs H Q _ => ∃ (a : Addr) (Ls : List Lw) (p : Int), vs = [.ref a, .int p] ∧ StrandAt H a Ls ∧ Ls.length ≤ 60 ∧ ∀ H', Same H H' → Q (.int (thickS Ls p)) H'
def spBetween : Sp := fun vs H Q _ => ∃ (a : Addr) (Ls : List Lw) (x y : Int), vs = [.ref a, .int x, .int y] ∧ StrandAt H a Ls ∧ Ls.length ≤ 60 ∧ (∀ L ∈ Ls, GoodL L) ∧ ∀ H', Same H H' → Q (.int (WL x y Ls)) H'
def spDue8 : Sp := fun vs H Q _ => ∃ (o : Addr) (bs : List Addr) (Ls : List Lw) (x y : Int), vs = [.ref o, .int x, .int y] ∧ H o = some (.lst (bs.map V.ref)) ∧ LPartsAt H bs Ls ∧ (∀ L ∈ Ls, GoodL L) ∧ x ≤ y ∧ Q (.int (WL x y Ls)) H
def spEnds8 : Sp := fun vs H Q _ => ∃ (o : Addr) (bs : List Addr) (Ls : List Lw), vs = [.ref o] ∧ H o = some (.lst (bs.map V.ref)) ∧ LPartsAt H bs Ls ∧ Ls.length ≤ 60 ∧ (∀ L ∈ Ls, GoodL L) ∧
  ∀ (H' : Hp) (r : Addr) (ns : List Int), Same H H' → H r = none → H' r = some (.lst (ns.map V.int)) → ns.length ≤ 1200 → Q (.ref r) H'
def spRight8 : Sp := fun vs H Q _ => ∃ (p l : Addr) (T : Nat) (a : Addr) (Ls : List Lw) (small : Bool), vs = [.ref p, .ref a, .bl small] ∧ Pot H p l T ∧ T < 2 ^ 36 ∧ StrandAt H a Ls ∧ Ls.length ≤ 60 ∧ (∀ L ∈ Ls, GoodL L) ∧
  ∀ H', Pot H' p l (T + 1000) → Keep p l H H' → Q (.bl true) H'
theorem bulk_all {xs : List PyData} {n : Nat} (h : ∀ x ∈ xs, x.bulk + 1 ≤ n) : PyData.bulkAll xs ≤ n * xs.length := by
  induction xs with
  | nil => exact Nat.zero_le _
  | cons x r ih =>
    have h1 := h x (by simp)
    have h2 := ih fun y hy => h y (by simp [hy])
    show x.bulk + 1 + PyData.bulkAll r ≤ n * (r.length + 1)
    rw [Nat.mul_add]
    omega
theorem laid_bulk {L : Lw} (g : GoodL L) : (laidD L).bulk ≤ 40 := by
  have h1 := wisp_bulk L.so L.ps
  have h2 := g.1.2.1
  have h3 : (letD L.le).bulk = 0 := by
    cases L.le with
    | none => rfl
    | some n => rfl
  show (wispD L.so L.ps).bulk + 1 + (0 + 1 + ((letD L.le).bulk + 1 + 0)) ≤ 40
  omega
theorem strand_bulk {Ls : List Lw} (g : ∀ L ∈ Ls, GoodL L) (hl : Ls.length ≤ 60) : (strandD Ls).bulk ≤ 20000 := by
  have h := bulk_all (xs := Ls.map laidD) (n := 41) fun x hx => by
    obtain ⟨L, hL, rfl⟩ := List.mem_map.mp hx
    have := laid_bulk (g L hL)
    omega
  rw [List.length_map] at h
  show PyData.bulkAll (Ls.map laidD) ≤ 20000
  omega
theorem TableAt.keep {p l : Addr} {H H' : Hp} {T : Nat} {b : Addr} {ts : List (Int × Int × Int)} (h : TableAt H b ts) (hne : ts ≠ []) (k : Keep p l H H') (hp : Pot H p l T) : TableAt H' b ts := by
  obtain ⟨as, h1, h2⟩ := h
  have hp' := hp
  obtain ⟨ns, c, m, t, e1, e2, _⟩ := hp'
  have ha : as ≠ [] := fun e => by
    have := h2.1
    rw [e, List.length_map] at this
    exact hne (List.length_eq_zero_iff.mp this.symm)
  refine ⟨as, k _ _ (fun e => ?_) (fun e => ?_) h1, h2.mono (k.tups hp)⟩
  · subst e
    rw [h1] at e1
    cases as with
    | nil => exact ha rfl
    | cons x r => cases r with
      | nil => simp at e1
      | cons y r => simp at e1
  · subst e
    rw [h1] at e2
    cases as with
    | nil => exact ha rfl
    | cons x r => cases ns with
      | nil => simp at e2
      | cons y r => simp at e2
theorem law_ne {L : Lw} (g : GoodL L) : lawParts L.le L.ps L.pl ≠ [] := by
  have hp : ∀ x ∈ L.ps, 1 ≤ x.2 := fun x hx => (g.1.2.2 x hx).2.2.1
  have hne : L.ps ≠ [] := fun e => by
    have := g.1.1
    rw [e] at this
    exact absurd this (by decide)
  obtain ⟨ys, b', t, e⟩ := law_last (le := L.le) L.ps L.pl hne hp fun n hn => (g.2.2.2.2.2 n hn).1
  rw [e]
  simp
theorem LPartsAt.keep {p l : Addr} {H H' : Hp} {T : Nat} {bs : List Addr} {Ls : List Lw} (h : LPartsAt H bs Ls) (g : ∀ L ∈ Ls, GoodL L) (k : Keep p l H H') (hp : Pot H p l T) : LPartsAt H' bs Ls := ⟨h.1, fun i b hb => by
  obtain ⟨L, h1, h2⟩ := h.2 i b hb
  exact ⟨L, h1, h2.keep (law_ne (g L (List.mem_of_getElem? h1))) k hp⟩⟩
theorem ne_same (d : PyData) (h : d.canLay0 = true) : (!PyData.eqv d d) = false := by
  rw [PySem.SeqAt.eqv_refl d h]
  rfl
/-! ### what runs where -/
def s0 (Ls : List Lw) (p : Int) : Int := (Ls.map fun L => if L.so = 0 then thickL L p else 0).sum
def s1 (Ls : List Lw) (p : Int) : Int := (Ls.map fun L => if L.so = 0 then 0 else thickL L p).sum
theorem s01 (p : Int) : ∀ Ls : List Lw, s0 Ls p + s1 Ls p = thickS Ls p
  | [] => rfl
  | L :: r => by
    have ih := s01 p r
    unfold s0 s1 thickS at ih ⊢
    rw [List.map_cons, List.map_cons, List.map_cons, List.sum_cons, List.sum_cons, List.sum_cons]
    split <;> omega
theorem s0_snoc (Ls : List Lw) (L : Lw) (p : Int) : s0 (Ls ++ [L]) p = s0 Ls p + if L.so = 0 then thickL L p else 0 := by
  unfold s0
  rw [List.map_append, List.sum_append]
  simp
theorem s1_snoc (Ls : List Lw) (L : Lw) (p : Int) : s1 (Ls ++ [L]) p = s1 Ls p + if L.so = 0 then 0 else thickL L p := by
  unfold s1
  rw [List.map_append, List.sum_append]
  simp
theorem strong_w (p : Int) : ∀ ts : List (Int × Int × Int), strongOf p ts = wsum p (p + 1) ts
  | [] => rfl
  | (a, b, c) :: r => by
    rw [strong_cons, wsum_cons, strong_w p r, ovl_one]
    show (if (decide (a ≤ p) && decide (p < b)) = true then c else 0) + _ = c * (if a ≤ p ∧ p < b then 1 else 0) + _
    by_cases h : a ≤ p ∧ p < b
    · rw [if_pos h, if_pos (by simp [h.1, h.2]), Int.mul_one]
    · rw [if_neg h, if_neg (by simp only [Bool.and_eq_true, decide_eq_true_eq]; exact h), Int.mul_zero]
theorem strong_L {L : Lw} (g : GoodL L) (p : Int) : strongOf p (lawParts L.le L.ps L.pl) = thickL L p := by
  have hp : ∀ p ∈ L.ps, 1 ≤ p.2 := fun p hp => (g.1.2.2 p hp).2.2.1
  rw [strong_w, parts_eq L.ps L.pl hp, one_thick g]
theorem hits_none {le : Option Int} (ps : List (Int × Int)) (st p : Int) (hg : ∀ x ∈ ps, 1 ≤ x.2) (h : p < st) : (lawParts le ps st).filter (inRow p) = [] := by
  rw [List.filter_eq_nil_iff]
  intro x hx
  have := (law_mem ps st hg x hx).1
  unfold inRow
  simp only [Bool.and_eq_true, decide_eq_true_eq]
  omega
theorem hits_one {le : Option Int} : ∀ (ps : List (Int × Int)) (st p : Int), (∀ x ∈ ps, 1 ≤ x.2) → ((lawParts le ps st).filter (inRow p)).length ≤ 1
  | [], _, _, _ => Nat.zero_le _
  | (t, g) :: r, st, p, hg => by
    have hg1 : 1 ≤ g := hg (t, g) (by simp)
    have hr : ∀ p ∈ r, 1 ≤ p.2 := fun x hx => hg x (by simp [hx])
    show (((if st < clip le (st + g) then [(st, clip le (st + g), t)] else []) ++ lawParts le r (st + g)).filter (inRow p)).length ≤ 1
    rw [List.filter_append, List.length_append]
    by_cases h : p < st + g
    · rw [hits_none r (st + g) p hr h]
      have : ((if st < clip le (st + g) then [(st, clip le (st + g), t)] else []).filter (inRow p)).length ≤ 1 := by
        refine Nat.le_trans (List.length_filter_le _ _) ?_
        split
        · exact Nat.le_refl _
        · exact Nat.zero_le _
      exact this
    · have e : (if st < clip le (st + g) then [(st, clip le (st + g), t)] else []).filter (inRow p) = [] := by
        rw [List.filter_eq_nil_iff]
        intro x hx
        split at hx
        · simp only [List.mem_cons, List.not_mem_nil, or_false] at hx
          subst hx
          have := clip_le (le := le) (e := st + g)
          show ¬ (decide (st ≤ p) && decide (p < clip le (st + g))) = true
          simp only [Bool.and_eq_true, decide_eq_true_eq]
          omega
        · cases hx
      rw [e]
      have := hits_one (le := le) r (st + g) p hr
      show 0 + _ ≤ 1
      omega
theorem hits_L {L : Lw} (g : GoodL L) (p : Int) (k : Int) : ((lawParts L.le L.ps L.pl).filter (inRow p)).map (fun _ => k) = if 0 < thickL L p then [k] else [] := by
  have hp : ∀ p ∈ L.ps, 1 ≤ p.2 := fun p hp => (g.1.2.2 p hp).2.2.1
  have h1 := hits_one (le := L.le) L.ps L.pl p hp
  have h2 := strong_L g p
  unfold strongOf at h2
  cases q : (lawParts L.le L.ps L.pl).filter (inRow p) with
  | nil =>
    rw [q] at h2
    have h2 : (0 : Int) = thickL L p := h2
    rw [if_neg (by omega)]
    rfl
  | cons x r =>
    rw [q] at h1 h2
    have hr : r = [] := by
      cases r with
      | nil => rfl
      | cons y r => exact absurd h1 (by simp)
    subst hr
    have hx : x ∈ (lawParts L.le L.ps L.pl).filter (inRow p) := by rw [q]; simp
    have hx := (List.mem_filter.mp hx).1
    obtain ⟨_, _, _, g', h4⟩ := law_mem L.ps L.pl hp x hx
    have h5 : 1 ≤ x.2.2 := (g.1.2.2 _ h4).1
    have h2 : x.2.2 + 0 = thickL L p := h2
    rw [if_pos (by omega)]
    rfl
def spSorts : Sp := fun vs H Q _ => ∃ (a t : Addr) (Ls : List Lw) (p : Int), vs = [.ref a, .ref t] ∧ StrandAt H a Ls ∧ H t = some (.lst ((Ls.map fun L => thickL L p).map V.int)) ∧ (∀ L ∈ Ls, GoodL L) ∧ ∀ H' o, Same H H' → H o = none → H' o = some (.tup [.int (s0 Ls p), .int (s1 Ls p)]) → Q (.ref o) H'
def spBy : Sp := fun vs H Q _ => ∃ (a : Addr) (Ls : List Lw) (p : Int), vs = [.ref a, .int p] ∧ StrandAt H a Ls ∧ Ls.length ≤ 60 ∧ (∀ L ∈ Ls, GoodL L) ∧ ∀ H' o, Same H H' → H o = none → H' o = some (.tup [.int (s0 Ls p), .int (s1 Ls p)]) → Q (.ref o) H'
def spAt6 : Sp := fun vs H Q _ => ∃ (a o : Addr) (bs : List Addr) (Ls : List Lw) (p : Int), vs = [.ref a, .ref o, .int p] ∧ StrandAt H a Ls ∧ Ls.length ≤ 60 ∧ (∀ L ∈ Ls, GoodL L) ∧ H o = some (.lst (bs.map V.ref)) ∧ LPartsAt H bs Ls ∧
  ∀ (H' : Hp) (r t1 t2 : Addr), Same H H' → H' r = some (.tup [.ref t1, .ref t2]) → H' t1 = some (.tup ((numsFrom 0 (Ls.map fun L => thickL L p)).map V.int)) → H' t2 = some (.tup [.int (s0 Ls p), .int (s1 Ls p)]) → Q (.ref r) H'
def spSpots6 : Sp := fun vs H Q _ => ∃ (p l : Addr) (T : Nat) (o : Addr) (bs : List Addr) (Ls : List Lw), vs = [.ref p, .ref o] ∧ Pot H p l T ∧ T < 2 ^ 37 ∧ H o = some (.lst (bs.map V.ref)) ∧ LPartsAt H bs Ls ∧ Ls.length ≤ 60 ∧ (∀ L ∈ Ls, GoodL L) ∧
  ∀ (H' : Hp) (r : Addr) (ns : List Int), Pot H' p l (T + 100) → Keep p l H H' → H r = none → H' r = some (.lst (ns.map V.int)) → ns.length ≤ 100 → Q (.ref r) H'
def spRight6 : Sp := fun vs H Q _ => ∃ (p l : Addr) (T : Nat) (a : Addr) (Ls : List Lw), vs = [.ref p, .ref a] ∧ Pot H p l T ∧ T < 2 ^ 36 ∧ StrandAt H a Ls ∧ Ls.length ≤ 60 ∧ (∀ L ∈ Ls, GoodL L) ∧
  ∀ H', Pot H' p l (T + 1000) → Keep p l H H' → Q (.bl true) H'
theorem ints_ti (ns : List Int) (h : ns.length ≤ 5000) : TI (.tuple (ns.map PyData.int)) := by
  refine .tup (fun x hx => ?_) (by rw [List.length_map]; exact h)
  obtain ⟨n, _, rfl⟩ := List.mem_map.mp hx
  exact .int n
theorem ints_d (ns : List Int) : (PyData.tuple (ns.map PyData.int)).depth < 4 := by
  refine Nat.lt_of_le_of_lt (Nat.succ_le_succ (depth_all (n := 0) fun x hx => ?_)) (by decide)
  obtain ⟨n, _, rfl⟩ := List.mem_map.mp hx
  exact Nat.le_refl _
/-! ### what changes where -/
/-- what is written at the place k, from the parts in their order -/
def wr (k : Int) : List (Int × Int × Int) → List Int
  | [] => []
  | (s, e, t) :: r => (if s = k then [t] else []) ++ (if e = k then [0] else []) ++ wr k r
def lastD (xs : List Int) (d : Int) : Int := xs.getLast?.getD d
def Rise : List (Int × Int × Int) → Prop
  | [] => True
  | (s, e, _) :: r => s < e ∧ (∀ y ∈ r, e ≤ y.1 ∧ y.1 < y.2.1) ∧ Rise r
theorem rise_law {le : Option Int} : ∀ (ps : List (Int × Int)) (st : Int), (∀ p ∈ ps, 1 ≤ p.2) → Rise (lawParts le ps st)
  | [], _, _ => True.intro
  | (t, g) :: r, st, hg => by
    have hg1 : 1 ≤ g := hg (t, g) (by simp)
    have hr : ∀ p ∈ r, 1 ≤ p.2 := fun x hx => hg x (by simp [hx])
    have ih := rise_law (le := le) r (st + g) hr
    show Rise ((if st < clip le (st + g) then [(st, clip le (st + g), t)] else []) ++ lawParts le r (st + g))
    split
    · next h =>
      refine ⟨h, fun y hy => ?_, ih⟩
      have h1 := law_mem (le := le) r (st + g) hr y hy
      have h2 := clip_le (le := le) (e := st + g)
      exact ⟨by omega, h1.2.1⟩
    · exact ih
theorem wr_none {k b : Int} : ∀ {qs : List (Int × Int × Int)}, (∀ y ∈ qs, b ≤ y.1 ∧ y.1 < y.2.1) → k < b → wr k qs = []
  | [], _, _ => rfl
  | (s, e, t) :: r, h, hk => by
    have h1 := h (s, e, t) (by simp)
    have h1 : b ≤ s ∧ s < e := h1
    show (if s = k then [t] else []) ++ (if e = k then [0] else []) ++ wr k r = []
    rw [if_neg (by omega), if_neg (by omega), wr_none (fun y hy => h y (by simp [hy])) hk]
    rfl
theorem strong_none {k b : Int} : ∀ {qs : List (Int × Int × Int)}, (∀ y ∈ qs, b ≤ y.1 ∧ y.1 < y.2.1) → k < b → strongOf k qs = 0
  | [], _, _ => rfl
  | (s, e, t) :: r, h, hk => by
    have h1 : b ≤ s ∧ s < e := h (s, e, t) (by simp)
    rw [strong_cons, strong_none (fun y hy => h y (by simp [hy])) hk]
    show (if (decide (s ≤ k) && decide (k < e)) = true then t else 0) + 0 = 0
    rw [if_neg (by simp only [Bool.and_eq_true, decide_eq_true_eq]; omega)]
    rfl
theorem wr_ne {k : Int} : ∀ {qs : List (Int × Int × Int)}, wr k qs ≠ [] → ∃ y ∈ qs, y.1 = k ∨ y.2.1 = k
  | [], h => absurd rfl h
  | (s, e, t) :: r, h => by
    by_cases h1 : s = k
    · exact ⟨(s, e, t), by simp, .inl h1⟩
    · by_cases h2 : e = k
      · exact ⟨(s, e, t), by simp, .inr h2⟩
      · have h : (if s = k then [t] else []) ++ (if e = k then [0] else []) ++ wr k r ≠ [] := h
        rw [if_neg h1, if_neg h2] at h
        obtain ⟨y, hy, z⟩ := wr_ne (qs := r) h
        exact ⟨y, by simp [hy], z⟩
theorem lastD_app {xs ys : List Int} {d : Int} (h : ys ≠ []) : lastD (xs ++ ys) d = lastD ys d := by
  unfold lastD
  rw [List.getLast?_append]
  cases q : ys.getLast? with
  | none => exact absurd (List.getLast?_eq_none_iff.mp q) h
  | some y => rfl
/-- nothing begins or ends between j and k: at k it is as at j but for what is written there -/
theorem strong_step {j k : Int} (hjk : j < k) : ∀ (qs : List (Int × Int × Int)), Rise qs → (∀ y ∈ qs, (y.1 ≤ j ∨ k ≤ y.1) ∧ (y.2.1 ≤ j ∨ k ≤ y.2.1)) → strongOf k qs = lastD (wr k qs) (strongOf j qs)
  | [], _, _ => rfl
  | (s, e, t) :: r, hr, hn => by
    obtain ⟨hse, hlo, hrr⟩ := hr
    have h1 : (s ≤ j ∨ k ≤ s) ∧ (e ≤ j ∨ k ≤ e) := hn (s, e, t) (by simp)
    have ih := strong_step hjk r hrr fun y hy => hn y (by simp [hy])
    rw [strong_cons, strong_cons, ih]
    show (if (decide (s ≤ k) && decide (k < e)) = true then t else 0) + _ = lastD ((if s = k then [t] else []) ++ (if e = k then [0] else []) ++ wr k r) ((if (decide (s ≤ j) && decide (j < e)) = true then t else 0) + strongOf j r)
    have cond : ∀ x : Int, ((decide (s ≤ x) && decide (x < e)) = true) ↔ (s ≤ x ∧ x < e) := fun x => by simp only [Bool.and_eq_true, decide_eq_true_eq]
    by_cases hw : wr k r = []
    · rw [hw, List.append_nil]
      have e0 : lastD [] (strongOf j r) = strongOf j r := rfl
      rw [e0]
      by_cases he : e = k
      · have z : strongOf j r = 0 := strong_none (b := e) hlo (by omega)
        rw [if_pos he, if_neg (by rw [cond]; omega), z, lastD_app (by simp)]
        rfl
      · rw [if_neg he, List.append_nil]
        by_cases hs : s = k
        · have z : strongOf j r = 0 := strong_none (b := e) hlo (by omega)
          rw [if_pos hs, if_pos (by rw [cond]; omega), z]
          show t + 0 = t
          omega
        · rw [if_neg hs]
          show _ = (if (decide (s ≤ j) && decide (j < e)) = true then t else 0) + strongOf j r
          by_cases hc : s ≤ j ∧ j < e
          · rw [if_pos ((cond k).mpr (by omega)), if_pos ((cond j).mpr hc)]
          · rw [if_neg (fun z => hc (by have := (cond k).mp z; omega)), if_neg (fun z => hc ((cond j).mp z))]
    · obtain ⟨y, hy, hk⟩ := wr_ne hw
      have h2 := hlo y hy
      rw [lastD_app hw, if_neg (by rw [cond]; omega), Int.zero_add]
      unfold lastD
      cases q : (wr k r).getLast? with
      | none => exact absurd (List.getLast?_eq_none_iff.mp q) hw
      | some y => rfl
theorem thick_step {L : Lw} (g : GoodL L) {j k : Int} (hjk : j < k) (hn : ∀ y ∈ partsOf L.le L.ps L.pl, (y.1 ≤ j ∨ k ≤ y.1) ∧ (y.2.1 ≤ j ∨ k ≤ y.2.1)) : thickL L k = lastD (wr k (partsOf L.le L.ps L.pl)) (thickL L j) := by
  have hp : ∀ p ∈ L.ps, 1 ≤ p.2 := fun p hp => (g.1.2.2 p hp).2.2.1
  rw [← parts_eq L.ps L.pl hp] at hn ⊢
  rw [← strong_L g, ← strong_L g]
  exact strong_step hjk _ (rise_law L.ps L.pl hp) hn
/-! ### keys that are numbers, no two alike -/
def IKN (kvs : List (Key × V)) : Prop := IK kvs ∧ (kvs.map (·.1)).Nodup
theorem put_keys (kvs : List (Key × V)) (k : Key) (v : V) (h : (kvs.map (·.1)).Nodup) : ((putK kvs k v).map (·.1)).Nodup := by
  unfold putK
  split
  · have e : (kvs.map (fun kv => if kv.1 = k then (kv.1, v) else kv)).map (·.1) = kvs.map (·.1) := by
      rw [List.map_map]
      refine List.map_congr_left fun x _ => ?_
      show (if x.1 = k then (x.1, v) else x).1 = x.1
      split <;> rfl
    rw [e]
    exact h
  · next hn =>
    rw [List.map_append]
    refine List.nodup_append.mpr ⟨h, by simp, fun x hx y hy e => ?_⟩
    simp only [List.map_cons, List.map_nil, List.mem_cons, List.not_mem_nil, or_false] at hy
    obtain ⟨z, hz, ez⟩ := List.mem_map.mp hx
    exact hn (List.any_eq_true.mpr ⟨z, hz, decide_eq_true (by rw [ez, e, hy])⟩)
theorem IKN.put {kvs : List (Key × V)} (h : IKN kvs) (i : Int) (v : V) : IKN (putK kvs (Sum.inl i) v) := ⟨h.1.put i v, put_keys _ _ _ h.2⟩
theorem keys_of {kvs : List (Key × V)} (h : IKN kvs) : ∃ ks : List Int, kvs.map (·.1) = ks.map Sum.inl ∧ ks.length = kvs.length ∧ ks.Nodup ∧ ∀ k, k ∈ ks ↔ ∃ v, valV kvs (Sum.inl k) = some v := by
  obtain ⟨ks, e, hl⟩ := h.1.keys
  refine ⟨ks, e, hl, ?_, fun k => ?_⟩
  · have := h.2
    rw [e] at this
    exact (List.pairwise_map.mp this).imp fun h e => h (congrArg Sum.inl e)
  · have m : k ∈ ks ↔ (Sum.inl k : Key) ∈ kvs.map (·.1) := by
      rw [e]
      constructor
      · exact fun h => List.mem_map.mpr ⟨k, h, rfl⟩
      · intro h
        obtain ⟨x, hx, ex⟩ := List.mem_map.mp h
        cases ex
        exact hx
    rw [m]
    constructor
    · intro hm
      obtain ⟨z, hz, ez⟩ := List.mem_map.mp hm
      cases hv : valV kvs (Sum.inl k) with
      | some v => exact ⟨v, rfl⟩
      | none =>
        have := valV_any (Sum.inl k : Key) kvs
        rw [hv] at this
        have h2 : (kvs.any fun kv => decide (kv.1 = Sum.inl k)) = true := List.any_eq_true.mpr ⟨z, hz, decide_eq_true ez⟩
        rw [h2] at this
        cases this
    · rintro ⟨v, hv⟩
      have := valV_any (Sum.inl k : Key) kvs
      rw [hv] at this
      obtain ⟨z, hz, ez⟩ := List.any_eq_true.mp this
      exact List.mem_map.mpr ⟨z, hz, of_decide_eq_true ez⟩
theorem sorted_strict {ys ks : List Int} (hp : ys.Perm ks) (hs : ys.Pairwise (· ≤ ·)) (hn : ks.Nodup) : ys.Pairwise (· < ·) := by
  have hn' : ys.Nodup := hp.nodup_iff.mpr hn
  exact (hs.and hn').imp fun ⟨h1, h2⟩ => by omega
/-- two lists that rise, with the same members, are one -/
theorem rise_eq : ∀ {xs ys : List Int}, xs.Pairwise (· < ·) → ys.Pairwise (· < ·) → (∀ k, k ∈ xs ↔ k ∈ ys) → xs = ys
  | [], [], _, _, _ => rfl
  | [], y :: r, _, _, h => absurd ((h y).mpr (by simp)) (by simp)
  | x :: r, [], _, _, h => absurd ((h x).mp (by simp)) (by simp)
  | x :: r, y :: s, hx, hy, h => by
    have hx' := List.pairwise_cons.mp hx
    have hy' := List.pairwise_cons.mp hy
    have e : x = y := by
      rcases List.mem_cons.mp ((h x).mp (by simp)) with e | e
      · exact e
      · rcases List.mem_cons.mp ((h y).mpr (by simp)) with e2 | e2
        · exact e2.symm
        · have h1 := hy'.1 x e
          have h2 := hx'.1 y e2
          omega
    subst e
    congr 1
    refine rise_eq hx'.2 hy'.2 fun k => ?_
    constructor
    · intro hk
      rcases List.mem_cons.mp ((h k).mp (by simp [hk])) with e | e
      · have := hx'.1 k hk
        omega
      · exact e
    · intro hk
      rcases List.mem_cons.mp ((h k).mpr (by simp [hk])) with e | e
      · have := hy'.1 k hk
        omega
      · exact e
/-! ### a dict of lists of pairs -/
theorem Tups.dk {H : Hp} {a : Addr} {kvs : List (Key × V)} {o : HO} (h : H a = some (.dK kvs)) : Tups H (upd H a o) := fun c ys e => by
  by_cases n : c = a
  · subst n
    rw [h] at e
    cases e
  · rw [upd_ne n]
    exact e
def DAtK (H0 H : Hp) (d : Addr) (kvs : List (Key × V)) (N : Nat) (ks : Int → Prop) (W : Int → List (Int × Int)) : Prop := H d = some (.dK kvs) ∧ IKN kvs ∧ kvs.length ≤ N ∧ (∀ k, ks k ↔ ∃ v, valV kvs (Sum.inl k) = some v) ∧ (∀ k, ¬ ks k → W k = []) ∧
  (∀ k v, valV kvs (Sum.inl k) = some v → ∃ q as, v = .ref q ∧ H0 q = none ∧ q ≠ d ∧ H q = some (.lst (as.map V.ref)) ∧ TupsAt H as ((W k).map stepV)) ∧ ∀ k k' v, valV kvs (Sum.inl k) = some v → valV kvs (Sum.inl k') = some v → k = k'
theorem DAtK.new {H0 H : Hp} {d : Addr} {kvs : List (Key × V)} {N : Nat} {ks : Int → Prop} {W : Int → List (Int × Int)} (h : DAtK H0 H d kvs N ks W) {z : Addr} {o : HO} (n : H z = none) : DAtK H0 (upd H z o) d kvs N ks W := by
  obtain ⟨h1, h2, h3, h4, h5, h6, h7⟩ := h
  refine ⟨?_, h2, h3, h4, h5, fun k v e => ?_, h7⟩
  · rw [upd_ne (ne_of_none h1 n)]
    exact h1
  · obtain ⟨q, as, e1, e2, e3, e4, e5⟩ := h6 k v e
    refine ⟨q, as, e1, e2, e3, ?_, e5.mono (Tups.new n)⟩
    rw [upd_ne (ne_of_none e4 n)]
    exact e4
/-- a new key, its list empty -/
theorem DAtK.put {H0 H : Hp} {d : Addr} {kvs : List (Key × V)} {N : Nat} {ks : Int → Prop} {W : Int → List (Int × Int)} (h : DAtK H0 H d kvs N ks W) {z : Addr} {k : Int} (ez : H z = some (.lst [])) (nz : H0 z = none) (zf : ∀ k v, valV kvs (Sum.inl k) = some v → v ≠ .ref z) (nk : valV kvs (Sum.inl k) = none) :
    DAtK H0 (upd H d (.dK (putK kvs (Sum.inl k) (.ref z)))) d (putK kvs (Sum.inl k) (.ref z)) (N + 1) (fun x => ks x ∨ x = k) W := by
  obtain ⟨h1, h2, h3, h4, h5, h6, h7⟩ := h
  have zd : z ≠ d := fun e => by
    rw [e, h1] at ez
    cases ez
  have vp : ∀ x : Int, valV (putK kvs (Sum.inl k) (.ref z)) (Sum.inl x) = if x = k then some (.ref z) else valV kvs (Sum.inl x) := fun x => by
    rw [valV_put]
    by_cases e : x = k
    · rw [if_pos e, if_pos (by rw [e])]
    · rw [if_neg e, if_neg (fun q => e (Sum.inl.inj q))]
  have wk : W k = [] := h5 k fun z => by
    obtain ⟨v, e⟩ := (h4 k).mp z
    rw [nk] at e
    cases e
  refine ⟨upd_same, h2.put k _, Nat.le_trans (length_putK _ _ _) (Nat.succ_le_succ h3), fun x => ?_, fun x n => h5 x fun y => n (.inl y), fun x v e => ?_, fun x y v e e' => ?_⟩
  · rw [vp]
    by_cases e : x = k
    · rw [if_pos e]
      exact ⟨fun _ => ⟨_, rfl⟩, fun _ => .inr e⟩
    · rw [if_neg e, ← h4]
      exact ⟨fun y => y.resolve_right e, .inl⟩
  · rw [vp] at e
    by_cases n : x = k
    · rw [if_pos n] at e
      cases e
      refine ⟨z, [], rfl, nz, zd, ?_, ?_⟩
      · rw [upd_ne zd]
        exact ez
      · rw [n, wk]
        exact TupsAt.nil
    · rw [if_neg n] at e
      obtain ⟨q, as, e1, e2, e3, e4, e5⟩ := h6 x v e
      refine ⟨q, as, e1, e2, e3, ?_, e5.mono (Tups.dk h1)⟩
      rw [upd_ne e3]
      exact e4
  · rw [vp] at e e'
    by_cases n : x = k
    · rw [if_pos n] at e
      cases e
      by_cases n' : y = k
      · rw [n, n']
      · rw [if_neg n'] at e'
        exact absurd rfl (zf y _ e')
    · rw [if_neg n] at e
      by_cases n' : y = k
      · rw [if_pos n'] at e'
        cases e'
        exact absurd rfl (zf x _ e)
      · rw [if_neg n'] at e'
        exact h7 x y v e e'
/-- a pair more in a key's list -/
theorem DAtK.app {H0 H : Hp} {d : Addr} {kvs : List (Key × V)} {N : Nat} {ks : Int → Prop} {W : Int → List (Int × Int)} (h : DAtK H0 H d kvs N ks W) {k : Int} {q c : Addr} {as : List Addr} {p : Int × Int} (eq : valV kvs (Sum.inl k) = some (.ref q)) (el : H q = some (.lst (as.map V.ref))) (et : TupsAt H as ((W k).map stepV)) (ec : H c = some (.tup (stepV p))) :
    DAtK H0 (upd H q (.lst (as.map V.ref ++ [.ref c]))) d kvs N ks (fun x => if x = k then W k ++ [p] else W x) := by
  obtain ⟨h1, h2, h3, h4, h5, h6, h7⟩ := h
  obtain ⟨q', as', e1, _, qd, _, _⟩ := h6 k _ eq
  cases e1
  refine ⟨?_, h2, h3, h4, fun x n => ?_, fun x v e => ?_, h7⟩
  · rw [upd_ne qd.symm]
    exact h1
  · show (if x = k then W k ++ [p] else W x) = []
    rw [if_neg (fun z => n ((h4 x).mpr (by rw [z]; exact ⟨_, eq⟩))), h5 x n]
  · obtain ⟨r, bs, e1, e2, e3, e4, e5⟩ := h6 x v e
    by_cases n : x = k
    · subst n
      have e6 := Option.some.inj (e.symm.trans eq)
      rw [e1] at e6
      cases e6
      refine ⟨q, as ++ [c], e1, e2, e3, ?_, ?_⟩
      · rw [upd_same, List.map_append]
        rfl
      · show TupsAt _ _ ((if x = x then W x ++ [p] else W x).map stepV)
        rw [if_pos rfl, List.map_append]
        exact (et.snoc ec).mono (Tups.ls el)
    · have rq : r ≠ q := fun z => n (h7 x k v e (by rw [e1, z]; exact eq))
      refine ⟨r, bs, e1, e2, e3, ?_, ?_⟩
      · rw [upd_ne rq]
        exact e4
      · show TupsAt _ _ ((if x = k then W k ++ [p] else W x).map stepV)
        rw [if_neg n]
        exact e5.mono (Tups.ls el)
theorem DAtK.congr {H0 H : Hp} {d : Addr} {kvs : List (Key × V)} {N M : Nat} {ks ks' : Int → Prop} {W W' : Int → List (Int × Int)} (h : DAtK H0 H d kvs N ks W) (hn : N ≤ M) (h1 : ∀ k, ks k ↔ ks' k) (h2 : ∀ k, W k = W' k) : DAtK H0 H d kvs M ks' W' := by
  have e1 : ks = ks' := funext fun k => propext (h1 k)
  have e2 : W = W' := funext h2
  subst e1 e2
  exact ⟨h.1, h.2.1, Nat.le_trans h.2.2.1 hn, h.2.2.2⟩
def Wall (k : Int) : Nat → List Lw → List (Int × Int)
  | _, [] => []
  | n, L :: r => (wr k (partsOf L.le L.ps L.pl)).map (fun t => ((n : Int), t)) ++ Wall k (n + 1) r
theorem wall_snoc (k : Int) (L : Lw) : ∀ (Ls : List Lw) (n : Nat), Wall k n (Ls ++ [L]) = Wall k n Ls ++ (wr k (partsOf L.le L.ps L.pl)).map fun t => (((n + Ls.length : Nat) : Int), t)
  | [], n => by
    show _ ++ [] = [] ++ _
    rw [List.append_nil]
    rfl
  | M :: r, n => by
    show _ ++ Wall k (n + 1) (r ++ [L]) = (_ ++ Wall k (n + 1) r) ++ _
    rw [wall_snoc k L r (n + 1), List.append_assoc, List.length_cons, show n + 1 + r.length = n + (r.length + 1) by omega]
theorem wr_snoc (k s e t : Int) : ∀ qs : List (Int × Int × Int), wr k (qs ++ [(s, e, t)]) = wr k qs ++ ((if s = k then [t] else []) ++ (if e = k then [0] else []))
  | [] => by
    show _ ++ _ ++ [] = [] ++ _
    rw [List.append_nil]
    rfl
  | (a, b, c) :: r => by
    show _ ++ _ ++ wr k (r ++ [(s, e, t)]) = _ ++ _ ++ wr k r ++ _
    rw [wr_snoc k s e t r, List.append_assoc _ (wr k r)]
theorem wr_len (k : Int) : ∀ qs : List (Int × Int × Int), (wr k qs).length ≤ 2 * qs.length
  | [] => Nat.le_refl _
  | (a, b, c) :: r => by
    have := wr_len k r
    show ((if a = k then [c] else []) ++ (if b = k then [0] else []) ++ wr k r).length ≤ 2 * (r.length + 1)
    rw [List.length_append, List.length_append]
    have h1 : (if a = k then [c] else []).length ≤ 1 := by split <;> simp
    have h2 : (if b = k then [(0 : Int)] else []).length ≤ 1 := by split <;> simp
    omega
theorem wall_len (k : Int) : ∀ (Ls : List Lw) (n : Nat), (∀ L ∈ Ls, GoodL L) → (Wall k n Ls).length ≤ 20 * Ls.length
  | [], _, _ => Nat.le_refl _
  | L :: r, n, g => by
    have h1 := wall_len k r (n + 1) fun M h => g M (by simp [h])
    have h2 := wr_len k (partsOf L.le L.ps L.pl)
    have h3 := part_len (le := L.le) L.ps L.pl
    have h4 := (g L (by simp)).1.2.1
    show ((wr k (partsOf L.le L.ps L.pl)).map (fun t => ((n : Int), t)) ++ Wall k (n + 1) r).length ≤ 20 * (r.length + 1)
    rw [List.length_append, List.length_map]
    omega
def Keys (Ls : List Lw) (k : Int) : Prop := k = 0 ∨ ∃ L ∈ Ls, ∃ y ∈ partsOf L.le L.ps L.pl, y.1 = k ∨ y.2.1 = k
def spChanges : Sp := fun vs H Q _ => ∃ (a : Addr) (Ls : List Lw), vs = [.ref a] ∧ StrandAt H a Ls ∧ Ls.length ≤ 60 ∧ (∀ L ∈ Ls, GoodL L) ∧
  ∀ (H' : Hp) (d : Addr) (kvs : List (Key × V)), Same H H' → H d = none → DAtK H H' d kvs 1300 (Keys Ls) (fun k => Wall k 0 Ls) → Q (.ref d) H'
theorem DAtK.same {H0 H H' : Hp} {d : Addr} {kvs : List (Key × V)} {N : Nat} {ks : Int → Prop} {W : Int → List (Int × Int)} (h : DAtK H0 H d kvs N ks W) (s : Same H H') : DAtK H0 H' d kvs N ks W := by
  obtain ⟨h1, h2, h3, h4, h5, h6, h7⟩ := h
  refine ⟨s _ _ h1, h2, h3, h4, h5, fun k v e => ?_, h7⟩
  obtain ⟨q, as, e1, e2, e3, e4, e5⟩ := h6 k v e
  exact ⟨q, as, e1, e2, e3, s _ _ e4, e5.mono (Tups.same s)⟩
theorem hu1 {u c : Nat} (h : u + 64 < c) : u + 1 < c := by omega
/-- what stands behind setdefault(k, []).append((n, t)); o: a list beside it -/
def Aft (H0 H : Hp) (d o : Addr) (xs : List V) (N : Nat) (ks : Int → Prop) (W : Int → List (Int × Int)) (k : Int) (p : Int × Int) (H6 : Hp) : Prop := ∃ kvs6, DAtK H0 H6 d kvs6 (N + 1) (fun x => ks x ∨ x = k) (fun x => if x = k then W k ++ [p] else W x) ∧ Same H0 H6 ∧ Tups H H6 ∧ H6 o = some (.lst xs) ∧ ∀ k v, valV kvs6 (Sum.inl k) = some v → v ≠ .ref o
theorem DAtK.found {H0 H : Hp} {d o : Addr} {xs : List V} {kvs : List (Key × V)} {N : Nat} {ks : Int → Prop} {W : Int → List (Int × Int)} (h : DAtK H0 H d kvs N ks W) (s : Same H0 H) (eo : H o = some (.lst xs)) (nv : ∀ k v, valV kvs (Sum.inl k) = some v → v ≠ .ref o) {Z : Addr} (nZ : H Z = none) {k : Int} {v : V} (hv : valV kvs (Sum.inl k) = some v) (p : Int × Int) :
    ∃ (q : Addr) (as : List Addr), v = .ref q ∧ upd H Z (.lst []) q = some (.lst (as.map V.ref)) ∧ as.length = (W k).length ∧ ∀ P, upd H Z (.lst []) P = none → Aft H0 H d o xs N ks W k p (upd (upd (upd H Z (.lst [])) P (.tup (stepV p))) q (.lst (as.map V.ref ++ [.ref P]))) := by
  have hZ := h.new (o := .lst []) nZ
  obtain ⟨q, as, rfl, n0, qd, el, et⟩ := hZ.2.2.2.2.2.1 k v hv
  refine ⟨q, as, rfl, el, ?_, fun P nP => ⟨kvs, ?_, ?_, ?_, ?_, nv⟩⟩
  · rw [et.1, List.length_map]
  · have hP := hZ.new (o := .tup (stepV p)) nP
    refine (hP.app hv ((upd_ne (ne_of_none el nP)).trans el) (et.mono (Tups.new nP)) upd_same).congr (Nat.le_succ _) (fun x => ⟨.inl, fun z => z.elim id fun z => ?_⟩) fun _ => rfl
    rw [z]
    exact (h.2.2.2.1 k).mpr ⟨_, hv⟩
  · exact same_mine (same_new (same_new s nZ) nP) n0
  · exact ((Tups.new nZ).trans (Tups.new nP)).trans (Tups.ls ((upd_ne (ne_of_none el nP)).trans el))
  · have oq : o ≠ q := fun z => nv k _ hv (by rw [z])
    have eZ : upd H Z (.lst []) o = some (.lst xs) := (upd_ne (ne_of_none eo nZ)).trans eo
    rw [upd_ne oq, upd_ne (ne_of_none eZ nP)]
    exact eZ
theorem DAtK.fresh {H0 H : Hp} {d o : Addr} {xs : List V} {kvs : List (Key × V)} {N : Nat} {ks : Int → Prop} {W : Int → List (Int × Int)} (h : DAtK H0 H d kvs N ks W) (s : Same H0 H) (nd : H0 d = none) (eo : H o = some (.lst xs)) (nv : ∀ k v, valV kvs (Sum.inl k) = some v → v ≠ .ref o) {Z : Addr} (nZ : H Z = none) {k : Int} (hn : valV kvs (Sum.inl k) = none) (p : Int × Int) :
    upd (upd H Z (.lst [])) d (.dK (putK kvs (Sum.inl k) (.ref Z))) Z = some (.lst []) ∧ ∀ P, upd (upd H Z (.lst [])) d (.dK (putK kvs (Sum.inl k) (.ref Z))) P = none → Aft H0 H d o xs N ks W k p (upd (upd (upd (upd H Z (.lst [])) d (.dK (putK kvs (Sum.inl k) (.ref Z)))) P (.tup (stepV p))) Z (.lst ([] ++ [.ref P]))) := by
  have hZ := h.new (o := .lst []) nZ
  have dZ : d ≠ Z := ne_of_none h.1 nZ
  have zf : ∀ k v, valV kvs (Sum.inl k) = some v → v ≠ .ref Z := fun k v e z => by
    obtain ⟨q, as, e1, _, _, e4, _⟩ := h.2.2.2.2.2.1 k v e
    rw [z] at e1
    cases e1
    rw [nZ] at e4
    cases e4
  have nZ0 : H0 Z = none := s.free nZ
  have hp := hZ.put (k := k) upd_same nZ0 zf hn
  have eZ : upd (upd H Z (.lst [])) d (.dK (putK kvs (Sum.inl k) (.ref Z))) Z = some (.lst []) := by
    rw [upd_ne dZ.symm]
    exact upd_same
  have vk : ∀ x : Int, valV (putK kvs (Sum.inl k) (.ref Z)) (Sum.inl x) = if x = k then some (.ref Z) else valV kvs (Sum.inl x) := fun x => by
    rw [valV_put]
    by_cases e : x = k
    · rw [if_pos e, if_pos (by rw [e])]
    · rw [if_neg e, if_neg (fun q => e (Sum.inl.inj q))]
  have wk : W k = [] := h.2.2.2.2.1 k fun z => by
    obtain ⟨v, e⟩ := (h.2.2.2.1 k).mp z
    rw [hn] at e
    cases e
  refine ⟨eZ, fun P nP => ⟨putK kvs (Sum.inl k) (.ref Z), ?_, ?_, ?_, ?_, ?_⟩⟩
  · have hP := hp.new (o := .tup (stepV p)) nP
    exact hP.app (as := []) (k := k) (by rw [vk, if_pos rfl]) ((upd_ne (ne_of_none eZ nP)).trans eZ) (by rw [wk]; exact TupsAt.nil) upd_same
  · exact same_mine (same_new (same_mine (same_new s nZ) nd) nP) nZ0
  · exact (((Tups.new nZ).trans (Tups.dk hZ.1)).trans (Tups.new nP)).trans (Tups.ls ((upd_ne (ne_of_none eZ nP)).trans eZ))
  · have e1 : upd H Z (.lst []) o = some (.lst xs) := (upd_ne (ne_of_none eo nZ)).trans eo
    have od : o ≠ d := fun z => by
      rw [z, h.1] at eo
      cases eo
    have e2 : upd (upd H Z (.lst [])) d (.dK (putK kvs (Sum.inl k) (.ref Z))) o = some (.lst xs) := (upd_ne od).trans e1
    rw [upd_ne (ne_of_none eo nZ), upd_ne (ne_of_none e2 nP)]
    exact e2
  · intro x v e z
    rw [vk] at e
    by_cases n : x = k
    · rw [if_pos n, z] at e
      cases e
      rw [nZ] at eo
      cases eo
    · rw [if_neg n] at e
      exact nv x v e z
/-! ### stretches: places, what is there -/
def Places (Ls : List Lw) (ys : List Int) : Prop := ys.Pairwise (· < ·) ∧ (∀ k, k ∈ ys ↔ Keys Ls k) ∧ ys.length ≤ 1300
def SegAt (H : Hp) (a : Addr) (Ls : List Lw) (s e : Int) : Prop := ∃ n t, H a = some (.tup [.int s, .int e, .ref n, .ref t]) ∧ H n = some (.tup ((numsFrom 0 (Ls.map fun L => thickL L s)).map V.int)) ∧ H t = some (.tup [.int (s0 Ls s), .int (s1 Ls s)])
theorem SegAt.mono {H H' : Hp} {a : Addr} {Ls : List Lw} {s e : Int} (h : SegAt H a Ls s e) (t : Tups H H') : SegAt H' a Ls s e := by
  obtain ⟨n, u, h1, h2, h3⟩ := h
  exact ⟨n, u, t _ _ h1, t _ _ h2, t _ _ h3⟩
def SegsAt (H : Hp) (as : List Addr) (Ls : List Lw) (ps : List (Int × Int)) : Prop := as.length = ps.length ∧ ∀ (i : Nat) (a : Addr), as[i]? = some a → ∃ s e, ps[i]? = some (s, e) ∧ SegAt H a Ls s e
theorem SegsAt.mono {H H' : Hp} {as : List Addr} {Ls : List Lw} {ps : List (Int × Int)} (h : SegsAt H as Ls ps) (t : Tups H H') : SegsAt H' as Ls ps := ⟨h.1, fun i a e => by
  obtain ⟨s, e', h1, h2⟩ := h.2 i a e
  exact ⟨s, e', h1, h2.mono t⟩⟩
theorem SegsAt.nil {H : Hp} {Ls : List Lw} : SegsAt H [] Ls [] := ⟨rfl, fun i a h => by simp at h⟩
theorem SegsAt.snoc {H : Hp} {as : List Addr} {Ls : List Lw} {ps : List (Int × Int)} {a : Addr} {s e : Int} (h : SegsAt H as Ls ps) (g : SegAt H a Ls s e) : SegsAt H (as ++ [a]) Ls (ps ++ [(s, e)]) := by
  refine ⟨by rw [List.length_append, List.length_append, h.1]; rfl, fun i b hb => ?_⟩
  by_cases hi : i < as.length
  · rw [List.getElem?_append_left hi] at hb
    obtain ⟨s', e', h1, h2⟩ := h.2 i b hb
    exact ⟨s', e', by rw [List.getElem?_append_left (by rw [← h.1]; exact hi)]; exact h1, h2⟩
  · rw [List.getElem?_append_right (by omega)] at hb
    have hz : i - as.length = 0 := by
      cases hk : i - as.length with
      | zero => rfl
      | succ n =>
        rw [hk] at hb
        simp at hb
    rw [hz] at hb
    have : a = b := Option.some.inj hb
    subst this
    refine ⟨s, e, ?_, g⟩
    rw [List.getElem?_append_right (by rw [← h.1]; omega), ← h.1, hz]
    rfl
abbrev pairs (ys : List Int) : List (Int × Int) := ys.zip (ys.drop 1)
def spStretches : Sp := fun vs H Q _ => ∃ (a : Addr) (Ls : List Lw), vs = [.ref a] ∧ StrandAt H a Ls ∧ Ls.length ≤ 60 ∧ (∀ L ∈ Ls, GoodL L) ∧
  ∀ (H' : Hp) (o : Addr) (as : List Addr) (ys : List Int), Same H H' → H o = none → H' o = some (.tup (as.map V.ref)) → SegsAt H' as Ls (pairs ys) → Places Ls ys → Q (.ref o) H'
/-- what is written, one behind the other -/
def wrt (xs : List Int) (ws : List (Int × Int)) : List Int := ws.foldl (fun xs p => xs.set p.1.toNat p.2) xs
theorem wrt_snoc (xs : List Int) (ws : List (Int × Int)) (p : Int × Int) : wrt xs (ws ++ [p]) = (wrt xs ws).set p.1.toNat p.2 := by
  unfold wrt
  rw [List.foldl_append]
  rfl
theorem wrt_len (xs : List Int) (ws : List (Int × Int)) : (wrt xs ws).length = xs.length := by
  unfold wrt
  induction ws generalizing xs with
  | nil => rfl
  | cons p r ih =>
    show (List.foldl _ (xs.set p.1.toNat p.2) r).length = _
    rw [ih, List.length_set]
theorem wrt_one (x : Int) (ys pre : List Int) : ∀ (ts : List Int) (x : Int), wrt (pre ++ x :: ys) (ts.map fun t => ((pre.length : Int), t)) = pre ++ lastD ts x :: ys
  | [], x => rfl
  | t :: r, x => by
    show wrt ((pre ++ x :: ys).set ((pre.length : Int)).toNat t) (r.map fun t => ((pre.length : Int), t)) = _
    have e : (pre ++ x :: ys).set ((pre.length : Int)).toNat t = pre ++ t :: ys := by
      rw [Int.toNat_natCast, List.set_append_right _ _ (Nat.le_refl _), Nat.sub_self]
      rfl
    rw [e, wrt_one x ys pre r t]
    congr 2
    unfold lastD
    cases r with
    | nil => rfl
    | cons u s =>
      rw [List.getLast?_cons_cons]
      have hne : (u :: s).getLast? = some ((u :: s).getLast (by simp)) := List.getLast?_eq_some_getLast (by simp)
      rw [hne]
      rfl
theorem wrt_app (xs : List Int) (u v : List (Int × Int)) : wrt xs (u ++ v) = wrt (wrt xs u) v := by
  unfold wrt
  rw [List.foldl_append]
theorem wrt_all (k j : Int) : ∀ (Ls : List Lw) (pre : List Int) (n : Nat), pre.length = n → (∀ L ∈ Ls, thickL L k = lastD (wr k (partsOf L.le L.ps L.pl)) (thickL L j)) → wrt (pre ++ Ls.map fun L => thickL L j) (Wall k n Ls) = pre ++ Ls.map fun L => thickL L k
  | [], pre, n, _, _ => rfl
  | L :: r, pre, n, hn, h => by
    show wrt (pre ++ thickL L j :: r.map fun L => thickL L j) ((wr k (partsOf L.le L.ps L.pl)).map (fun t => ((n : Int), t)) ++ Wall k (n + 1) r) = pre ++ thickL L k :: r.map fun L => thickL L k
    rw [wrt_app, ← hn, wrt_one 0, ← h L (by simp)]
    have ih := wrt_all k j r (pre ++ [thickL L k]) (pre.length + 1) (by rw [List.length_append]; rfl) fun M hM => h M (by simp [hM])
    rw [List.append_assoc, List.append_assoc] at ih
    exact ih
theorem keys_nonneg {Ls : List Lw} (g : ∀ L ∈ Ls, GoodL L) {k : Int} (h : Keys Ls k) : 0 ≤ k := by
  rcases h with h | ⟨L, hL, y, hy, h⟩
  · omega
  · have gL := g L hL
    have hp : ∀ p ∈ L.ps, 1 ≤ p.2 := fun p hp => (gL.1.2.2 p hp).2.2.1
    rw [← parts_eq L.ps L.pl hp] at hy
    have h1 := law_mem L.ps L.pl hp y hy
    have h2 := gL.2.2.2.1
    omega
theorem places_step {Ls : List Lw} (g : ∀ L ∈ Ls, GoodL L) {ys : List Int} (hp : Places Ls ys) {j k : Int} (hjk : j < k) (hn : ∀ y ∈ ys, y ≤ j ∨ k ≤ y) : ∀ L ∈ Ls, thickL L k = lastD (wr k (partsOf L.le L.ps L.pl)) (thickL L j) := fun L hL =>
  thick_step (g L hL) hjk fun y hy => ⟨hn _ ((hp.2.1 _).mpr (.inr ⟨L, hL, y, hy, .inl rfl⟩)), hn _ ((hp.2.1 _).mpr (.inr ⟨L, hL, y, hy, .inr rfl⟩))⟩
theorem thick_ahead {L : Lw} (g : GoodL L) : thickL L (-1) = 0 := by
  unfold thickL
  have := g.2.2.2.1
  rw [if_pos (by omega)]
theorem places_zero {Ls : List Lw} (g : ∀ L ∈ Ls, GoodL L) {ys : List Int} (hp : Places Ls ys) : ∃ r, ys = 0 :: r := by
  cases ys with
  | nil => exact absurd ((hp.2.1 0).mpr (.inl rfl)) (by simp)
  | cons y r =>
    have h1 := keys_nonneg g ((hp.2.1 y).mp (by simp))
    rcases List.mem_cons.mp ((hp.2.1 0).mpr (.inl rfl)) with e | e
    · exact ⟨r, by rw [← e]⟩
    · have h2 := (List.pairwise_cons.mp hp.1).1 0 e
      omega
/-- the place ahead of the i-th -/
def prevOf (ys : List Int) (i : Nat) : Int := if i = 0 then -1 else ys.getD (i - 1) 0
theorem prev_lt {Ls : List Lw} (g : ∀ L ∈ Ls, GoodL L) {ys : List Int} (hp : Places Ls ys) {i : Nat} {k : Int} (hk : ys[i]? = some k) : prevOf ys i < k ∧ ∀ y ∈ ys, y ≤ prevOf ys i ∨ k ≤ y := by
  have hi : i < ys.length := (List.getElem?_eq_some_iff.mp hk).1
  have ek : ys[i] = k := (List.getElem?_eq_some_iff.mp hk).2
  have srt := List.pairwise_iff_getElem.mp hp.1
  unfold prevOf
  by_cases h0 : i = 0
  · subst h0
    rw [if_pos rfl]
    have h1 := keys_nonneg g ((hp.2.1 k).mp (List.mem_of_getElem? hk))
    refine ⟨by omega, fun y hy => ?_⟩
    obtain ⟨m, hm, rfl⟩ := List.getElem_of_mem hy
    by_cases hm0 : m = 0
    · subst hm0
      right
      omega
    · have := srt 0 m hi hm (by omega)
      right
      omega
  · rw [if_neg h0, List.getD_eq_getElem?_getD, List.getElem?_eq_getElem (show i - 1 < ys.length by omega)]
    have h1 := srt (i - 1) i (by omega) hi (by omega)
    refine ⟨by simp only [Option.getD_some]; omega, fun y hy => ?_⟩
    simp only [Option.getD_some]
    obtain ⟨m, hm, rfl⟩ := List.getElem_of_mem hy
    by_cases h2 : m ≤ i - 1
    · left
      by_cases h3 : m = i - 1
      · subst h3
        exact Int.le_refl _
      · have := srt m (i - 1) hm (by omega) (by omega)
        omega
    · right
      by_cases h3 : m = i
      · subst h3
        omega
      · have := srt i m hi hm (by omega)
        omega
theorem prev_succ {ys : List Int} {i : Nat} {k : Int} (hk : ys[i]? = some k) : prevOf ys (i + 1) = k := by
  unfold prevOf
  rw [if_neg (by omega), Nat.add_sub_cancel, List.getD_eq_getElem?_getD, hk]
  rfl
theorem pairs_take {ys : List Int} {i : Nat} {s e : Int} (h1 : ys[i]? = some s) (h2 : (ys.drop 1)[i]? = some e) : (pairs ys).take (i + 1) = (pairs ys).take i ++ [(s, e)] := by
  rw [List.take_add_one]
  have : (pairs ys)[i]? = some (s, e) := by
    rw [List.getElem?_zip_eq_some]
    exact ⟨h1, h2⟩
  rw [this]
  rfl
theorem wall_num (k : Int) : ∀ (Ls : List Lw) (n : Nat) (p : Int × Int), p ∈ Wall k n Ls → ∃ m : Nat, m < n + Ls.length ∧ p.1 = m
  | [], _, p, h => by cases h
  | L :: r, n, p, h => by
    have h : p ∈ (wr k (partsOf L.le L.ps L.pl)).map (fun t => ((n : Int), t)) ++ Wall k (n + 1) r := h
    rcases List.mem_append.mp h with h | h
    · obtain ⟨t, _, rfl⟩ := List.mem_map.mp h
      exact ⟨n, by rw [List.length_cons]; omega, rfl⟩
    · obtain ⟨m, hm, e⟩ := wall_num k r (n + 1) p h
      exact ⟨m, by rw [List.length_cons]; omega, e⟩
theorem ixN_at {n j : Nat} (h : j < n) : ixN n (j : Int) = some j := by
  unfold ixN
  rw [if_pos (Int.natCast_nonneg j), if_pos (Int.ofNat_lt.mpr h), Int.toNat_natCast]
/-! ### a pot of three numbers: the great number at hand, the seed, how many were drawn -/
def PotC (H : Hp) (p : Addr) (T : Nat) : Prop := ∃ (c m : Int) (t : Nat), H p = some (.lst [.int c, .int m, .int (t : Int)]) ∧ 0 ≤ c ∧ 0 ≤ m ∧ m < 2 ^ 62 ∧ t ≤ T
theorem PotC.mono {H : Hp} {p : Addr} {T U : Nat} (h : PotC H p T) (e : T ≤ U) : PotC H p U := by
  obtain ⟨c, m, t, h1, h2, h3, h4, h5⟩ := h
  exact ⟨c, m, t, h1, h2, h3, h4, Nat.le_trans h5 e⟩
theorem PotC.new {H : Hp} {p a : Addr} {T : Nat} {o : HO} (h : PotC H p T) (n : H a = none) : PotC (upd H a o) p T := by
  obtain ⟨c, m, t, h1, h2⟩ := h
  exact ⟨c, m, t, by rw [upd_ne (ne_of_none h1 n)]; exact h1, h2⟩
theorem PotC.other {H : Hp} {p a : Addr} {T : Nat} {o : HO} (h : PotC H p T) (n : a ≠ p) : PotC (upd H a o) p T := by
  obtain ⟨c, m, t, h1, h2⟩ := h
  exact ⟨c, m, t, by rw [upd_ne n.symm]; exact h1, h2⟩
theorem PotC.notP {H : Hp} {p a : Addr} {T : Nat} {xs : List V} (h : PotC H p T) (e : H a = some (.tup xs)) : a ≠ p := by
  obtain ⟨c, m, t, h1, h2⟩ := h
  exact ne_of e h1 (by intro z; cases z)
theorem PotC.fresh {H : Hp} {p a : Addr} {T : Nat} (h : PotC H p T) (e : H a = none) : a ≠ p := by
  obtain ⟨c, m, t, h1, h2⟩ := h
  exact (ne_of_none h1 e).symm
theorem PotC.same {H H' : Hp} {p : Addr} {T : Nat} (h : PotC H p T) (e : Same H H') : PotC H' p T := by
  obtain ⟨c, m, t, h1, h2⟩ := h
  exact ⟨c, m, t, e _ _ h1, h2⟩
theorem Keep.tupsC {p : Addr} {H H' : Hp} {T : Nat} (k : Keep p p H H') (h : PotC H p T) : Tups H H' := fun a xs e => k a _ (h.notP e) (h.notP e) e
theorem Keep.freeC {p a : Addr} {H H' : Hp} {T : Nat} (k : Keep p p H H') (hp : PotC H' p T) (h : H' a = none) : H a = none := by
  have n := hp.fresh h
  cases q : H a with
  | none => rfl
  | some o =>
    rw [k a o n n q] at h
    cases h
theorem Keep.at {p a : Addr} {H H' : Hp} {o : HO} (k : Keep p p H H') (n : a ≠ p) (e : H a = some o) : H' a = some o := k a o n n e
def spBeginC (K : PySem.W.Frag) : Sp := fun vs H Q _ => ∃ (a : Addr) (ns : List Int) (i : Int), vs = [.ref a, .int i] ∧ SqL K H a (ns.map V.int) ∧ ns.length ≤ 63 ∧ 0 ≤ i ∧ i < 1000 ∧
  ∀ H' p, Same H H' → H p = none → PotC H' p 0 → Q (.ref p) H'
def spTakeC : Sp := fun vs H Q _ => ∃ (p : Addr) (T : Nat) (many : Int), vs = [.ref p, .int many] ∧ PotC H p T ∧ T < 2 ^ 40 ∧ CDivW 0 many ∧
  ∀ d H', 0 ≤ d → d < many → PotC H' p (T + 1) → Keep p p H H' → Q (.int d) H'
theorem wdiv {b : Int} (h : 0 < b) (h1 : b < 2 ^ 250) : CDivW 0 b := wide_div (b := 250) h (by
  have : (b.natAbs : Int) = b := by omega
  have h2 : (b.natAbs : Int) < ((2 ^ 250 : Nat) : Int) := by rw [this]; exact h1
  exact Int.ofNat_lt.mp h2) (by decide) (by decide)
theorem wmul {i j : Int} (h0 : 0 ≤ i) (h1 : i < 2 ^ 250) (h2 : 0 ≤ j) (h3 : j < 2 ^ 250) : CMulW i j := by
  refine wide_mul (a := 250) (b := 250) ?_ ?_ (by decide) (by decide) (by decide)
  · have e : (i.natAbs : Int) = i := by omega
    have h : (i.natAbs : Int) < ((2 ^ 250 : Nat) : Int) := by rw [e]; exact h1
    exact Int.ofNat_lt.mp h
  · have e : (j.natAbs : Int) = j := by omega
    have h : (j.natAbs : Int) < ((2 ^ 250 : Nat) : Int) := by rw [e]; exact h3
    exact Int.ofNat_lt.mp h
theorem Keep.from {p : Addr} {H H1 H2 : Hp} (k : Keep p p H1 H2) (s : Same H H1) (np : H p = none) : Same H H2 := fun b o e => k b o (ne_of_none e np) (ne_of_none e np) (s b o e)
theorem pairD {K : PySem.W.Frag} {H : Hp} {a : Addr} {i j : Int} (h : H a = some (.tup [.int i, .int j])) : Dp K H (.ref a) (.tuple [.int i, .int j]) := .tup (SqT.of h) (.cons (.int _) (.cons (.int _) .nil))
/-! ### sum of a tuple, list(range(n)) -/
section
variable {X : Cx}
theorem tup_total {prog : Program} {w : World} {A : Around} {E : Value → Shared → Prop} {s : Shared} {l : Addr} {xs : Array (Int × Tok)} {Q : Value → Shared → Prop} (hh : A.handled = none) (hl : s.heap.IsTuple l (intItems xs))
    (h : ∀ h' tk t', (∀ b o, s.heap.get? b = some o → h'.get? b = some o) → Q (.int (preSum (numAt xs) xs.size) t') { s with heap := h', toks := tk }) : wpAny (model prog w) A (call (.builtin "sum") [.ref l]) Q E s := by
  have lt : l < s.heap.objs.size := by
    obtain ⟨o, e, _⟩ := hl
    exact Heap.lt_size e
  have nn : (s.heap.push { cls := .type "tuple_iterator", data := .fields #[.ref l, .int 0 0] }).objs.size = s.heap.objs.size + 1 := Heap.size_push _ _
  refine call_sum_walkG (wpAny_pyIter_tuple hl ⟨_, _, _, _, _, _, numAt xs, rfl, Walks.tuple (A := A.in1) hh _ l (Nat.ne_of_lt lt) (intItems xs), ⟨⟨_, Heap.get?_push_size _ rfl, rfl, rfl⟩, ?_⟩, fun b hb => ?_, (fun _ _ => intItems_at), fun h' tk t' hk => ?_⟩)
  · obtain ⟨o, e, r⟩ := hl
    exact ⟨o, Heap.get?_push_of_some _ e, r⟩
  · show b < (s.heap.push { cls := .type "tuple_iterator", data := .fields #[.ref l, .int 0 0] }).objs.size
    rw [nn]
    simp only [List.mem_cons, List.not_mem_nil, or_false] at hb
    rcases hb with rfl | rfl
    · exact Nat.lt_succ_self _
    · exact Nat.lt_succ_of_lt lt
  · have z := h h' tk t' fun b o e => hk b o (fun hm => by
      simp only [List.mem_cons, List.not_mem_nil, or_false] at hm
      rw [hm] at e
      exact absurd (Heap.lt_size e) (Nat.lt_irrefl _)) (Heap.get?_push_of_some _ e)
    simpa [intItems] using z
theorem cr_sumT (hc : X.calm = true) : CallR X (.builtin "sum") (fun vs H Q => ∃ (a : Addr) (ns : List Int), vs = [V.ref a] ∧ SqT X.K H a (ns.map V.int) ∧ Q (.int ns.sum) H) := by
  intro pins s σ H vs us Q I r h
  obtain ⟨a, ns, rfl, hs, q⟩ := h
  obtain ⟨its, rv, hl, _⟩ := I.tuple hs
  rw [Vals.ref1 r]
  obtain ⟨xs, e⟩ := rv.ints.allInts.items
  have hn : numsOf (intItems xs).toList = ns := by rw [← e]; exact rv.ints.numsOf
  rw [nums_intItems] at hn
  rw [e] at hl
  refine tup_total (I.ok.hd hc) hl fun h' tk t' hk => ?_
  rw [preSum_eq, List.take_of_length_le (by simp), hn]
  exact ⟨.int _, H, I.kept hk, ⟨_, rfl⟩, q⟩
theorem cr_rangeN : CallR X (.type "range") (fun vs H Q => ∃ j, vs = [V.int j] ∧ ∀ p, H p = none → Q (.ref p) (upd H p (.rng 0 j))) := by
  intro pins s σ H vs us Q I r h
  obtain ⟨j, rfl, q⟩ := h
  obtain ⟨u, rfl, ⟨t, rfl⟩⟩ := vals1 r
  refine call_range_1 ⟨.ref s.heap.objs.size, upd H s.heap.objs.size (.rng 0 j), I.laid (t' := s.toks + 1 + 1) (fun b o e => Heap.get?_push_of_some _ e) (Nat.le_refl _) ?_, rfl, q _ (I.hok.fresh (Nat.le_refl _))⟩
  exact ⟨s.toks, t, s.toks + 1, Heap.get?_push_size _ rfl⟩
def upTo (n : Nat) : List Int := (List.range n).map fun (i : Nat) => (i : Int)
theorem vals_upTo : ∀ (n : Nat) (vs : List Value), vs.length = n → (∀ (j : Nat) (v : Value), vs[j]? = some v → ∃ t, v = .int ((j : Nat) : Int) t) → Vals ((upTo n).map V.int) vs := by
  intro n
  induction n with
  | zero =>
    intro vs hl _
    cases vs with
    | nil => exact .nil
    | cons x r => cases hl
  | succ n ih =>
    intro vs hl hv
    have hne : vs ≠ [] := fun e => by rw [e] at hl; cases hl
    have e := List.dropLast_concat_getLast hne
    have h1 := ih vs.dropLast (by rw [List.length_dropLast, hl]; rfl) (fun j v hj => hv j v (by
      rw [← e]
      rw [List.getElem?_append_left (List.getElem?_eq_some_iff.mp hj).1]
      exact hj))
    obtain ⟨t, et⟩ := hv n (vs.getLast hne) (by
      rw [List.getLast_eq_getElem]
      have : vs.length - 1 = n := by omega
      simp only [this]
      exact List.getElem?_eq_getElem (by omega))
    have e2 : upTo (n + 1) = upTo n ++ [(n : Int)] := by
      unfold upTo
      rw [List.range_succ, List.map_append]
      rfl
    rw [e2, List.map_append, ← e]
    exact Vals.append h1 (.cons ⟨t, et⟩ .nil)
theorem call_listR (hc : X.calm = true) : CallR X (.type "list") (fun vs H Q => ∃ (r : Addr) (n : Nat), vs = [.ref r] ∧ H r = some (.rng 0 (n : Int)) ∧ n ≤ 1000 ∧ ∀ l, H l = none → Q (.ref l) (upd H l (.lst ((upTo n).map V.int)))) := by
  intro pins s σ H xs us Q I r h
  obtain ⟨p, n, rfl, hp, hn, q⟩ := h
  obtain ⟨u, rfl, rx⟩ := vals1 r
  cases rx
  obtain ⟨t1, t2, t3, ho⟩ := I.hok p _ hp
  have hsz : Builtin.Range.rangeSize 0 (n : Int) 1 = (n : Int) := by
    rw [rangeSize_one]
    split <;> omega
  refine call_list_range (n := n) (I.ok.hd hc) ho ?_ hsz (by omega) fun h' tk acc' c' hk hS hacc => ?_
  · exact small_one (by decide) (by decide) (by omega) (by omega)
  · have hv : Vals ((upTo n).map V.int) acc'.toList := vals_upTo n acc'.toList (by rw [Array.length_toList]; exact hacc.1) fun j v hj => by
      obtain ⟨t, e⟩ := hacc.2 j v (by rw [← Array.getElem?_toList]; exact hj)
      exact ⟨t, by rw [e]; simp⟩
    refine ⟨.ref s.heap.objs.size, _, I.laid (t' := tk) hk (Nat.le_refl _) (show ObjOk X.prog X.w _ h' _ (.lst ((upTo n).map V.int)) from ⟨?_, acc'.toList, c', hv, by simpa using hS⟩), rfl, q _ (I.hok.fresh (Nat.le_refl _))⟩
    show ((upTo n).map V.int).length ≤ sizeLine
    unfold upTo
    rw [List.length_map, List.length_map, List.length_range]
    exact Nat.le_trans hn (by decide)
end
theorem dpInts {K : PySem.W.Frag} (H : Hp) : ∀ ns : List Int, DpAll K H (ns.map V.int) (ns.map PyData.int)
  | [] => .nil
  | n :: r => .cons (.int n) (dpInts H r)
theorem shInts (ns : List Int) : SeqAt.shaped (.list (ns.map PyData.int)) = true := by
  have h1 : PyData.canLayAll0 (ns.map PyData.int) = true := by
    induction ns with
    | nil => rfl
    | cons n r ih => exact (Bool.and_eq_true_iff.mpr ⟨rfl, ih⟩)
  have h2 : PyData.depthAll (ns.map PyData.int) = 0 := by
    clear h1
    induction ns with
    | nil => rfl
    | cons n r ih =>
      show max 0 (PyData.depthAll (r.map PyData.int)) = 0
      rw [ih]
      rfl
  refine Bool.and_eq_true_iff.mpr ⟨h1, decide_eq_true ?_⟩
  show PyData.depthAll (ns.map PyData.int) + 1 ≤ 64
  rw [h2]
  decide
/-! ### t += u of tuples; defs with defaults -/
theorem noI_tup : typeLookup (.type "tuple") (dunderI "add") = pure none := by
  rw [typeLookup_type, builtinLookup_eq_fast]
  kernel_rfl
section
variable {X : Cx}
theorem ip_catA : PIp X .Add (rCatA X.K) := by
  intro pins s σ H x y v u Q I rx ry h
  obtain ⟨a, b, xs, ys, rfl, rfl, ha, hb, hz, q0, q1, q2⟩ := h
  cases rx
  cases ry
  obtain ⟨vs, r1, p1, _⟩ := I.tuple ha
  obtain ⟨ws, r2, p2, _⟩ := I.tuple hb
  have hzz : vs.length + ws.length ≤ sizeLine := by rw [← r1.length, ← r2.length]; exact hz
  have e : vs.toArray ++ ws.toArray = (vs ++ ws).toArray := by simp
  obtain ⟨⟨cls, dd, data, sl⟩, ho, hc, n, hd⟩ := id p1
  obtain ⟨⟨cls2, dd2, data2, sl2⟩, ho2, hc2, n2, hd2⟩ := id p2
  simp only at hc hd hc2 hd2
  subst hc hd hc2 hd2
  have go : ∀ {S : PySem.Spec}, Meets (Builtin.«tuple.__add__» ⟨[.ref a, .ref b], []⟩) S → S X.A (wants (EP X pins σ Q) X.xe) s → wpAny (model X.prog X.w) X.A (inplaceOp .Add (.ref a) (.ref b)) (EP X pins σ Q) X.xe s := fun g hS =>
    wpAny_inplaceOp_concat ⟨_, ho, rfl⟩ ⟨_, ho2, rfl⟩ noI_tup noFill_tuple_add seq_tuple_add (call_meets PySem.F.slot_tuple_add ⟨_, ho, rfl⟩ PySem.F.entry_tuple_add (PySem.F.args_tuple_add_2 _ _) g hS)
  by_cases hx : vs = []
  · subst hx
    exact go (tuple_addW0 a b ([] : List Value).toArray ws.toArray n n2 dd dd2 sl sl2 (by simp)) ⟨ho, ho2, .ref b, H, I, rfl, q0 (r1.nil_iff.mp rfl)⟩
  · by_cases hy : ws = []
    · exact go (tuple_addW1 a b vs.toArray ws.toArray n n2 dd dd2 sl sl2 (by simpa using hx) (by simp [hy])) ⟨ho, ho2, .ref a, H, I, rfl, q1 (fun z => hx (r1.nil_iff.mpr z)) (r2.nil_iff.mp hy)⟩
    · refine go (tuple_addW2 a b vs.toArray ws.toArray n n2 dd dd2 sl sl2 (by simpa using hx) (by simpa using hy) (by rw [List.size_toArray, List.size_toArray]; exact hzz)) ⟨ho, ho2, ?_⟩
      rw [e]
      refine ⟨.ref s.heap.objs.size, _, I.laid (t' := s.toks) (o := .tup (xs ++ ys)) (fun b ob q => Heap.get?_push_of_some _ q) (Nat.le_refl _) ⟨by rw [List.length_append]; exact hz, _, r1.append r2, IsTup.new _ _⟩, rfl, q2 (fun z => hx (r1.nil_iff.mpr z)) (fun z => hy (r2.nil_iff.mpr z)) _ (I.hok.fresh (Nat.le_refl _))⟩
end
def BD (K : PySem.W.Frag) (fd : FuncData) (ps : List Str) (dvs : List V) : Prop := ∃ ds, Vals dvs ds ∧ Binds K fd ps ds
theorem okD {P : Program} {w : World} {K : PySem.W.Frag} {mg : Str → Option Value} {base : Heap} {x qual : Str} {params : Arguments} {body : List Stmt} {scope : Scope} {dvs : List V} {kws : List (Str × V)} {f : Addr} {fd : FuncData} {N ps : List Str} {k : Nat} {sp : Sp}
    (F : FunD K x qual params body scope dvs kws f fd) (S : FnScope N ps scope) (ln : ∀ vs H Q E, sp vs H Q E → vs.length = ps.length)
    (hb : ∀ (cdv : Value) (A : Around) (outer : List Env) (s : Shared) (H : Hp) (vs : List V) (Q : VK) (E : XK), Room k (A.deeper (envOfC qual scope s.heap.objs.size f cdv)) → sp vs H Q E →
      ∃ t, PSs (cxOf CX0 P w K mg base N qual scope f cdv A outer s H E).nox body t ∧ t { nx := fun _ H' => Q .non H', rt := Q } (start N vs) H) : FnOk P w K mg base CX0 (k + 1) f fd ps sp :=
  F.ok S ln fun cdv A outer s H vs Q E hr h => by
    obtain ⟨t, h1, h2⟩ := hb cdv A outer s H vs Q E hr h
    exact ⟨t, h1.nox, h2⟩
/-! ### the first place that is thinner than low -/
def IsFirst (Ls : List Lw) (low now m : Int) : Prop := now ≤ m ∧ thickS Ls m < low ∧ ∀ p, now ≤ p → p < m → low ≤ thickS Ls p
theorem first_eq {Ls : List Lw} {low now m n : Int} (h1 : IsFirst Ls low now m) (h2 : IsFirst Ls low now n) : m = n := by
  obtain ⟨a1, a2, a3⟩ := h1
  obtain ⟨b1, b2, b3⟩ := h2
  rcases Int.lt_trichotomy m n with h | h | h
  · have := b3 m a1 h
    omega
  · exact h
  · have := a3 n b1 h
    omega
theorem thick_nonneg : ∀ (ps : List (Int × Int)) (k : Int), (∀ p ∈ ps, 0 ≤ p.1) → 0 ≤ thickAt ps k
  | [], _, _ => Int.le_refl _
  | (t, g) :: r, k, h => by
    show 0 ≤ if k < g then t else thickAt r (k - g)
    split
    · exact h (t, g) (by simp)
    · exact thick_nonneg r _ fun p hp => h p (by simp [hp])
theorem thick_over {L : Lw} (g : GoodL L) {p : Int} (h : lastOf L ≤ p) : thickL L p = 0 := by
  have h1 := thick_runs g p
  have h2 : 0 ≤ thickL L p := by
    unfold thickL
    split
    · exact Int.le_refl _
    · cases L.le with
      | none => exact thick_nonneg _ _ fun q hq => Int.le_trans (by decide) (g.1.2.2 q hq).1
      | some n =>
        show 0 ≤ if n ≤ p then 0 else _
        split
        · exact Int.le_refl _
        · exact thick_nonneg _ _ fun q hq => Int.le_trans (by decide) (g.1.2.2 q hq).1
  have h3 : ¬ 0 < thickL L p := fun z => by
    have := h1.mp z
    omega
  omega
theorem thickS_over {Ls : List Lw} (g : ∀ L ∈ Ls, GoodL L) {p : Int} (h : ∀ L ∈ Ls, lastOf L ≤ p) : thickS Ls p = 0 := by
  unfold thickS
  induction Ls with
  | nil => rfl
  | cons L r ih =>
    rw [List.map_cons, List.sum_cons, thick_over (g L (by simp)) (h L (by simp)), ih (fun M hM => g M (by simp [hM])) (fun M hM => h M (by simp [hM]))]
    rfl
theorem thickS_congr {Ls : List Lw} {p q : Int} (h : ∀ L ∈ Ls, thickL L p = thickL L q) : thickS Ls p = thickS Ls q := by
  unfold thickS
  rw [List.map_congr_left h]
theorem wr_not {k : Int} {qs : List (Int × Int × Int)} (h : ∀ y ∈ qs, y.1 ≠ k ∧ y.2.1 ≠ k) : wr k qs = [] := by
  cases hw : wr k qs with
  | nil => rfl
  | cons t r =>
    obtain ⟨y, hy, e⟩ := wr_ne (k := k) (qs := qs) (by rw [hw]; simp)
    have := h y hy
    rcases e with e | e
    · exact absurd e this.1
    · exact absurd e this.2
/-- where nothing begins or ends behind s, up to p, it is as at s -/
theorem thick_still {L : Lw} (g : GoodL L) {s p : Int} (hsp : s ≤ p) (hn : ∀ y ∈ partsOf L.le L.ps L.pl, (y.1 ≤ s ∨ p < y.1) ∧ (y.2.1 ≤ s ∨ p < y.2.1)) : thickL L p = thickL L s := by
  by_cases e : s = p
  · rw [e]
  · have h1 := thick_step g (j := s) (k := p) (by omega) fun y hy => ⟨(hn y hy).1.imp id Int.le_of_lt, (hn y hy).2.imp id Int.le_of_lt⟩
    rw [h1, wr_not fun y hy => ⟨fun z => by have := (hn y hy).1; omega, fun z => by have := (hn y hy).2; omega⟩]
    rfl
theorem pairs_get {ys : List Int} {i : Nat} {s e : Int} (h : (pairs ys)[i]? = some (s, e)) : ys[i]? = some s ∧ ys[i + 1]? = some e := by
  rw [List.getElem?_zip_eq_some] at h
  refine ⟨h.1, ?_⟩
  have := h.2
  rw [List.getElem?_drop] at this
  rw [Nat.add_comm]
  exact this
theorem places_still {Ls : List Lw} (g : ∀ L ∈ Ls, GoodL L) {ys : List Int} (hp : Places Ls ys) {i : Nat} {s e p : Int} (h : (pairs ys)[i]? = some (s, e)) (h1 : s ≤ p) (h2 : p < e) : thickS Ls p = thickS Ls s := by
  obtain ⟨e1, e2⟩ := pairs_get h
  obtain ⟨i1, g1⟩ := List.getElem?_eq_some_iff.mp e1
  obtain ⟨i2, g2⟩ := List.getElem?_eq_some_iff.mp e2
  have srt := List.pairwise_iff_getElem.mp hp.1
  have ok : ∀ y, Keys Ls y → y ≤ s ∨ p < y := fun y hy => by
    obtain ⟨m, hm, rfl⟩ := List.getElem_of_mem ((hp.2.1 y).mpr hy)
    by_cases hmi : m ≤ i
    · left
      by_cases hm2 : m = i
      · subst hm2
        omega
      · have := srt m i hm i1 (by omega)
        omega
    · right
      by_cases hm2 : m = i + 1
      · subst hm2
        omega
      · have := srt (i + 1) m i2 hm (by omega)
        omega
  exact thickS_congr fun L hL => thick_still (g L hL) h1 fun y hy => ⟨ok _ (.inr ⟨L, hL, y, hy, .inl rfl⟩), ok _ (.inr ⟨L, hL, y, hy, .inr rfl⟩)⟩
theorem end_key {Ls : List Lw} (g : ∀ L ∈ Ls, GoodL L) {m : Int} (h : IsEnd Ls m) : Keys Ls m := by
  cases hL : Ls with
  | nil => exact .inl (h.1 hL)
  | cons M r =>
    obtain ⟨L, hm, e⟩ := h.2.1 (by rw [hL]; simp)
    have gL := g L hm
    have hp : ∀ p ∈ L.ps, 1 ≤ p.2 := fun p hp => (gL.1.2.2 p hp).2.2.1
    obtain ⟨y, hy, ey⟩ := parts_has (le := L.le) L.ps L.pl hp (last_gt gL)
    rw [← hL]
    exact .inr ⟨L, hm, y, hy, .inr (by rw [ey, e]; rfl)⟩
theorem key_le {ys : List Int} (h : ys.Pairwise (· < ·)) {k : Int} (hk : k ∈ ys) {i : Nat} {e : Int} (he : ys[i]? = some e) (hi : i + 1 = ys.length) : k ≤ e := by
  obtain ⟨i1, g1⟩ := List.getElem?_eq_some_iff.mp he
  obtain ⟨m, hm, rfl⟩ := List.getElem_of_mem hk
  by_cases hmi : m = i
  · subst hmi
    omega
  · have := List.pairwise_iff_getElem.mp h m i hm i1 (by omega)
    omega
def spLasts : Sp := fun vs H Q _ => ∃ (a : Addr) (Ls : List Lw) (low now : Int), vs = [.ref a, .int low, .int now] ∧ StrandAt H a Ls ∧ Ls.length ≤ 60 ∧ (∀ L ∈ Ls, GoodL L) ∧ 1 ≤ low ∧ 0 ≤ now ∧ ∀ H' m, Same H H' → IsFirst Ls low now m → Q (.int m) H'
/-! ### rows drawn late -/
abbrev Wi := Int × List (Int × Int)
def RowAt (H : Hp) (as : List Addr) (Ws : List Wi) : Prop := as.length = Ws.length ∧ ∀ (i : Nat) (a : Addr), as[i]? = some a → ∃ W, Ws[i]? = some W ∧ WispAt H a W.1 W.2
theorem RowAt.mono {H H' : Hp} {as : List Addr} {Ws : List Wi} (h : RowAt H as Ws) (t : Tups H H') : RowAt H' as Ws := ⟨h.1, fun i a e => by
  obtain ⟨W, h1, h2⟩ := h.2 i a e
  exact ⟨W, h1, h2.mono t⟩⟩
theorem RowAt.take {H : Hp} {as : List Addr} {Ws : List Wi} (h : RowAt H as Ws) (n : Nat) : RowAt H (as.take n) (Ws.take n) := by
  refine ⟨by rw [List.length_take, List.length_take, h.1], fun i a e => ?_⟩
  rw [List.getElem?_take] at e
  split at e
  · next hi =>
    obtain ⟨W, h1, h2⟩ := h.2 i a e
    exact ⟨W, by rw [List.getElem?_take, if_pos hi]; exact h1, h2⟩
  · cases e
def GoodW (W : Wi) : Prop := Good W.2 ∧ 0 ≤ W.1 ∧ W.1 ≤ 1 ∧ longs W.2 < 2 ^ 110
def laidOf (W : Wi) (m : Int) : Lw := ⟨W.1, W.2, m, none⟩
def laidAll : List Wi → List Int → List Lw
  | W :: r, m :: s => laidOf W m :: laidAll r s
  | _, _ => []
theorem laidAll_len : ∀ (Ws : List Wi) (ms : List Int), Ws.length = ms.length → (laidAll Ws ms).length = Ws.length
  | [], [], _ => rfl
  | W :: r, m :: s, h => congrArg (· + 1) (laidAll_len r s (Nat.succ.inj h))
  | [], _ :: _, h => by cases h
  | _ :: _, [], h => by cases h
theorem laidAll_get : ∀ {Ws : List Wi} {ms : List Int} {i : Nat} {W : Wi} {m : Int}, Ws[i]? = some W → ms[i]? = some m → (laidAll Ws ms)[i]? = some (laidOf W m)
  | W :: r, m :: s, 0, _, _, h1, h2 => by
    cases h1
    cases h2
    rfl
  | W :: r, m :: s, i + 1, _, _, h1, h2 => laidAll_get (Ws := r) (ms := s) (i := i) h1 h2
  | [], _, i, _, _, h1, _ => by simp at h1
  | _ :: _, [], i, _, _, _, h2 => by simp at h2
theorem laidAll_mem : ∀ {Ws : List Wi} {ms : List Int} {L : Lw}, L ∈ laidAll Ws ms → ∃ W ∈ Ws, ∃ m ∈ ms, L = laidOf W m
  | W :: r, m :: s, L, h => by
    rcases List.mem_cons.mp h with rfl | h
    · exact ⟨W, by simp, m, by simp, rfl⟩
    · obtain ⟨V, hV, n, hn, e⟩ := laidAll_mem (Ws := r) (ms := s) h
      exact ⟨V, by simp [hV], n, by simp [hn], e⟩
  | [], _, L, h => by simp [laidAll] at h
  | _ :: _, [], L, h => by simp [laidAll] at h
theorem good_laid {W : Wi} {m : Int} (g : GoodW W) (h0 : 0 ≤ m) (h1 : m < 2 ^ 130) : GoodL (laidOf W m) := ⟨g.1, g.2.1, g.2.2.1, h0, h1, fun n e => by cases e⟩
theorem last_laid (W : Wi) (m : Int) : lastOf (laidOf W m) = m + longs W.2 := rfl
theorem first_le {Ls : List Lw} (g : ∀ L ∈ Ls, GoodL L) {low now m B : Int} (h : IsFirst Ls low now m) (l1 : 1 ≤ low) (hn : now ≤ B) (hB : ∀ L ∈ Ls, lastOf L ≤ B) : m ≤ B := by
  rcases Int.lt_or_le B m with hb | hb
  · have h1 := h.2.2 B hn hb
    rw [thickS_over g hB] at h1
    omega
  · exact hb
/-- each next one at the first place that is too thin without it -/
def LateP (Ls : List Lw) (Ws : List Wi) (low now : Int) (ms : List Int) : Prop := ms.length = Ws.length ∧ ∀ (i : Nat) (m : Int), ms[i]? = some m → IsFirst (Ls ++ laidAll (Ws.take i) (ms.take i)) low now m
theorem late_eq {Ls : List Lw} {Ws : List Wi} {low now : Int} {ms ns : List Int} (h1 : LateP Ls Ws low now ms) (h2 : LateP Ls Ws low now ns) : ms = ns := by
  have key : ∀ i, ms.take i = ns.take i := by
    intro i
    induction i with
    | zero => rfl
    | succ i ih =>
      rw [List.take_add_one, List.take_add_one, ih]
      congr 1
      by_cases hi : i < ms.length
      · have hi2 : i < ns.length := by rw [h2.1, ← h1.1]; exact hi
        have e1 : ms[i]? = some ms[i] := List.getElem?_eq_getElem hi
        have e2 : ns[i]? = some ns[i] := List.getElem?_eq_getElem hi2
        have f1 := h1.2 i _ e1
        have f2 := h2.2 i _ e2
        rw [ih] at f1
        rw [e1, e2, first_eq f1 f2]
      · rw [List.getElem?_eq_none (by omega), List.getElem?_eq_none (by rw [h2.1, ← h1.1]; omega)]
  have := key ms.length
  rw [List.take_length, List.take_of_length_le (by rw [h1.1, h2.1]; exact Nat.le_refl _)] at this
  exact this
def spLaidOut : Sp := fun vs H Q _ => ∃ (a b : Addr) (as : List Addr) (Ws : List Wi) (ms : List Int), vs = [.ref a, .ref b] ∧ H a = some (.tup (as.map V.ref)) ∧ RowAt H as Ws ∧ H b = some (.tup (ms.map V.int)) ∧ Ws.length = ms.length ∧ Ws.length ≤ 60 ∧
  ∀ H' o, Same H H' → H o = none → StrandAt H' o (laidAll Ws ms) → Q (.ref o) H'
def SX (H : Hp) (x : V) (Ls : List Lw) : Prop := (x = .non ∧ Ls = []) ∨ ∃ c, x = .ref c ∧ StrandAt H c Ls
theorem SX.mono {H H' : Hp} {x : V} {Ls : List Lw} (h : SX H x Ls) (t : Tups H H') : SX H' x Ls := by
  rcases h with h | ⟨c, h1, h2⟩
  · exact .inl h
  · exact .inr ⟨c, h1, h2.mono t⟩
def spStrandWith : Sp := fun vs H Q _ => ∃ (a b : Addr) (x : V) (as : List Addr) (Ws : List Wi) (ms : List Int) (Ls : List Lw), vs = [.ref a, .ref b, x] ∧ H a = some (.tup (as.map V.ref)) ∧ RowAt H as Ws ∧ H b = some (.tup (ms.map V.int)) ∧ Ws.length = ms.length ∧ SX H x Ls ∧ Ls.length + Ws.length ≤ 60 ∧
  ∀ H' o, Same H H' → StrandAt H' o (Ls ++ laidAll Ws ms) → Q (.ref o) H'
/-- what a row is drawn from -/
structure From (Ls : List Lw) (Ws : List Wi) (low now : Int) : Prop where
  few : Ls.length + Ws.length ≤ 60
  gl : ∀ L ∈ Ls, GoodL L
  gw : ∀ W ∈ Ws, GoodW W
  l1 : 1 ≤ low
  n0 : 0 ≤ now
  n1 : now ≤ 2 ^ 115
  b : ∀ L ∈ Ls, lastOf L ≤ 2 ^ 115
def spDrawn : Sp := fun vs H Q _ => ∃ (a : Addr) (x : V) (low now : Int) (as : List Addr) (Ws : List Wi) (Ls : List Lw), vs = [.ref a, .int low, x, .int now] ∧ H a = some (.tup (as.map V.ref)) ∧ RowAt H as Ws ∧ SX H x Ls ∧ From Ls Ws low now ∧
  ∀ H' o ms, Same H H' → H' o = some (.tup (ms.map V.int)) → LateP Ls Ws low now ms → (∀ m ∈ ms, 0 ≤ m ∧ m < 2 ^ 125) → Q (.ref o) H'
def spLasting : Sp := fun vs H Q _ => ∃ (a : Addr) (x : V) (low now : Int) (as : List Addr) (Ws : List Wi) (Ls : List Lw), vs = [.ref a, .int low, x, .int now] ∧ H a = some (.tup (as.map V.ref)) ∧ RowAt H as Ws ∧ SX H x Ls ∧ From Ls Ws low now ∧
  ∀ H' ms m, Same H H' → LateP Ls Ws low now ms → IsFirst (Ls ++ laidAll Ws ms) low now m → Q (.int m) H'
/-- the places so far, their bound -/
def SoFar (Ls : List Lw) (Ws : List Wi) (low now : Int) (i : Nat) (ms : List Int) : Prop := ms.length = i ∧ (∀ (j : Nat) (m : Int), ms[j]? = some m → IsFirst (Ls ++ laidAll (Ws.take j) (ms.take j)) low now m) ∧ ∀ m ∈ ms, 0 ≤ m ∧ m ≤ 2 ^ 115 + (i : Int) * 2 ^ 110
theorem so_far_good {Ls : List Lw} {Ws : List Wi} {low now : Int} (F : From Ls Ws low now) {i : Nat} {ms : List Int} (h : SoFar Ls Ws low now i ms) (hi : i ≤ Ws.length) :
    (∀ L ∈ Ls ++ laidAll (Ws.take i) ms, GoodL L) ∧ (Ls ++ laidAll (Ws.take i) ms).length ≤ 60 ∧ ∀ L ∈ Ls ++ laidAll (Ws.take i) ms, lastOf L ≤ 2 ^ 115 + ((i + 1 : Nat) : Int) * 2 ^ 110 := by
  have hi60 : (i : Int) ≤ 60 := by
    have := F.few
    omega
  have e1 : ((i + 1 : Nat) : Int) * 2 ^ 110 = (i : Int) * 2 ^ 110 + 2 ^ 110 := by
    rw [Int.natCast_add, Int.add_mul]
    rfl
  have e2 : (i : Int) * 2 ^ 110 ≤ 60 * 2 ^ 110 := Int.mul_le_mul_of_nonneg_right hi60 (by decide)
  have e3 : 0 ≤ (i : Int) * 2 ^ 110 := Int.mul_nonneg (by omega) (by decide)
  refine ⟨fun L hL => ?_, ?_, fun L hL => ?_⟩
  · rcases List.mem_append.mp hL with hL | hL
    · exact F.gl L hL
    · obtain ⟨W, hW, m, hm, rfl⟩ := laidAll_mem hL
      have := h.2.2 m hm
      exact good_laid (F.gw W (List.mem_of_mem_take hW)) this.1 (by omega)
  · rw [List.length_append, laidAll_len _ _ (by rw [List.length_take, h.1]; omega), List.length_take]
    have := F.few
    omega
  · rcases List.mem_append.mp hL with hL | hL
    · have := F.b L hL
      omega
    · obtain ⟨W, hW, m, hm, rfl⟩ := laidAll_mem hL
      have h1 := h.2.2 m hm
      have h2 := (F.gw W (List.mem_of_mem_take hW)).2.2.2
      rw [last_laid]
      omega
/-! ### what the law draws -/
def spOfB : Sp := fun vs H Q _ => ∃ (p : Addr) (T : Nat) (a : Addr) (xs : List V), vs = [.ref p, .ref a] ∧ PotC H p T ∧ T < 2 ^ 39 ∧ H a = some (.lst xs) ∧ a ≠ p ∧ 1 ≤ xs.length ∧ xs.length ≤ 1000 ∧
  ∀ H' (j : Nat) x, xs[j]? = some x → PotC H' p (T + 1) → Keep p p H H' → Q x H'
def spDWisp : Sp := fun vs H Q _ => ∃ (p : Addr) (T : Nat) (sty : Int), vs = [.ref p, .int sty] ∧ PotC H p T ∧ T < 2 ^ 37 ∧ 0 ≤ sty ∧ sty < 3 ∧
  ∀ H' a W, WispAt H' a W.1 W.2 → GoodW W → H a = none → PotC H' p (T + 100) → Keep p p H H' → Q (.ref a) H'
def spLeast : Sp := fun vs H Q _ => ∃ (p : Addr) (T : Nat) (sty : Int), vs = [.ref p, .int sty] ∧ PotC H p T ∧ T < 2 ^ 37 ∧ ∀ H' n, 1 ≤ n → n < 2 ^ 140 → PotC H' p (T + 2) → Keep p p H H' → Q (.int n) H'
def spStrongB : Sp := fun vs H Q _ => ∃ (a : Addr) (s : Int) (ps : List (Int × Int)) (k : Int), vs = [.ref a, .int k] ∧ WispAt H a s ps ∧ Q (.int (thickAt ps k)) H
def spThere : Sp := fun vs H Q _ => ∃ (a : Addr) (Ls : List Lw) (p : Int), vs = [.ref a, .int p] ∧ StrandAt H a Ls ∧ Q (.int (thickS Ls p)) H
theorem longs_le {ps : List (Int × Int)} {B : Int} (h : ∀ p ∈ ps, p.2 ≤ B) : longs ps ≤ ps.length * B := by
  induction ps with
  | nil => rw [show longs [] = 0 from rfl]; simp
  | cons p r ih =>
    have h1 := h p (by simp)
    have h2 := ih fun x hx => h x (by simp [hx])
    rw [longs_cons, List.length_cons, Int.natCast_add, Int.add_mul]
    simp only [Int.natCast_one, Int.one_mul]
    omega
/-! ### from border to border -/
def LKey (L : Lw) (k : Int) : Prop := k = L.pl ∨ L.le = some k ∨ ∃ j, j < L.ps.length ∧ k = L.pl + longs (L.ps.take (j + 1))
def BKey (Ls : List Lw) (now k : Int) : Prop := k = now ∨ ∃ L ∈ Ls, LKey L k
theorem clip_is (le : Option Int) (e : Int) : clip le e = e ∨ le = some (clip le e) := by
  unfold clip
  cases le with
  | none => exact .inl rfl
  | some n =>
    dsimp only
    split
    · exact .inr rfl
    · exact .inl rfl
theorem part_key {le : Option Int} : ∀ (ps : List (Int × Int)) (st : Int), ∀ y ∈ lawParts le ps st, (y.1 = st ∨ ∃ j, j < ps.length ∧ y.1 = st + longs (ps.take (j + 1))) ∧ (le = some y.2.1 ∨ ∃ j, j < ps.length ∧ y.2.1 = st + longs (ps.take (j + 1)))
  | [], _, y, h => by cases h
  | (t, g) :: r, st, y, h => by
    have h : y ∈ (if st < clip le (st + g) then [(st, clip le (st + g), t)] else []) ++ lawParts le r (st + g) := h
    have l1 : longs (((t, g) :: r).take 1) = g := by
      show longs [(t, g)] = g
      rw [longs_cons]
      show g + 0 = g
      omega
    have sh : ∀ j, st + g + longs (r.take (j + 1)) = st + longs (((t, g) :: r).take (j + 1 + 1)) := fun j => by
      show _ = st + longs ((t, g) :: r.take (j + 1))
      rw [longs_cons]
      show _ = st + (g + _)
      omega
    rcases List.mem_append.mp h with h | h
    · split at h
      · simp only [List.mem_cons, List.not_mem_nil, or_false] at h
        subst h
        refine ⟨.inl rfl, ?_⟩
        rcases clip_is le (st + g) with e | e
        · exact .inr ⟨0, by simp, by show clip le (st + g) = _; rw [e, l1]⟩
        · exact .inl e
      · cases h
    · obtain ⟨h1, h2⟩ := part_key r (st + g) y h
      refine ⟨?_, ?_⟩
      · rcases h1 with e | ⟨j, hj, e⟩
        · exact .inr ⟨0, by simp, by rw [e, l1]⟩
        · exact .inr ⟨j + 1, by rw [List.length_cons]; omega, by rw [e, sh]⟩
      · rcases h2 with e | ⟨j, hj, e⟩
        · exact .inl e
        · exact .inr ⟨j + 1, by rw [List.length_cons]; omega, by rw [e, sh]⟩
theorem part_lkey {L : Lw} (g : GoodL L) {y : Int × Int × Int} (h : y ∈ partsOf L.le L.ps L.pl) : LKey L y.1 ∧ LKey L y.2.1 := by
  rw [← parts_eq L.ps L.pl fun p hp => (g.1.2.2 p hp).2.2.1] at h
  obtain ⟨h1, h2⟩ := part_key L.ps L.pl y h
  refine ⟨?_, ?_⟩
  · rcases h1 with e | e
    · exact .inl e
    · exact .inr (.inr e)
  · rcases h2 with e | e
    · exact .inr (.inl e)
    · exact .inr (.inr e)
theorem near {ns : List Int} {p : Int} (h : ∃ a ∈ ns, a ≤ p) : ∃ b ∈ ns, b ≤ p ∧ ∀ k ∈ ns, k ≤ b ∨ p < k := by
  induction ns with
  | nil =>
    obtain ⟨a, ha, _⟩ := h
    cases ha
  | cons x r ih =>
    by_cases hr : ∃ a ∈ r, a ≤ p
    · obtain ⟨b, hb, h1, h2⟩ := ih hr
      by_cases hx : x ≤ p ∧ b < x
      · refine ⟨x, by simp, hx.1, fun k hk => ?_⟩
        rcases List.mem_cons.mp hk with rfl | hk
        · exact .inl (Int.le_refl _)
        · have := h2 k hk
          omega
      · refine ⟨b, by simp [hb], h1, fun k hk => ?_⟩
        rcases List.mem_cons.mp hk with rfl | hk
        · omega
        · exact h2 k hk
    · obtain ⟨a, ha, h1⟩ := h
      have : a = x := by
        rcases List.mem_cons.mp ha with e | e
        · exact e
        · exact absurd ⟨a, e, h1⟩ hr
      subst this
      refine ⟨a, by simp, h1, fun k hk => ?_⟩
      rcases List.mem_cons.mp hk with rfl | hk
      · exact .inl (Int.le_refl _)
      · right
        rcases Int.lt_or_le p k with z | z
        · exact z
        · exact absurd ⟨k, hk, z⟩ hr
def Borders (Ls : List Lw) (now : Int) (ns : List Int) : Prop := ns.Pairwise (· < ·) ∧ (∀ k, k ∈ ns ↔ BKey Ls now k ∧ now ≤ k) ∧ ns.length ≤ 1000
theorem border_first {Ls : List Lw} (g : ∀ L ∈ Ls, GoodL L) {now low m : Int} {ns : List Int} (hb : Borders Ls now ns) {i : Nat} (hi : ns[i]? = some m) (ht : thickS Ls m < low) (ha : ∀ (j : Nat) (k : Int), j < i → ns[j]? = some k → low ≤ thickS Ls k) : IsFirst Ls low now m := by
  have mem := List.mem_of_getElem? hi
  refine ⟨((hb.2.1 m).mp mem).2, ht, fun p p1 p2 => ?_⟩
  obtain ⟨b, hbm, b1, b2⟩ := near (ns := ns) (p := p) ⟨now, (hb.2.1 now).mpr ⟨.inl rfl, Int.le_refl _⟩, p1⟩
  have bn := ((hb.2.1 b).mp hbm).2
  have still : thickS Ls p = thickS Ls b := thickS_congr fun L hL => thick_still (g L hL) b1 fun y hy => by
    have ok : ∀ k, LKey L k → k ≤ b ∨ p < k := fun k hk => by
      by_cases hn : now ≤ k
      · exact b2 k ((hb.2.1 k).mpr ⟨.inr ⟨L, hL, hk⟩, hn⟩)
      · left
        omega
    obtain ⟨h1, h2⟩ := part_lkey (g L hL) hy
    exact ⟨ok _ h1, ok _ h2⟩
  rw [still]
  obtain ⟨j, hj, ej⟩ := List.getElem_of_mem hbm
  obtain ⟨i1, ei⟩ := List.getElem?_eq_some_iff.mp hi
  refine ha j b ?_ (by rw [← ej]; exact List.getElem?_eq_getElem hj)
  rcases Nat.lt_or_ge j i with z | z
  · exact z
  · by_cases e : j = i
    · subst e
      omega
    · have := List.pairwise_iff_getElem.mp hb.1 i j i1 hj (by omega)
      omega
theorem border_some {Ls : List Lw} (g : ∀ L ∈ Ls, GoodL L) {now low : Int} (l1 : 1 ≤ low) {ns : List Int} (hb : Borders Ls now ns) (ha : ∀ (j : Nat) (k : Int), j < ns.length → ns[j]? = some k → low ≤ thickS Ls k) : False := by
  have hnow := (hb.2.1 now).mpr ⟨.inl rfl, Int.le_refl _⟩
  have hl : 0 < ns.length := List.length_pos_of_mem hnow
  have hz : ns[ns.length - 1]? = some ns[ns.length - 1] := List.getElem?_eq_getElem (by omega)
  have le : ∀ k ∈ ns, k ≤ ns[ns.length - 1] := fun k hk => key_le hb.1 hk hz (by omega)
  have h1 := ha _ _ (by omega) hz
  rw [thickS_over g fun L hL => ?_] at h1
  · omega
  · have gl := g L hL
    have hlen := gl.1.1
    have hk : LKey L (L.pl + longs L.ps) := .inr (.inr ⟨L.ps.length - 1, by omega, by rw [show L.ps.length - 1 + 1 = L.ps.length by omega, List.take_length]⟩)
    have h2 : lastOf L ≤ L.pl + longs L.ps := clip_le
    have h3 : L.pl + longs L.ps ≤ ns[ns.length - 1] := by
      by_cases hn : now ≤ L.pl + longs L.ps
      · exact le _ ((hb.2.1 _).mpr ⟨.inr ⟨L, hL, hk⟩, hn⟩)
      · have := le now hnow
        omega
    omega
def spBorders : Sp := fun vs H Q _ => ∃ (a : Addr) (Ls : List Lw) (now : Int), vs = [.ref a, .int now] ∧ StrandAt H a Ls ∧ Ls.length ≤ 60 ∧ (∀ L ∈ Ls, GoodL L) ∧ ∀ H' o ns, Same H H' → H o = none → H' o = some (.lst (ns.map V.int)) → Borders Ls now ns → Q (.ref o) H'
def spFirstThin : Sp := fun vs H Q _ => ∃ (a : Addr) (Ls : List Lw) (low now : Int), vs = [.ref a, .int low, .int now] ∧ StrandAt H a Ls ∧ Ls.length ≤ 60 ∧ (∀ L ∈ Ls, GoodL L) ∧ 1 ≤ low ∧ ∀ H' m, Same H H' → IsFirst Ls low now m → Q (.int m) H'
theorem laid_ahead {W : Wi} {m p : Int} (h : p < m) : thickL (laidOf W m) p = 0 := by
  unfold thickL
  rw [if_pos (show p < (laidOf W m).pl from h)]
theorem laidAll_snoc : ∀ (Ws : List Wi) (ms : List Int) (W : Wi) (m : Int), Ws.length = ms.length → laidAll (Ws ++ [W]) (ms ++ [m]) = laidAll Ws ms ++ [laidOf W m]
  | [], [], W, m, _ => rfl
  | V :: r, n :: s, W, m, h => congrArg (laidOf V n :: ·) (laidAll_snoc r s W m (Nat.succ.inj h))
  | [], _ :: _, _, _, h => by cases h
  | _ :: _, [], _, _, h => by cases h
theorem thickS_app (As Bs : List Lw) (p : Int) : thickS (As ++ Bs) p = thickS As p + thickS Bs p := by
  unfold thickS
  rw [List.map_append, List.sum_append]
theorem thickS_one (L : Lw) (p : Int) : thickS [L] p = thickL L p := by
  unfold thickS
  simp
def spLate : Sp := fun vs H Q _ => ∃ (a c : Addr) (low now : Int) (as : List Addr) (Ws : List Wi) (Ls : List Lw), vs = [.ref a, .int low, .ref c, .int now] ∧ H a = some (.tup (as.map V.ref)) ∧ RowAt H as Ws ∧ StrandAt H c Ls ∧ From Ls Ws low now ∧
  ∀ H' o t d ms, Same H H' → H' o = some (.tup [.ref t, .ref d]) → H' t = some (.tup (ms.map V.int)) → StrandAt H' d (Ls ++ laidAll Ws ms) → LateP Ls Ws low now ms → (∀ m ∈ ms, 0 ≤ m ∧ m < 2 ^ 125) → Q (.ref o) H'
def DSet (H : Hp) (d : Addr) (n : Nat) (S : Int → Prop) : Prop := ∃ kvs : List (Key × V), H d = some (.dK kvs) ∧ IKN kvs ∧ kvs.length ≤ n ∧ ∀ k, (∃ v, valV kvs (Sum.inl k) = some v) ↔ S k
theorem DSet.put {H : Hp} {d : Addr} {n : Nat} {S S' : Int → Prop} (h : DSet H d n S) (k : Int) (hs : ∀ x, S' x ↔ S x ∨ x = k) : ∃ kvs : List (Key × V), H d = some (.dK kvs) ∧ kvs.length ≤ n ∧ DSet (upd H d (.dK (putK kvs (Sum.inl k) (.bl true)))) d (n + 1) S' := by
  obtain ⟨kvs, h1, h2, h3, h4⟩ := h
  refine ⟨kvs, h1, h3, _, upd_same, h2.put k _, Nat.le_trans (length_putK _ _ _) (Nat.succ_le_succ h3), fun x => ?_⟩
  rw [hs, ← h4, valV_put]
  by_cases e : x = k
  · rw [if_pos (by rw [e])]
    exact ⟨fun _ => .inr e, fun _ => ⟨_, rfl⟩⟩
  · rw [if_neg (fun z => e (Sum.inl.inj z))]
    exact ⟨.inl, fun z => z.resolve_right e⟩
theorem DSet.congr {H : Hp} {d : Addr} {n m : Nat} {S S' : Int → Prop} (h : DSet H d n S) (hn : n ≤ m) (hs : ∀ x, S' x ↔ S x) : DSet H d m S' := by
  obtain ⟨kvs, h1, h2, h3, h4⟩ := h
  exact ⟨kvs, h1, h2, Nat.le_trans h3 hn, fun x => by rw [hs, h4]⟩
/-! ### the law of rows drawn late -/
def spLaidSome : Sp := fun vs H Q _ => ∃ (p : Addr) (T : Nat) (sty : Int) (gr : Bool), vs = [.ref p, .int sty, .bl gr] ∧ PotC H p T ∧ T < 2 ^ 36 ∧ 0 ≤ sty ∧ sty < 3 ∧
  ∀ H' c Ls, StrandAt H' c Ls → Ls.length ≤ 30 → (∀ L ∈ Ls, GoodL L) → (∀ L ∈ Ls, lastOf L ≤ 2 ^ 115) → PotC H' p (T + 4000) → Keep p p H H' → Q (.ref c) H'
/-- a list of the places and the place at last -/
def AnsAt (H : Hp) (o : Addr) (ms : List Int) (m : Int) : Prop := ∃ t, H o = some (.lst [.ref t, .int m]) ∧ H t = some (.tup (ms.map V.int))
def spDue22 : Sp := fun vs H Q _ => ∃ (a c : Addr) (low now : Int) (as : List Addr) (Ws : List Wi) (Ls : List Lw), vs = [.ref a, .int low, .ref c, .int now] ∧ H a = some (.tup (as.map V.ref)) ∧ RowAt H as Ws ∧ StrandAt H c Ls ∧ From Ls Ws low now ∧
  ∀ H' o ms m, Same H H' → H o = none → AnsAt H' o ms m → LateP Ls Ws low now ms → IsFirst (Ls ++ laidAll Ws ms) low now m → Q (.ref o) H'
def WayOk (way : Int) (Ls : List Lw) (now : Int) : Prop := (way = 0 ∧ Ls = [] ∧ now = 0) ∨ (way = 1 ∧ now = 0) ∨ way = 2 ∨ (way = 3 ∧ Ls = [])
def spTold22 : Sp := fun vs H Q _ => ∃ (a c : Addr) (low now way : Int) (as : List Addr) (Ws : List Wi) (Ls : List Lw), vs = [.ref a, .int low, .ref c, .int now, .int way] ∧ H a = some (.tup (as.map V.ref)) ∧ RowAt H as Ws ∧ StrandAt H c Ls ∧ From Ls Ws low now ∧ WayOk way Ls now ∧
  ∀ H' o ms m, Same H H' → AnsAt H' o ms m → LateP Ls Ws low now ms → IsFirst (Ls ++ laidAll Ws ms) low now m → Q (.ref o) H'
def spSame22 : Sp := fun vs H Q _ => ∃ (o o2 : Addr) (ms : List Int) (m : Int), vs = [.ref o, .ref o2] ∧ AnsAt H o ms m ∧ AnsAt H o2 ms m ∧ ms.length ≤ 60 ∧ ∀ H', Same H H' → Q (.bl true) H'
theorem AnsAt.same {H H' : Hp} {o : Addr} {ms : List Int} {m : Int} (h : AnsAt H o ms m) (s : Same H H') : AnsAt H' o ms m := by
  obtain ⟨t, h1, h2⟩ := h
  exact ⟨t, s _ _ h1, s _ _ h2⟩
theorem ints_d1' (ns : List Int) : (PyData.tuple (ns.map PyData.int)).depth ≤ 1 := by
  show PyData.depthAll (ns.map PyData.int) + 1 ≤ 1
  have : PyData.depthAll (ns.map PyData.int) ≤ 0 := depth_all fun x hx => by
    obtain ⟨n, _, rfl⟩ := List.mem_map.mp hx
    exact Nat.le_refl _
  omega
def LotAt (p R : Addr) (low : Int) (H : Hp) (e : Addr) : Prop := ∃ (r c o : Addr) (now way : Int) (as : List Addr) (Ws : List Wi) (Ls : List Lw) (ms : List Int) (m : Int), H e = some (.tup [.ref r, .ref c, .int now, .int way, .ref o]) ∧ H r = some (.tup (as.map V.ref)) ∧ RowAt H as Ws ∧ StrandAt H c Ls ∧ From Ls Ws low now ∧ WayOk way Ls now ∧ AnsAt H o ms m ∧ LateP Ls Ws low now ms ∧ IsFirst (Ls ++ laidAll Ws ms) low now m ∧ o ≠ p ∧ o ≠ R
theorem LotAt.go {p R : Addr} {low : Int} {H H' : Hp} {e : Addr} (h : LotAt p R low H e) (t : Tups H H') (k : ∀ o xs, o ≠ p → o ≠ R → H o = some (.lst xs) → H' o = some (.lst xs)) : LotAt p R low H' e := by
  obtain ⟨r, c, o, now, way, as, Ws, Ls, ms, m, h1, h2, h3, h4, h5, h6, ⟨u, h7, h7'⟩, h8, h9, h10, h11⟩ := h
  exact ⟨r, c, o, now, way, as, Ws, Ls, ms, m, t _ _ h1, t _ _ h2, h3.mono t, h4.mono t, h5, h6, ⟨u, k _ _ h10 h11 h7, t _ _ h7'⟩, h8, h9, h10, h11⟩
theorem LotAt.same {p R : Addr} {low : Int} {H H' : Hp} {e : Addr} (h : LotAt p R low H e) (s : Same H H') : LotAt p R low H' e := h.go (Tups.same s) fun o xs _ _ e => s _ _ e
theorem LotAt.keep {p R : Addr} {low : Int} {H H' : Hp} {e : Addr} {T : Nat} (h : LotAt p R low H e) (k : Keep p p H H') (hp : PotC H p T) : LotAt p R low H' e := h.go (k.tupsC hp) fun o xs n1 _ e => k.at n1 e
theorem LotAt.put {p R : Addr} {low : Int} {H : Hp} {e : Addr} {xs : List V} {v : HO} (h : LotAt p R low H e) (eR : H R = some (.lst xs)) : LotAt p R low (upd H R v) e := h.go (Tups.ls eR) fun o ys _ n2 e => (upd_ne n2).trans e
theorem RowAt.snoc {H : Hp} {as : List Addr} {Ws : List Wi} {a : Addr} {W : Wi} (h : RowAt H as Ws) (w : WispAt H a W.1 W.2) : RowAt H (as ++ [a]) (Ws ++ [W]) := by
  refine ⟨by rw [List.length_append, List.length_append, h.1]; rfl, fun i b hb => ?_⟩
  by_cases hi : i < as.length
  · rw [List.getElem?_append_left hi] at hb
    obtain ⟨V, h1, h2⟩ := h.2 i b hb
    exact ⟨V, by rw [List.getElem?_append_left (by rw [← h.1]; exact hi)]; exact h1, h2⟩
  · rw [List.getElem?_append_right (by omega)] at hb
    have hz : i - as.length = 0 := by
      cases hk : i - as.length with
      | zero => rfl
      | succ n =>
        rw [hk] at hb
        simp at hb
    rw [hz] at hb
    have : a = b := Option.some.inj hb
    subst this
    exact ⟨W, by rw [List.getElem?_append_right (by rw [← h.1]; omega), ← h.1, hz]; rfl, w⟩
theorem RowAt.nil {H : Hp} : RowAt H [] [] := ⟨rfl, fun i a e => by simp at e⟩
theorem From.empty {Ls : List Lw} {Ws : List Wi} {low now : Int} (h : From Ls Ws low now) : From [] Ws low now := ⟨by have := h.few; show 0 + Ws.length ≤ 60; omega, (fun L hL => by cases hL), h.gw, h.l1, h.n0, h.n1, fun L hL => by cases hL⟩
theorem From.zero {Ls : List Lw} {Ws : List Wi} {low now : Int} (h : From Ls Ws low now) : From Ls Ws low 0 := ⟨h.few, h.gl, h.gw, h.l1, Int.le_refl _, by decide, h.b⟩
def GoneAt (Ws : List Wi) (low : Int) (H : Hp) (t : Addr) : Prop := ∃ (way begun : Int) (c : Addr) (Ls : List Lw), H t = some (.tup [.int way, .ref c, .int begun]) ∧ StrandAt H c Ls ∧ WayOk way Ls begun ∧ From Ls Ws low begun
theorem GoneAt.mono {Ws : List Wi} {low : Int} {H H' : Hp} {t : Addr} (h : GoneAt Ws low H t) (u : Tups H H') : GoneAt Ws low H' t := by
  obtain ⟨way, begun, c, Ls, h1, h2, h3⟩ := h
  exact ⟨way, begun, c, Ls, u _ _ h1, h2.mono u, h3⟩
/-! ### sorted(set(xs)), xs a list of whole numbers -/
abbrev noneYet (w : World) : Obj := { cls := .type "set", dict := none, data := .set #[] 0 (.fresh 0 0 (!w.params.followText "set-order")) }
section
variable {P : Program} {w : World} {A : Around} {E : Value → Shared → Prop} {s : Shared}
set_option maxRecDepth 100000 in
set_option maxHeartbeats 3200000 in
theorem setOfList {x : Addr} {vals : Array Value} (ks : List Int) {Q : Value → Shared → Prop} (nh : A.handled = none) (hx : s.heap.IsList x vals) (hv : IntsAre vals.toList ks) (few : ks.length + 1 < scanBound)
    (fin : ∀ (g : Heap) (tk c : Nat), SetR w g s.heap.objs.size (fun j => decide (j ∈ ks)) c → c ≤ ks.length → (∀ b o, s.heap.get? b = some o → g.get? b = some o) → Q (.ref s.heap.objs.size) { s with heap := g, toks := tk }) :
    wpAny (model P w) A (call (.type "set") [.ref x]) Q E s := by
  have vsz : vals.size = ks.length := (Array.length_toList (xs := vals)).symm.trans (IntsAre.length hv)
  obtain ⟨mc, mt, mro⟩ := F.called_set.mro
  have md := F.called_set.made
  have sb := F.called_set.sub
  refine wpAny_call (codeAny_of_tree ?_)
  show wpAny _ _ (callAny (.type "set") _) _ _ _
  refine wpAny_pure ⟨Code.quiet_builtin _ (by decide +kernel), codeAny_builtin F.entry_type_call ?_⟩
  rw [Around.under_plain (weight_type_call_type "set" [.ref x] []) rfl]
  have f1 := F.called_set.notType
  have f2 := F.called_set.canCreate
  have f3 := F.typeCall_set_1 (.ref x)
  repeat (any_goals (first | assumption | wp_step))
  refine codeAny_mono (code_set_led1 (.ref x) (E := E) (Q₁ := fun ob t => ob = .ref s.heap.objs.size ∧ t = { s with heap := s.heap.push (noneYet w) }) ⟨rfl, rfl⟩) fun r t hr => ?_
  rcases r with e | fl
  · exact hr
  cases fl with
  | ret ob =>
    obtain ⟨rfl, rfl⟩ := hr
    have g0 : (s.heap.push (noneYet w)).get? s.heap.objs.size = some (noneYet w) := Heap.get?_push_size _ rfl
    have ty : Shared.TypeIs { s with heap := s.heap.push (noneYet w) } (.ref s.heap.objs.size) "set" := ⟨_, g0, rfl⟩
    have i1 := F.called_set.init.lookup
    have i2 := F.called_set.init.bind (.ref s.heap.objs.size)
    repeat (any_goals (first | assumption | wp_step))
    refine codeAny_mono (codeAny_call_builtin (R := wants (fun r t => r = .none ∧ ∃ g tk c, t = { s with heap := g, toks := tk } ∧ SetR w g s.heap.objs.size (fun j => decide (j ∈ ks)) c ∧ c ≤ ks.length ∧
        (∀ b o, s.heap.get? b = some o → g.get? b = some o)) E) F.called_set.init.plain F.entry_set_init (check_set_init_1 ty ?_)) fun r2 t2 hr2 => ?_
    · obtain ⟨ob, gx, cx, nx, dx⟩ := hx
      obtain ⟨bc, bd, bt, bs⟩ := ob
      simp only at cx dx
      subst cx; subst dx
      have gx' : (s.heap.push (noneYet w)).get? x = some { cls := .type "list", dict := bd, data := .seq vals nx, slots := bs } := Heap.get?_push_of_some _ gx
      have n1 := F.sub_list_set
      have n2 := F.sub_list_frozenset
      have n3 : (Value.type "list" == Value.type "dict") = false := by decide
      have hx1 : (s.heap.push (noneYet w)).IsList x vals := ⟨_, gx', rfl, nx, rfl⟩
      unfold Builtin.«set.__init__» noKeywords Builtin.Frozenset.updateFrom
      generalize hq : pyIter = PI
      wp_walk
      subst hq
      refine wpAny_pyIter_list hx1 (wpAny_bind (wpAny_runValue ?_))
      have lx : x < s.heap.objs.size := Heap.lt_size gx
      have nh3 : A.in1.in1.in1.handled = none := by simp [nh]
      have sz : (s.heap.push (noneYet w)).objs.size = s.heap.objs.size + 1 := Heap.size_push ..
      have ne1 : x ≠ (s.heap.push (noneYet w)).objs.size := by
        rw [sz]
        exact Nat.ne_of_lt (Nat.lt_succ_of_lt lx)
      have out : s.heap.objs.size ∉ [(s.heap.push (noneYet w)).objs.size, x] := by
        rw [sz]
        intro z
        rcases List.mem_cons.mp z with z | z
        · exact absurd z (Nat.ne_of_lt (Nat.lt_succ_self _))
        · exact absurd (List.mem_singleton.mp z) (Nat.ne_of_gt lx)
      have at' : ∀ (i : Nat) (v : Value), vals[i]? = some v → ∃ k t, ks[i]? = some k ∧ v = .int k t := fun i v h => by
        have li : i < ks.length := vsz ▸ (Array.getElem?_eq_some_iff.mp h).1
        obtain ⟨t, e⟩ := IntsAre.int_at hv i v (by rw [Array.getElem?_toList]; exact h)
        exact ⟨ks[i], t, List.getElem?_eq_getElem li, by rw [e, List.getD_eq_getElem?_getD, List.getElem?_eq_getElem li] <;> rfl⟩
      refine set_update_ints ((Walks.list nh3 _ x ne1 vals).toS) s.heap.objs.size out ks vsz few at' (vals.size - 0) 0 _ (by omega) (Nat.zero_le _)
        ⟨⟨_, Heap.get?_push_size _ rfl, rfl, rfl⟩, (hx1.push _)⟩ ⟨0, Nat.le_refl 0, setR_new_at (Heap.get?_push_of_some _ g0)⟩ fun t' c' mv lc r' => ?_
      obtain ⟨g, gs, dr, tk, os⟩ := t'
      have e1 : gs = s.gens := mv.gens
      have e2 : dr = s.drawn := mv.drawn
      have e3 : os = s.os := mv.os
      subst e1; subst e2; subst e3
      show wpAny _ _ _ _ _ _
      refine wpAny_pure ?_
      show wpAny _ _ (ret Value.none) _ _ _
      refine wpAny_pure ⟨rfl, g, tk, c', rfl, r', vsz ▸ lc, fun b o e => ?_⟩
      have lb : b < s.heap.objs.size := Heap.lt_size e
      refine mv.heap b o (fun z => ?_) (Heap.get?_push_of_some _ (Heap.get?_push_of_some _ e))
      rcases List.mem_cons.mp z with z | z
      · exact absurd z (Nat.ne_of_lt lb)
      · have z := List.mem_singleton.mp z
        rw [sz] at z
        exact absurd z (Nat.ne_of_lt (Nat.lt_succ_of_lt lb))
    · rcases r2 with e | fl2
      · exact hr2
      cases fl2 with
      | ret r =>
        obtain ⟨rfl, g, tk, c', rfl, r', lc, kp⟩ := hr2
        repeat (any_goals (first | assumption | wp_step))
        exact fin _ _ _ r' lc kp
      | _ => exact hr2.elim
  | _ => exact hr.elim
theorem setInOrder {a : Addr} {S : Int → Bool} {n : Nat} {Q : Value → Shared → Prop} (R : SetR w s.heap a S n) (nh : A.handled = none) (few : n ≤ sizeLine)
    (fin : ∀ t p (out : Array Value) (c : Nat) (ks : List Int), (∀ b o, s.heap.get? b = some o → t.heap.get? b = some o) → t.gens = s.gens → t.os = s.os → s.heap.objs.size ≤ p →
      t.heap.get? p = some (seqObj "list" out c) → IntsAre out.toList ks → ks.Pairwise (· < ·) → (∀ k, k ∈ ks ↔ S k = true) → ks.length = n → Q (.ref p) t) :
    wpAny (model P w) A (call (.builtin "sorted") [.ref a]) Q E s := by
  obtain ⟨o, es, ep, tb, ho, ex, da, gd, nd, mm, bo, ft, en, ri, ld⟩ := R
  refine Calls.call_function_entry kind_sorted plain_sorted entry_sorted (args_sorted1 _) ?_
  unfold Builtin.«sorted»
  refine wpAny_bind (m := checkCount "sorted" 1 1 _) (wpAny_pure ?_)
  refine wpAny_bind (collect_set (A := A.in1) nh ⟨o, ho, ex.1, da⟩ ft bo ri ld fun s1 vs k1 z1 g1 o1 pm => ?_)
  have lv : vs.length = n := by
    rw [pm.length_eq, List.length_map, Array.length_toList]
    exact en
  have iv : IntsAre vs (vs.map Builtin.Re.reRawOf) := ints_of vs fun v hv => by
    obtain ⟨e, he, rfl⟩ := List.mem_map.mp (pm.mem_iff.mp hv)
    obtain ⟨k, tk, q, _⟩ := gd e he
    exact ⟨k, tk, q⟩
  have pk : (vs.map Builtin.Re.reRawOf).Perm (es.toList.map keyOf) := (List.map_map (l := es.toList) ▸ pm.map Builtin.Re.reRawOf :)
  refine wpAny_bind (wpAny_newList ?_ (by rw [lv]; exact few))
  have at1 : (s1.heap.push (seqObj "list" vs.toArray 0)).get? s1.heap.objs.size = some (seqObj "list" vs.toArray 0) := Heap.get?_push_size _ rfl
  refine wpAny_bind (wpAny_holding (wpAny_call_entry slot_list_sort ⟨_, at1, rfl⟩ entry_list_sort (list_sort_treeAny at1 iv (by rw [lv]; exact few) fun out ks a1 a2 a3 => ⟨_, rfl, ?_⟩) (args_list_sort _)))
  obtain ⟨c, hc⟩ := sortedHeap_at (vs := vs) (out := out) at1
  have pn := a2.trans pk
  refine wpAny_pure ⟨_, rfl, fin _ s1.heap.objs.size out c ks (fun b u e => ?_) g1 o1 z1 hc a1 (lt_of_le_nodup ks a3 (pn.nodup_iff.mpr nd)) (fun k => by rw [pn.mem_iff, ← mm k]) (by rw [pn.length_eq, List.length_map, Array.length_toList]; exact en)⟩
  have q := k1 b u e
  have lb := Heap.lt_size q
  show (sortedHeap (s1.heap.push (seqObj "list" vs.toArray 0)) s1.heap.objs.size vs out).get? b = some u
  rw [sortedHeap_old (Nat.ne_of_lt lb) (by rw [size_push']; exact Nat.lt_succ_of_lt lb)]
  exact Heap.get?_push_of_some _ q
end
section
variable {X : Cx}
def tInOrder (K : PySem.W.Frag) (ta : TE) : TE := fun σ H Q => ta σ H fun x H1 => ∃ (l : Addr) (ns : List Int), x = V.ref l ∧ SqL K H1 l (ns.map V.int) ∧ ns.length < 4000 ∧
  ∀ (ks : List Int) (p : Addr), ks.Pairwise (· < ·) → (∀ k, k ∈ ks ↔ k ∈ ns) → ks.length ≤ ns.length → H1 p = none → Q (.ref p) (upd H1 p (.lst (ks.map V.int)))
theorem pe_inOrder {a : Expr} {ta : TE} {p p2 q pos : Pos} (hc : X.calm = true) (g1 : Gl X "sorted") (m1 : X.mg "sorted" = none) (g2 : Gl X "set") (m2 : X.mg "set" = none) (ha : PE X a ta)
    (na : starEach [a] X.env = (false, eval a X.env) :: starEach [] X.env := by rfl) : PE X (.Call (.Name "sorted" p) [.Call (.Name "set" p2) [a] [] q] [] pos) (tInOrder X.K ta) := by
  refine ⟨fun pins s σ H Q I h => ?_⟩
  refine Call_ (ld_blt I g1 m1 boot_sorted ?_)
  refine callWith_builtin1 (args_cons ?_ rfl) rfl rfl
  refine Call_ (ld_blt I g2 m2 PyProof.Rows.boot_set ?_)
  refine callWith_type1 (args_cons (thn (ha.run pins s σ H _ I h) fun v s1 ⟨x, H1, I1, r1, q1⟩ => args_nil ?_) na) na rfl
  obtain ⟨l, ns, rfl, hq, few, q1⟩ := q1
  cases r1
  obtain ⟨its, r, pl, hz⟩ := I1.list hq
  refine setOfList ns (I1.ok.hd hc) pl.isList (by simpa using r.ints) (by unfold scanBound; omega) fun g tk c R lc kp => args_nil ?_
  have I2 : Inv X pins σ H1 { s1 with heap := g, toks := tk } := I1.kept kp
  refine setInOrder R (I1.ok.hd hc) (by rw [sizeLine_eq]; omega) fun t p2 out c2 ks k eg eo lp hp ik pw mm lk => ?_
  have fr : H1 p2 = none := I2.hok.fresh lp
  have hl : (ks.map V.int).length ≤ sizeLine := by
    rw [List.length_map, sizeLine_eq]
    omega
  have J : Inv X pins σ (upd H1 p2 (.lst (ks.map V.int))) { ({ s1 with heap := g, toks := tk } : Shared) with heap := t.heap, gens := t.gens, drawn := t.drawn, toks := t.toks } :=
    I2.call (ch := []) (Un.laid k lp fr) (I2.hok.laid k lp ⟨hl, out.toList, c2, vals_of_ints ik, hp⟩) (by rw [eg]; exact I2.bare) (fun _ z => nomatch z)
  have e : t = { s1 with heap := t.heap, gens := t.gens, drawn := t.drawn, toks := t.toks } := by
    cases t
    cases s1
    cases eo
    rfl
  rw [e]
  exact ⟨.ref p2, _, J, rfl, q1 ks p2 pw (fun k => by rw [mm k]; exact decide_eq_true_iff) (by rw [lk]; exact lc) fr⟩
end
/-! ### a pot: the great numbers at hand, the seed, how many were drawn -/
def PotD (H : Hp) (p l : Addr) (T : Nat) : Prop := ∃ (ns : List Int) (m : Int) (t : Nat), H p = some (.lst [.ref l, .int m, .int (t : Int)]) ∧ H l = some (.lst (ns.map V.int)) ∧ (∀ n ∈ ns, 0 ≤ n) ∧ 0 ≤ m ∧ m < 2 ^ 62 ∧ t ≤ T ∧ ns.length ≤ 63
theorem PotD.ne {H : Hp} {p l : Addr} {T : Nat} (h : PotD H p l T) : p ≠ l := by
  obtain ⟨ns, m, t, h1, h2, _⟩ := h
  intro e
  rw [e, h2] at h1
  cases ns with
  | nil => exact absurd h1 (by intro z; cases z)
  | cons n r => exact absurd h1 (by intro z; cases z)
theorem PotD.mono {H : Hp} {p l : Addr} {T U : Nat} (h : PotD H p l T) (e : T ≤ U) : PotD H p l U := by
  obtain ⟨ns, m, t, h1, h2, h3, h4, h5, h6, h7⟩ := h
  exact ⟨ns, m, t, h1, h2, h3, h4, h5, Nat.le_trans h6 e, h7⟩
theorem PotD.new {H : Hp} {p l a : Addr} {T : Nat} {o : HO} (h : PotD H p l T) (n : H a = none) : PotD (upd H a o) p l T := by
  obtain ⟨ns, m, t, h1, h2, h3⟩ := h
  exact ⟨ns, m, t, by rw [upd_ne (ne_of_none h1 n)]; exact h1, by rw [upd_ne (ne_of_none h2 n)]; exact h2, h3⟩
theorem PotD.other {H : Hp} {p l a : Addr} {T : Nat} {o : HO} (h : PotD H p l T) (n1 : a ≠ p) (n2 : a ≠ l) : PotD (upd H a o) p l T := by
  obtain ⟨ns, m, t, h1, h2, h3⟩ := h
  exact ⟨ns, m, t, by rw [upd_ne n1.symm]; exact h1, by rw [upd_ne n2.symm]; exact h2, h3⟩
theorem PotD.same {H H' : Hp} {p l : Addr} {T : Nat} (h : PotD H p l T) (e : Same H H') : PotD H' p l T := by
  obtain ⟨ns, m, t, h1, h2, h3⟩ := h
  exact ⟨ns, m, t, e _ _ h1, e _ _ h2, h3⟩
theorem PotD.notP {H : Hp} {p l a : Addr} {T : Nat} {xs : List V} (h : PotD H p l T) (e : H a = some (.tup xs)) : a ≠ p ∧ a ≠ l := by
  obtain ⟨ns, m, t, h1, h2, h3⟩ := h
  exact ⟨ne_of e h1 (by intro z; cases z), ne_of e h2 (by intro z; cases z)⟩
theorem PotD.fresh {H : Hp} {p l a : Addr} {T : Nat} (h : PotD H p l T) (e : H a = none) : a ≠ p ∧ a ≠ l := by
  obtain ⟨ns, m, t, h1, h2, h3⟩ := h
  exact ⟨(ne_of_none h1 e).symm, (ne_of_none h2 e).symm⟩
theorem Keep.tupsD {p l : Addr} {H H' : Hp} {T : Nat} (k : Keep p l H H') (h : PotD H p l T) : Tups H H' := fun a xs e => k a _ (h.notP e).1 (h.notP e).2 e
theorem Keep.freeD {p l a : Addr} {H H' : Hp} {T : Nat} (k : Keep p l H H') (hp : PotD H' p l T) (h : H' a = none) : H a = none := by
  obtain ⟨n1, n2⟩ := hp.fresh h
  cases q : H a with
  | none => rfl
  | some o =>
    rw [k a o n1 n2 q] at h
    cases h
theorem Keep.atD {p l a : Addr} {H H' : Hp} {o : HO} (k : Keep p l H H') (n : a ≠ p ∧ a ≠ l) (e : H a = some o) : H' a = some o := k a o n.1 n.2 e
theorem Keep.sameD {p l : Addr} {H H1 H2 : Hp} (k : Keep p l H H1) (s : Same H1 H2) : Keep p l H H2 := fun a o n1 n2 e => s a o (k a o n1 n2 e)
def spBeginD (K : PySem.W.Frag) : Sp := fun vs H Q _ => ∃ (a : Addr) (ns : List Int), vs = [.ref a] ∧ SqL K H a (ns.map V.int) ∧ ns.length ≤ 63 ∧
  ∀ H' p l, Same H H' → H p = none → H l = none → PotD H' p l 0 → Q (.ref p) H'
def spTakeD : Sp := fun vs H Q _ => ∃ (p l : Addr) (T : Nat) (many : Int), vs = [.ref p, .int many] ∧ PotD H p l T ∧ T < 2 ^ 40 ∧ CDivW 0 many ∧
  ∀ d H', 0 ≤ d → d < many → PotD H' p l (T + 1) → Keep p l H H' → Q (.int d) H'
def spOfD : Sp := fun vs H Q _ => ∃ (p l : Addr) (T : Nat) (a : Addr) (xs : List V), vs = [.ref p, .ref a] ∧ PotD H p l T ∧ T < 2 ^ 39 ∧ H a = some (.lst xs) ∧ a ≠ p ∧ a ≠ l ∧ 1 ≤ xs.length ∧ xs.length ≤ 1000 ∧
  ∀ H' (j : Nat) x, xs[j]? = some x → PotD H' p l (T + 1) → Keep p l H H' → Q x H'
/-- the wisps drawn here -/
def GoodP (ps : List (Int × Int)) : Prop := 1 ≤ ps.length ∧ ps.length ≤ 8 ∧ ∀ p ∈ ps, 1 ≤ p.1 ∧ p.1 < 2 ^ 130 ∧ 1 ≤ p.2 ∧ p.2 < 2 ^ 126
theorem GoodP.good {ps : List (Int × Int)} (h : GoodP ps) : Good ps := ⟨h.1, Nat.le_trans h.2.1 (by decide), fun p hp => by
  obtain ⟨h1, h2, h3, h4⟩ := h.2.2 p hp
  exact ⟨h1, by omega, h3, by omega⟩⟩
def spOneWisp : Sp := fun vs H Q _ => ∃ (p l : Addr) (T : Nat) (unit span most : Int), vs = [.ref p, .int unit, .int span, .int most] ∧ PotD H p l T ∧ T < 2 ^ 38 ∧ 1 ≤ unit ∧ unit ≤ 10 ^ 37 + 7 ∧ 1 ≤ span ∧ span ≤ 10 ^ 37 + 1 ∧ 1 ≤ most ∧ most ≤ 8 ∧
  ∀ H' a s ps, PotD H' p l (T + 50) → Keep p l H H' → WispAt H' a s ps → 0 ≤ s → s ≤ 1 → GoodP ps → Falls ps → H a = none → Q (.ref a) H'
def GoodD (B : Int) (L : Lw) : Prop := GoodP L.ps ∧ 0 ≤ L.so ∧ L.so ≤ 1 ∧ 0 ≤ L.pl ∧ L.pl < 2 ^ 127 ∧ Falls L.ps ∧ ∀ n, L.le = some n → L.pl < n ∧ n < B
theorem GoodD.good {B : Int} {L : Lw} (h : GoodD B L) (hB : B ≤ 2 ^ 140) : GoodL L := ⟨h.1.good, h.2.1, h.2.2.1, h.2.2.2.1, by have := h.2.2.2.2.1; omega, fun n e => by
  obtain ⟨h1, h2⟩ := h.2.2.2.2.2.2 n e
  exact ⟨h1, by omega⟩⟩
def spLaidOnes : Sp := fun vs H Q _ => ∃ (p l : Addr) (T : Nat) (many most : Int), vs = [.ref p, .int many, .int most] ∧ PotD H p l T ∧ T < 2 ^ 37 ∧ 0 ≤ many ∧ many ≤ 60 ∧ 1 ≤ most ∧ most ≤ 8 ∧
  ∀ H' a Ls, PotD H' p l (T + 4000) → Keep p l H H' → StrandAt H' a Ls → (Ls.length : Int) = many → (∀ L ∈ Ls, GoodD (2 ^ 131) L) → H a = none → Q (.ref a) H'
def Edges (Ls : List Lw) (ns : List Int) : Prop := ns.Pairwise (· < ·) ∧ (∀ k, k ∈ ns ↔ BKey Ls 0 k) ∧ ns.length ≤ 900
def spEdges : Sp := fun vs H Q _ => ∃ (a : Addr) (Ls : List Lw), vs = [.ref a] ∧ StrandAt H a Ls ∧ Ls.length ≤ 60 ∧ (∀ L ∈ Ls, L.ps.length ≤ 10) ∧
  ∀ H' o ns, Same H H' → H o = none → H' o = some (.lst (ns.map V.int)) → Edges Ls ns → Q (.ref o) H'
def spPlace : Sp := fun vs H Q _ => ∃ (p l : Addr) (T : Nat) (a : Addr) (Ls : List Lw) (B : Int), vs = [.ref p, .ref a] ∧ PotD H p l T ∧ T < 2 ^ 38 ∧ StrandAt H a Ls ∧ Ls.length ≤ 60 ∧ 2 ^ 131 ≤ B ∧ (∀ L ∈ Ls, GoodD B L) ∧
  ∀ H' m, 0 ≤ m → m < B + 2 → PotD H' p l (T + 2) → Keep p l H H' → Q (.int m) H'
theorem longsP_le : ∀ ps : List (Int × Int), (∀ p ∈ ps, 1 ≤ p.2 ∧ p.2 < 2 ^ 126) → 0 ≤ longs ps ∧ longs ps ≤ 2 ^ 126 * ps.length
  | [], _ => ⟨Int.le_refl _, by simp [longs]⟩
  | (t, g) :: r, h => by
    have h1 := h (t, g) (by simp)
    have h2 := longsP_le r fun x hx => h x (by simp [hx])
    rw [longs_cons, List.length_cons]
    have e : ((r.length + 1 : Nat) : Int) = (r.length : Int) + 1 := by omega
    rw [e, Int.mul_add]
    have hg : 1 ≤ g ∧ g < 2 ^ 126 := h1
    omega
theorem keyD_le {B : Int} {Ls : List Lw} (hB : 2 ^ 131 ≤ B) (h : ∀ L ∈ Ls, GoodD B L) {k : Int} (hk : BKey Ls 0 k) : 0 ≤ k ∧ k < B := by
  rcases hk with rfl | ⟨L, hL, hk⟩
  · exact ⟨by decide, by omega⟩
  · have g := h L hL
    have g4 := g.2.2.2.1
    have g5 := g.2.2.2.2.1
    rcases hk with rfl | hk | ⟨j, hj, rfl⟩
    · exact ⟨g4, by omega⟩
    · have := g.2.2.2.2.2.2 k hk
      exact ⟨by omega, this.2⟩
    · have hl := longsP_le (L.ps.take (j + 1)) fun x hx => ⟨(g.1.2.2 x (List.mem_of_mem_take hx)).2.2.1, (g.1.2.2 x (List.mem_of_mem_take hx)).2.2.2⟩
      have h8 : (L.ps.take (j + 1)).length ≤ 8 := by
        rw [List.length_take]
        have := g.1.2.1
        omega
      generalize longs (L.ps.take (j + 1)) = z at hl
      have : 2 ^ 126 * ((L.ps.take (j + 1)).length : Int) ≤ 2 ^ 126 * 8 := Int.mul_le_mul_of_nonneg_left (by omega) (by decide)
      omega
theorem five {u e : Int} (h1 : 1 ≤ u) (e0 : 0 ≤ e) (e1 : e < 5) : u ≤ u * (1 + e) ∧ u * (1 + e) ≤ 5 * u := by
  have h : e = 0 ∨ e = 1 ∨ e = 2 ∨ e = 3 ∨ e = 4 := by omega
  rcases h with rfl | rfl | rfl | rfl | rfl <;> omega
theorem none1 {d : Int} {b : Bool} (d0 : 0 ≤ d) (d1 : d < 2) : 0 ≤ d * (if b = true then (1 : Int) else 0) ∧ d * (if b = true then (1 : Int) else 0) ≤ 1 := by
  cases b
  · show 0 ≤ d * 0 ∧ d * 0 ≤ 1
    omega
  · show 0 ≤ d * 1 ∧ d * 1 ≤ 1
    omega
theorem timesI {u e n : Int} (h : 0 ≤ u) (e0 : 0 ≤ e) (e1 : e ≤ n) : 0 ≤ u * e ∧ u * e ≤ u * n := ⟨Int.mul_nonneg h e0, Int.mul_le_mul_of_nonneg_left e1 h⟩
theorem letRep (le : Option Int) : (List.replicate ((if (!decide (letV le = V.non)) = true then (1 : Int) else 0)).toNat [letV le]).flatten = le.toList.map V.int := by
  cases le with
  | none => rfl
  | some n =>
    rw [letV_some n]
    rfl
theorem letRep01 (le : Option Int) : 0 ≤ (if (!decide (letV le = V.non)) = true then (1 : Int) else 0) ∧ (if (!decide (letV le = V.non)) = true then (1 : Int) else 0) ≤ 1 := by
  split <;> decide
/-! ### min(.., default=..) of pairs and of whole numbers -/
def leP (p q : Int × Int) : Prop := p.1 < q.1 ∨ (p.1 = q.1 ∧ p.2 ≤ q.2)
theorem ltP_iff (p q : Int × Int) : PySem.W.DatumOrd.lt p q = true ↔ p.1 < q.1 ∨ (p.1 = q.1 ∧ p.2 < q.2) := by
  show (if p.1 = q.1 then decide (p.2 < q.2) else decide (p.1 < q.1)) = true ↔ _
  by_cases h : p.1 = q.1
  · rw [if_pos h, decide_eq_true_iff]
    omega
  · rw [if_neg h, decide_eq_true_iff]
    omega
theorem leastP : ∀ (ys : List (Int × Int)) (y : Int × Int), PySem.W.minOf y ys ∈ y :: ys ∧ ∀ p ∈ y :: ys, leP (PySem.W.minOf y ys) p
  | [], y => ⟨List.mem_cons_self, fun p hp => by
    have : p = y := List.mem_singleton.mp hp
    subst this
    exact .inr ⟨rfl, Int.le_refl _⟩⟩
  | z :: r, y => by
    have e : PySem.W.minOf y (z :: r) = PySem.W.minOf (if PySem.W.DatumOrd.lt z y = true then z else y) r := rfl
    rw [e]
    have ih := leastP r (if PySem.W.DatumOrd.lt z y = true then z else y)
    generalize hw : PySem.W.minOf (if PySem.W.DatumOrd.lt z y = true then z else y) r = w at ih
    have hy : leP (if PySem.W.DatumOrd.lt z y = true then z else y) y ∧ leP (if PySem.W.DatumOrd.lt z y = true then z else y) z := by
      by_cases h : PySem.W.DatumOrd.lt z y = true
      · rw [if_pos h]
        have := (ltP_iff z y).mp h
        unfold leP
        omega
      · rw [if_neg h]
        have : ¬ (z.1 < y.1 ∨ (z.1 = y.1 ∧ z.2 < y.2)) := fun c => h ((ltP_iff z y).mpr c)
        unfold leP
        omega
    have h0 := ih.2 _ List.mem_cons_self
    refine ⟨?_, fun p hp => ?_⟩
    · rcases List.mem_cons.mp ih.1 with h | h
      · rw [h]
        split
        · simp
        · simp
      · simp [h]
    · rcases List.mem_cons.mp hp with rfl | hp
      · have := hy.1
        unfold leP at *
        omega
      · rcases List.mem_cons.mp hp with rfl | hp
        · have := hy.2
          unfold leP at *
          omega
        · exact ih.2 p (List.mem_cons_of_mem _ hp)
def rMinP (K : PySem.W.Frag) : List V → List V → Hp → VK → Prop := fun xs zs H Q => ∃ (a : Addr) (as : List Addr) (ps : List (Int × Int)) (d : V), xs = [.ref a] ∧ zs = [d] ∧ SqL K H a (as.map V.ref) ∧ TupsAt H as (ps.map stepV) ∧ ps ≠ [] ∧
  ∀ (i : Nat) (b : Addr) (p : Int × Int), as[i]? = some b → ps[i]? = some p → (∀ q ∈ ps, leP p q) → Q (.ref b) H
theorem pairs_dp {K : PySem.W.Frag} {H : Hp} : ∀ {as : List Addr} {ps : List (Int × Int)}, TupsAt H as (ps.map stepV) → DpAll K H (as.map V.ref) (ps.map PySem.W.Datum.toD)
  | [], [], _ => .nil
  | [], p :: r, h => absurd h.1 (by simp)
  | a :: r, [], h => absurd h.1 (by simp)
  | a :: as, p :: ps, h => by
    obtain ⟨xs, h1, h2⟩ := h.2 0 a rfl
    have e : stepV p = xs := Option.some.inj h1
    subst e
    exact .cons (.tup (SqT.of h2) (.cons (.int _) (.cons (.int _) .nil))) (pairs_dp ⟨Nat.succ.inj (by simpa using h.1), fun i b hb => h.2 (i + 1) b hb⟩)
theorem call_minP {X : Cx} (hc : X.calm = true) (hu : X.A.units + 64 < cLine) : CallRK X (.builtin "min") ["default"] (rMinP X.K) := by
  intro pins s σ H xs zs us ws Q I va vz h
  obtain ⟨a, as, ps, d, rfl, rfl, hs, tu, hne, q⟩ := h
  obtain ⟨its, rv, hl, _⟩ := I.list hs
  rw [Vals.ref1 va]
  cases vz with
  | cons r1 r2 =>
  cases r2
  obtain ⟨bs, rs⟩ := Dp.readsAll I (ps.map PySem.W.Datum.toD) (as.map V.ref) its (pairs_dp tu) rv
  refine PySem.W.min_list_datum_default (xs := ps) (I.ok.hd hc) hl.isList ⟨bs, by simpa using rs⟩ ?_ (fun e => absurd e hne) fun y ys i v h' tk e hi hold hk => ?_
  · show X.A.units + 1 + 1 < cLine
    omega
  · have hi' : its[i]? = some v := by simpa using hi
    obtain ⟨b, eb, rb⟩ : ∃ b, as[i]? = some b ∧ v = .ref b := by
      have hlen : its.length = (as.map V.ref).length := rv.length.symm
      have li := (List.getElem?_eq_some_iff.mp hi').1
      have lj : i < as.length := by rw [List.length_map] at hlen; omega
      have e2 : (as.map V.ref)[i]? = some (V.ref as[i]) := by rw [List.getElem?_map, List.getElem?_eq_getElem lj]; rfl
      obtain ⟨u, eu, ru⟩ := rv.get e2
      rw [hi'] at eu
      have := Option.some.inj eu
      subst this
      cases ru
      exact ⟨_, List.getElem?_eq_getElem lj, rfl⟩
    subst rb
    obtain ⟨p, ep, hp⟩ := PySem.W.HoldAll.at (xs := ps) ⟨bs, rs⟩ hi'
    obtain ⟨c1, k1⟩ := hp.keeps hk
    obtain ⟨c2, k2⟩ := hold
    have eq : PySem.W.Datum.toD p = PySem.W.Datum.toD (PySem.W.minOf y ys) := (k1.unique _ _ k2).1
    have eq : p = PySem.W.minOf y ys := by
      obtain ⟨p1, p2⟩ := p
      generalize PySem.W.minOf y ys = m at eq
      obtain ⟨m1, m2⟩ := m
      have eq : PyData.tuple [.int p1, .int p2] = .tuple [.int m1, .int m2] := eq
      injection eq with eq
      injection eq with e1 e2
      injection e2 with e2 _
      injection e1 with e1
      injection e2 with e2
      rw [e1, e2]
    refine ⟨.ref b, H, I.kept hk, rfl, q i b p eb ep fun z hz => ?_⟩
    rw [eq]
    rw [e] at hz
    exact (leastP ys y).2 z hz
/-! ### min(.., default=..) of whole numbers; a tuple turned about -/
theorem leastI : ∀ (ys : List Int) (y : Int), PySem.W.minOf y ys ∈ y :: ys ∧ ∀ p ∈ y :: ys, PySem.W.minOf y ys ≤ p
  | [], y => ⟨List.mem_cons_self, fun p hp => by
    have : p = y := List.mem_singleton.mp hp
    subst this
    exact Int.le_refl _⟩
  | z :: r, y => by
    have e : PySem.W.minOf y (z :: r) = PySem.W.minOf (if decide (z < y) = true then z else y) r := rfl
    rw [e]
    have ih := leastI r (if decide (z < y) = true then z else y)
    generalize PySem.W.minOf (if decide (z < y) = true then z else y) r = w at ih
    have h0 := ih.2 _ List.mem_cons_self
    have hy : (if decide (z < y) = true then z else y) ≤ y ∧ (if decide (z < y) = true then z else y) ≤ z := by
      by_cases h : z < y
      · rw [if_pos (decide_eq_true h)]
        omega
      · rw [if_neg (by intro c; exact h (of_decide_eq_true c))]
        omega
    refine ⟨?_, fun p hp => ?_⟩
    · rcases List.mem_cons.mp ih.1 with h | h
      · rw [h]
        split <;> simp
      · simp [h]
    · rcases List.mem_cons.mp hp with rfl | hp
      · omega
      · rcases List.mem_cons.mp hp with rfl | hp
        · omega
        · exact ih.2 p (List.mem_cons_of_mem _ hp)
def rMinN (K : PySem.W.Frag) : List V → List V → Hp → VK → Prop := fun xs zs H Q => ∃ (a : Addr) (ns : List Int) (d : V), xs = [.ref a] ∧ zs = [d] ∧ SqL K H a (ns.map V.int) ∧ (ns = [] → Q d H) ∧ ∀ m, m ∈ ns → (∀ y ∈ ns, m ≤ y) → Q (.int m) H
theorem call_minN {X : Cx} (hc : X.calm = true) (hu : X.A.units + 64 < cLine) : CallRK X (.builtin "min") ["default"] (rMinN X.K) := by
  intro pins s σ H xs zs us ws Q I va vz h
  obtain ⟨a, ns, d, rfl, rfl, hs, q0, q⟩ := h
  obtain ⟨its, rv, hl, _⟩ := I.list hs
  rw [Vals.ref1 va]
  cases vz with
  | cons r1 r2 =>
  cases r2
  obtain ⟨bs, rs⟩ := Dp.readsAll I (ns.map PyData.int) (ns.map V.int) its (ints_dp ns) rv
  have rs : ReadsAll s.heap its (ns.map PySem.W.Datum.toD) bs := rs
  refine PySem.W.min_list_datum_default (xs := ns) (I.ok.hd hc) hl.isList ⟨bs, by simpa using rs⟩ ?_ (fun e h' tk hk => ⟨d, H, I.kept hk, r1, q0 e⟩) fun y ys i v h' tk e hi hold hk => ?_
  · show X.A.units + 1 + 0 < cLine
    omega
  · obtain ⟨c2, k2⟩ := hold
    have k2 : Reads h' v (.int (PySem.W.minOf y ys)) c2 := k2
    have hm := leastI ys y
    rw [← e] at hm
    generalize PySem.W.minOf y ys = M at k2 hm
    cases k2
    exact ⟨.int M, H, I.kept hk, ⟨_, rfl⟩, q M hm.1 hm.2⟩
/-! ### a tuple turned about -/
theorem fm_map {α β : Type} (f : α → Option β) (g : α → β) : ∀ l : List α, (∀ x ∈ l, f x = some (g x)) → l.filterMap f = l.map g
  | [], _ => rfl
  | x :: r, h => by
    rw [List.filterMap_cons, h x List.mem_cons_self]
    show g x :: r.filterMap f = g x :: r.map g
    rw [fm_map f g r fun y hy => h y (List.mem_cons_of_mem _ hy)]
theorem pickRev (xs : Array Value) : ((List.range xs.size).filterMap fun (k : Nat) => xs[(((xs.size : Int) - 1) + (k : Int) * (-1)).toNat]?).toArray = xs.toList.reverse.toArray := by
  have hat : ∀ k : Nat, k < xs.size → xs[(((xs.size : Int) - 1) + (k : Int) * (-1)).toNat]? = xs.toList.reverse[k]? := fun k hk => by
    rw [List.getElem?_reverse (by rw [Array.length_toList]; exact hk), Array.getElem?_toList, Array.length_toList, show (((xs.size : Int) - 1) + (k : Int) * (-1)).toNat = xs.size - 1 - k by omega]
  rw [fm_map _ (fun k => (xs.toList.reverse[k]?).getD .none) _ fun k hk => by
    have hk := List.mem_range.mp hk
    rw [hat k hk, List.getElem?_eq_getElem (by rw [List.length_reverse, Array.length_toList]; exact hk)]
    rfl]
  congr 1
  apply List.ext_getElem?
  intro i
  rw [List.getElem?_map]
  by_cases hi : i < xs.size
  · have hr : i < xs.toList.reverse.length := by
      rw [List.length_reverse, Array.length_toList]
      exact hi
    rw [List.getElem?_range hi]
    show some ((xs.toList.reverse[i]?).getD .none) = _
    rw [List.getElem?_eq_getElem hr]
    rfl
  · rw [List.getElem?_eq_none (by rw [List.length_range]; omega), List.getElem?_eq_none (by rw [List.length_reverse, Array.length_toList]; omega)]
    rfl
section
variable {P : Program} {w : World} {A : Around} {E : Value → Shared → Prop} {s : Shared}
theorem appliedRev {sl : Addr} {tk : Tok} {n : Nat} {Q : Int × Int × Nat → Shared → Prop} (hs : s.heap.IsSliceOf sl .none .none (.int (-1) tk)) (h : Q ((n : Int) - 1, -1, n) s) : wpAny (model P w) A (Builtin.Slice.sliceApplied (.ref sl) (pure (n : Int))) Q E s := by
  obtain ⟨os, o1, o2, o3⟩ := id hs
  unfold Builtin.Slice.sliceApplied Builtin.Slice.sliceFields
  refine wpAny_bind (wpAny_bind (wpAny_field o1 o3 (x := .none) rfl (wpAny_bind (wpAny_field o1 o3 (x := .none) rfl (wpAny_bind (wpAny_field o1 o3 (x := .int (-1) tk) rfl (wpAny_pure ?_)))))))
  refine wpAny_bind (HT.slicePart_ (IsPart.int (-1) tk) ?_)
  show wpAny _ _ (if ((-1 : Int) == 0) = true then _ else _) _ _ s
  rw [if_neg (by decide)]
  refine wpAny_bind (HT.slicePart_ IsPart.none (wpAny_bind (HT.slicePart_ IsPart.none (wpAny_bind (wpAny_pure ?_)))))
  show wpAny _ _ (match Builtin.Slice.sliceAdjust none none (-1) (n : Int) with | (lo, hi) => pure (lo, (-1 : Int), Builtin.Slice.slicePlaces lo hi (-1))) _ _ s
  have e1 : Builtin.Slice.sliceAdjust none none (-1) (n : Int) = ((n : Int) - 1, -1) := rfl
  have e2 : Builtin.Slice.slicePlaces ((n : Int) - 1) (-1) (-1) = n := by
    unfold Builtin.Slice.slicePlaces
    simp
    omega
  rw [e1]
  show wpAny _ _ (pure ((n : Int) - 1, (-1 : Int), Builtin.Slice.slicePlaces ((n : Int) - 1) (-1) (-1))) _ _ s
  rw [e2]
  exact wpAny_pure h
theorem itemRev {t sl : Addr} {items : Array Value} {tk : Tok} {Q : Value → Shared → Prop} (ht : IsTup s.heap t items) (hs : s.heap.IsSliceOf sl .none .none (.int (-1) tk))
    (h : Q (.ref s.heap.objs.size) { s with heap := s.heap.push { cls := .type "tuple", data := .seq items.toList.reverse.toArray } }) (hsz : items.size ≤ sizeLine) : wpAny (model P w) A (getItem (.ref t) (.ref sl)) Q E s := by
  have fits : sizeOk (.seq items.toList.reverse.toArray) := by
    show items.toList.reverse.toArray.size ≤ sizeLine
    rw [List.size_toArray, List.length_reverse, Array.length_toList]
    exact hsz
  obtain ⟨os, o1, o2, o3⟩ := id hs
  have ty : s.TypeIs (.ref sl) "slice" := ⟨os, o1, o2⟩
  unfold getItem
  try with_reducible refine wpAny_holding ?_
  first | refine wpAny_bind (wpAny_pure ?_) | skip
  refine wpAny_bind (wpAny_sequenceKey ht.typeIs (by decide) ?_)
  refine wpAny_bind (wpAny_callSpecial?_slot (name := Str.ofString "__getitem__") ht.typeIs PyProof.Rows.slot_tuple_getitem
    (wpAny_call_entry PyProof.Rows.slot_tuple_getitem ht.typeIs entry_tuple_getitem ?_ (args_tuple_getitem _ _)))
  show wpAny _ _ (Builtin.Tuple.tupleItemsOf (.ref t) >>= _) _ _ s
  refine wpAny_bind (tupleItemsOf_ ht (wpAny_bind (wpAny_typeOf ty ?_)))
  rw [if_pos (by decide)]
  refine wpAny_bind (appliedRev hs ?_)
  have no : ¬ ((((items.size : Int) - 1) == 0 && (-1 : Int) == 1 && items.size == items.size) = true) := by
    intro q
    rw [Bool.and_eq_true, Bool.and_eq_true] at q
    exact absurd q.1.2 (by decide)
  show wpAny _ _ (if (((items.size : Int) - 1) == 0 && (-1 : Int) == 1 && items.size == items.size) = true then _ else _) _ _ s
  rw [if_neg no, pickRev]
  first
    | exact wpAny_bind (m := Builtin.Tuple.tupleExact _) (wpAny_newObj_type (wpAny_pure ⟨_, rfl, wpAny_pure h⟩) fits)
    | exact wpAny_bind (wpAny_bind (m := Builtin.Tuple.tupleExact _) (wpAny_newObj_type (wpAny_pure (wpAny_pure ⟨_, rfl, wpAny_pure h⟩)) fits))
    | exact wpAny_bind (wpAny_bind (m := Builtin.Tuple.tupleExact _) (wpAny_newObj_type (wpAny_pure ⟨_, rfl, wpAny_pure h⟩) fits))
end
section
variable {X : Cx}
def tRevT (K : PySem.W.Frag) (te : TE) : TE := fun σ H Q => te σ H fun x H1 => ∃ a xs, x = .ref a ∧ SqT K H1 a xs ∧ ∀ p, H1 p = none → Q (.ref p) (upd H1 p (.tup xs.reverse))
theorem pe_revT {e : Expr} {te : TE} {k : Nat} {p1 p2 p3 pos : Pos} (he : PE X e te) : PE X (.Subscript e (.Slice none none (some (.UnaryOp .USub (.Constant (.int 1) k p1) p2)) p3) pos) (tRevT X.K te) := by
  constructor
  intro pins s σ H Q I h
  refine Subscript_ (thn (he.run pins s σ H _ I h) fun v s1 hz => ?_)
  obtain ⟨x, H1, I1, r1, a, xs, ex, hx, q⟩ := hz
  subst ex
  cases r1
  refine wpAny_Slice (thn (po_none.run pins s1 σ H1 (fun o H2 => o = none ∧ H2 = H1) I1 ⟨rfl, rfl⟩) fun vl s2 hz => ?_)
  obtain ⟨l, H2, I2, pl, rfl, rfl⟩ := hz
  refine thn (po_none.run pins s2 σ H2 (fun o H3 => o = none ∧ H3 = H2) I2 ⟨rfl, rfl⟩) fun vu s3 hz => ?_
  obtain ⟨u, H3, I3, pu, rfl, rfl⟩ := hz
  refine thn ((po_some (pe_un un_neg pe_int)).run pins s3 σ H3 (fun o H4 => o = some (-1) ∧ H4 = H3) I3 ⟨1, rfl, -1, rfl, rfl, rfl⟩) fun vs s4 hz => ?_
  obtain ⟨o, H4, I4, ps, rfl, rfl⟩ := hz
  cases pl
  cases pu
  cases ps
  rename_i tk
  have I5 : Inv X pins σ H4 { s4 with heap := s4.heap.push { cls := .type "slice", data := .fields #[.none, .none, .int (-1) tk] } } := I4.kept (t' := s4.toks) fun b ob q => Heap.get?_push_of_some _ q
  obtain ⟨its, r, ht, hz⟩ := I5.tuple hx
  have hlen := r.length
  show wpAny (model X.prog X.w) X.A (subscriptTail e (.Slice none none (some (.UnaryOp .USub (.Constant (.int 1) k p1) p2)) p3) (.ref a) (.ref s4.heap.objs.size)) (EP X pins σ Q) X.xe { s4 with heap := s4.heap.push { cls := .type "slice", data := .fields #[.none, .none, .int (-1) tk] } }
  refine tail_any (ops := [.ref a, .ref s4.heap.objs.size]) ht.typeIs PyProof.Rows.slot_tuple_getitem.lookup ?_ (by with_unfolding_all rfl)
  refine itemRev ht (Heap.IsSliceOf.new _ .none .none (.int (-1) tk)) ?_ (by rw [List.size_toArray]; omega)
  refine ⟨.ref _, _, I5.laid (t' := s4.toks) (o := .tup xs.reverse) (fun b ob q => Heap.get?_push_of_some _ q) (Nat.le_refl _) ?_, rfl, q _ (I5.hok.fresh (Nat.le_refl _))⟩
  exact ⟨by rw [List.length_reverse]; exact hz, _, r.reverse, IsTup.new _ _⟩
end
/-! ### breaks -/
def nextB (bs : List (Int × Int)) (m : Int) : Option Int := (bs.map (·.1)).find? fun k => decide (m < k)
def GoodB (bs : List (Int × Int)) : Prop := bs.length ≤ 20 ∧ (bs.map (·.1)).Pairwise (· < ·) ∧ ∀ b ∈ bs, 0 ≤ b.1 ∧ b.1 < 2 ^ 120
def BrAt (H : Hp) (a : Addr) (bs : List (Int × Int)) : Prop := ∃ as, H a = some (.tup (as.map V.ref)) ∧ TupsAt H as (bs.map stepV)
theorem BrAt.mono {H H' : Hp} {a : Addr} {bs : List (Int × Int)} (h : BrAt H a bs) (t : Tups H H') : BrAt H' a bs := by
  obtain ⟨as, h1, h2⟩ := h
  exact ⟨as, t _ _ h1, h2.mono t⟩
theorem find_yes {m n : Int} (r : List Int) (c : m < n) : (n :: r).find? (fun k => decide (m < k)) = some n := by simp [List.find?_cons, c]
theorem find_skip {m n : Int} (r : List Int) (c : ¬ m < n) : (n :: r).find? (fun k => decide (m < k)) = r.find? fun k => decide (m < k) := by simp [List.find?_cons, c]
theorem find_least {m x : Int} : ∀ ns : List Int, ns.Pairwise (· < ·) → x ∈ ns → m < x → (∀ y ∈ ns, m < y → x ≤ y) → ns.find? (fun k => decide (m < k)) = some x
  | [], _, h, _, _ => by cases h
  | n :: r, hp, h, h1, h2 => by
    obtain ⟨p1, p2⟩ := List.pairwise_cons.mp hp
    by_cases c : m < n
    · have hx := h2 n List.mem_cons_self c
      have e : x = n := by
        rcases List.mem_cons.mp h with e | e
        · exact e
        · have := p1 x e
          omega
      rw [find_yes r c, e]
    · rw [find_skip r c]
      rcases List.mem_cons.mp h with e | e
      · omega
      · exact find_least r p2 e h1 fun y hy => h2 y (List.mem_cons_of_mem _ hy)
theorem find_no {m : Int} : ∀ ns : List Int, (∀ y ∈ ns, ¬ m < y) → ns.find? (fun k => decide (m < k)) = none
  | [], _ => rfl
  | n :: r, h => by
    rw [find_skip r (h n List.mem_cons_self)]
    exact find_no r fun y hy => h y (List.mem_cons_of_mem _ hy)
theorem next_cons (b : Int × Int) (r : List (Int × Int)) (m : Int) : nextB (b :: r) m = if m < b.1 then some b.1 else nextB r m := by
  unfold nextB
  rw [List.map_cons]
  by_cases c : m < b.1
  · rw [if_pos c, find_yes _ c]
  · rw [if_neg c, find_skip _ c]
theorem next_of {bs : List (Int × Int)} {m n : Int} (h : nextB bs m = some n) : m < n ∧ n ∈ bs.map (·.1) := by
  unfold nextB at h
  have h1 := List.find?_some h
  exact ⟨of_decide_eq_true h1, List.mem_of_find?_eq_some h⟩
theorem next_le {bs : List (Int × Int)} (g : (bs.map (·.1)).Pairwise (· < ·)) {m k : Int} (hk : k ∈ bs.map (·.1)) (h : m < k) : ∃ n, nextB bs m = some n ∧ n ≤ k := by
  unfold nextB
  generalize bs.map (·.1) = ns at g hk
  induction ns with
  | nil => cases hk
  | cons x r ih =>
    obtain ⟨p1, p2⟩ := List.pairwise_cons.mp g
    by_cases c : m < x
    · refine ⟨x, find_yes r c, ?_⟩
      rcases List.mem_cons.mp hk with e | e
      · omega
      · have := p1 k e
        omega
    · rw [find_skip r c]
      rcases List.mem_cons.mp hk with e | e
      · omega
      · exact ih p2 e
def brkL (bs : List (Int × Int)) (L : Lw) : Lw := ⟨L.so, L.ps, L.pl, nextB bs L.pl⟩
def laysB (bs : List (Int × Int)) (Ws : List Wi) (ms : List Int) : List Lw := (laidAll Ws ms).map (brkL bs)
theorem laysB_none (Ws : List Wi) (ms : List Int) : laysB [] Ws ms = laidAll Ws ms := by
  unfold laysB
  have : ∀ L ∈ laidAll Ws ms, brkL [] L = L := fun L hL => by
    obtain ⟨W, _, m, _, rfl⟩ := laidAll_mem hL
    rfl
  calc (laidAll Ws ms).map (brkL []) = (laidAll Ws ms).map id := List.map_congr_left this
    _ = laidAll Ws ms := List.map_id _
def spNextBreak : Sp := fun vs H Q _ => ∃ (m : Int) (b : Addr) (bs : List (Int × Int)), vs = [.int m, .ref b] ∧ BrAt H b bs ∧ GoodB bs ∧ ∀ H', Same H H' → Q (letV (nextB bs m)) H'
def spWithB : Sp := fun vs H Q _ => ∃ (a c b : Addr) (as : List Addr) (Ws : List Wi) (ms : List Int) (bs : List (Int × Int)), vs = [.ref a, .ref c, .ref b] ∧ H a = some (.tup (as.map V.ref)) ∧ RowAt H as Ws ∧ H c = some (.tup (ms.map V.int)) ∧ Ws.length = ms.length ∧ Ws.length ≤ 60 ∧ BrAt H b bs ∧ GoodB bs ∧
  ∀ H' o, Same H H' → H o = none → StrandAt H' o (laysB bs Ws ms) → Q (.ref o) H'
def spSomeBreaks : Sp := fun vs H Q _ => ∃ (p : Addr) (T : Nat) (most : Int) (far : Bool), vs = [.ref p, .int most, .bl far] ∧ PotC H p T ∧ T < 2 ^ 37 ∧ 0 ≤ most ∧ most ≤ 20 ∧
  ∀ H' o bs, PotC H' p (T + 50) → Keep p p H H' → BrAt H' o bs → GoodB bs → H o = none → Q (.ref o) H'
def spOneStep : Sp := fun vs H Q _ => ∃ (p : Addr) (T : Nat), vs = [.ref p] ∧ PotC H p T ∧ T < 2 ^ 38 ∧
  ∀ H' a (W : Wi), WispAt H' a W.1 W.2 → GoodW W → H a = none → PotC H' p (T + 3) → Keep p p H H' → Q (.ref a) H'
def spMoments : Sp := fun vs H Q _ => ∃ (p : Addr) (T : Nat) (many : Int) (b : Addr) (bs : List (Int × Int)), vs = [.ref p, .int many, .ref b] ∧ PotC H p T ∧ T < 2 ^ 37 ∧ 0 ≤ many ∧ many ≤ 60 ∧ BrAt H b bs ∧ GoodB bs ∧
  ∀ H' o (ms : List Int), PotC H' p (T + 130) → Keep p p H H' → H' o = some (.tup (ms.map V.int)) → (ms.length : Int) = many → (∀ m ∈ ms, 0 ≤ m ∧ m < 2 ^ 121) → H o = none → Q (.ref o) H'
def spDue35 : Sp := fun vs H Q _ => ∃ (a c b : Addr) (as : List Addr) (Ws : List Wi) (ms : List Int) (bs : List (Int × Int)), vs = [.ref a, .ref c, .ref b] ∧ H a = some (.tup (as.map V.ref)) ∧ RowAt H as Ws ∧ H c = some (.tup (ms.map V.int)) ∧ Ws.length = ms.length ∧ Ws.length ≤ 60 ∧ BrAt H b bs ∧ bs.length ≤ 20 ∧
  ∀ H' o, Same H H' → H o = none → StrandAt H' o (laysB bs Ws ms) → Q (.ref o) H'
theorem TupsAt.rev {H : Hp} {as : List Addr} {bs : List (Int × Int)} (h : TupsAt H as (bs.map stepV)) : TupsAt H as.reverse (bs.reverse.map stepV) := by
  have hl : as.length = bs.length := by rw [h.1, List.length_map]
  refine ⟨by simp [hl], fun i a ha => ?_⟩
  have hi : i < as.length := by
    have := (List.getElem?_eq_some_iff.mp ha).1
    simpa using this
  rw [List.getElem?_reverse hi] at ha
  obtain ⟨xs, h1, h2⟩ := h.2 _ a ha
  refine ⟨xs, ?_, h2⟩
  rw [List.map_reverse, List.getElem?_reverse (by simp; omega)]
  simpa [hl] using h1
theorem walk_zipT {K : PySem.W.Frag} {a b : Addr} {xs ys : List V} (hl : xs.length = ys.length) : Walk (RZ.ItzT K a b) xs.length (fun H => SqT K H a xs ∧ SqT K H b ys) (YPair (fun i => xs[i]?) (fun i => ys[i]?)) where
  goes i H hi q := ⟨xs, ys, xs[i], ys[i]'(hl ▸ hi), q.1, q.2, List.getElem?_eq_getElem hi, List.getElem?_eq_getElem (hl ▸ hi)⟩
  stops H q := ⟨xs, ys, q.1, q.2, .inl (Nat.le_refl _)⟩
  yields i H v H' _ q y := by
    obtain ⟨c, x, z, k1, k2, k3, k4, k5⟩ := y
    exact ⟨c, x, z, k1, k2, k3, k4 xs q.1, k5 ys q.2⟩
theorem drop_back {bs : List (Int × Int)} {i : Nat} {b : Int × Int} (h : bs.reverse[i]? = some b) : bs.drop (bs.length - (i + 1)) = b :: bs.drop (bs.length - i) := by
  have hi : i < bs.length := by
    have := (List.getElem?_eq_some_iff.mp h).1
    simpa using this
  rw [List.getElem?_reverse hi] at h
  obtain ⟨h1, h2⟩ := List.getElem?_eq_some_iff.mp h
  rw [show bs.length - (i + 1) = bs.length - 1 - i by omega, List.drop_eq_getElem_cons h1, h2, show bs.length - 1 - i + 1 = bs.length - i by omega]
theorem laysB_mem {bs : List (Int × Int)} {Ws : List Wi} {ms : List Int} {L : Lw} (h : L ∈ laysB bs Ws ms) : ∃ W ∈ Ws, ∃ m ∈ ms, L = brkL bs (laidOf W m) := by
  obtain ⟨M, hM, rfl⟩ := List.mem_map.mp h
  obtain ⟨W, hW, m, hm, rfl⟩ := laidAll_mem hM
  exact ⟨W, hW, m, hm, rfl⟩
theorem laysB_good {bs : List (Int × Int)} {Ws : List Wi} {ms : List Int} (gb : GoodB bs) (gw : ∀ W ∈ Ws, GoodW W) (gm : ∀ m ∈ ms, 0 ≤ m ∧ m < 2 ^ 121) : ∀ L ∈ laysB bs Ws ms, GoodL L := fun L hL => by
  obtain ⟨W, hW, m, hm, rfl⟩ := laysB_mem hL
  have g := gw W hW
  have b := gm m hm
  refine ⟨g.1, g.2.1, g.2.2.1, b.1, Int.lt_trans b.2 (by decide), fun n e => ?_⟩
  obtain ⟨n1, n2⟩ := next_of (bs := bs) (m := m) (n := n) e
  obtain ⟨x, hx, rfl⟩ := List.mem_map.mp n2
  exact ⟨n1, Int.lt_trans (gb.2.2 x hx).2 (by decide)⟩
theorem thickS_zero : ∀ {Ls : List Lw} {p : Int}, (∀ L ∈ Ls, thickL L p = 0) → thickS Ls p = 0
  | [], _, _ => rfl
  | L :: r, p, h => by
    have e : thickS (L :: r) p = thickL L p + thickS r p := rfl
    rw [e, h L List.mem_cons_self, thickS_zero fun M hM => h M (List.mem_cons_of_mem _ hM)]
    rfl
theorem laysB_cut {bs : List (Int × Int)} {Ws : List Wi} {ms : List Int} (gb : GoodB bs) {k : Int} (hk : k ∈ bs.map (·.1)) : thickS ((laysB bs Ws ms).filter fun L => decide (L.pl < k)) k = 0 := by
  refine thickS_zero fun L hL => ?_
  obtain ⟨h1, h2⟩ := List.mem_filter.mp hL
  have h2 : L.pl < k := of_decide_eq_true h2
  obtain ⟨W, hW, m, hm, rfl⟩ := laysB_mem h1
  have h2 : m < k := h2
  obtain ⟨n, e, hn⟩ := next_le gb.2.1 hk h2
  show (if k < m then 0 else match nextB bs m with | none => thickAt W.2 (k - m) | some n => if n ≤ k then 0 else thickAt W.2 (k - m)) = 0
  rw [e]
  show (if k < m then 0 else if n ≤ k then 0 else thickAt W.2 (k - m)) = 0
  rw [if_neg (by omega), if_pos hn]
/-- row, moments, breaks and the strand that is due -/
def LotB (H : Hp) (e : Addr) : Prop := ∃ (r c b d : Addr) (as : List Addr) (Ws : List Wi) (ms : List Int) (bs : List (Int × Int)), H e = some (.tup [.ref r, .ref c, .ref b, .ref d]) ∧ H r = some (.tup (as.map V.ref)) ∧ RowAt H as Ws ∧ H c = some (.tup (ms.map V.int)) ∧ Ws.length = ms.length ∧ Ws.length ≤ 60 ∧ (∀ W ∈ Ws, GoodW W) ∧ (∀ m ∈ ms, 0 ≤ m ∧ m < 2 ^ 121) ∧ BrAt H b bs ∧ GoodB bs ∧ StrandAt H d (laysB bs Ws ms)
theorem LotB.mono {H H' : Hp} {e : Addr} (h : LotB H e) (t : Tups H H') : LotB H' e := by
  obtain ⟨r, c, b, d, as, Ws, ms, bs, h1, h2, h3, h4, h5, h6, h7, h8, h9, h10, h11⟩ := h
  exact ⟨r, c, b, d, as, Ws, ms, bs, t _ _ h1, t _ _ h2, h3.mono t, t _ _ h4, h5, h6, h7, h8, h9.mono t, h10, h11.mono t⟩
theorem GoodB.nil : GoodB [] := ⟨Nat.zero_le _, List.Pairwise.nil, fun b hb => by cases hb⟩
theorem strand_ne {K : PySem.W.Frag} {H : Hp} {a b : Addr} {Ls : List Lw} {Q : VK} (ha : StrandAt H a Ls) (hb : StrandAt H b Ls) (g : ∀ L ∈ Ls, GoodL L) (q : Q (.bl false) H) : rNeD K (.ref a) (.ref b) H Q := by
  have sh := (strand_sh g).shaped (Nat.le_trans (strand_depth Ls) (by decide))
  refine ⟨strandD Ls, strandD Ls, ha.dp, hb.dp, sh, sh, ?_⟩
  rw [SeqAt.eqv_refl _ (SeqAt.canLay_of_shaped sh)]
  exact q
/-! ### zip where the second one is no longer -/
theorem lcZipS {K : PySem.W.Frag} {a b : Addr} {xs ys : List V} {g : TG} {tt : TT} {te : TE} {us : List Nat} {σ : L2.St} {H1 : Hp} {D : Addr} {Qd : Hp → Prop} (hl : ys.length ≤ xs.length) (Pv : Nat → Hp → Prop) (h0 : Pv 0 (upd H1 D (.lst []))) (hq : ∀ i H, Pv i H → SqT K H a xs ∧ SqT K H b ys)
    (hs : ∀ i x y T H, xs[i]? = some x → ys[i]? = some y → H T = none → Pv i H → g (.ref T) (wipe σ us) (upd H T (.tup [x, y])) fun σ2 H2 => wipe σ2 us = wipe σ us ∧ tt σ2 H2 fun c H3 =>
      if c = true then te σ2 H3 fun y H4 => ∃ acc, H4 D = some (.lst acc) ∧ acc.length < sizeLine ∧ Pv (i + 1) (upd H4 D (.lst (acc ++ [y]))) else Pv (i + 1) H3) (hd : ∀ H, Pv ys.length H → Qd H) :
    ∃ W : Nat → Nat → Hp → Prop, (∃ m, W 0 m (upd H1 D (.lst []))) ∧ ∀ i m H, W i m H →
      ((RZ.ItzT K a b).stop i H ∧ Qd H) ∨ ((RZ.ItzT K a b).go i H ∧ ∃ Nx : Hp → Prop, (∀ H', Nx H' → ∃ m', m' < m ∧ W (i + 1) m' H') ∧ ∀ x H', (RZ.ItzT K a b).yld i H x H' → g x (wipe σ us) H' fun σ2 H2 => wipe σ2 us = wipe σ us ∧ tt σ2 H2 fun c H3 =>
        if c = true then te σ2 H3 fun y H4 => ∃ acc, H4 D = some (.lst acc) ∧ acc.length < sizeLine ∧ Nx (upd H4 D (.lst (acc ++ [y]))) else Nx H3) := by
  refine ⟨fun i m H => i + m = ys.length ∧ Pv i H, ⟨ys.length, Nat.zero_add _, h0⟩, fun i m H ⟨em, p⟩ => ?_⟩
  obtain ⟨q1, q2⟩ := hq i H p
  by_cases hi : i < ys.length
  · have g1 : xs[i]? = some (xs[i]'(by omega)) := List.getElem?_eq_getElem (by omega)
    have g2 : ys[i]? = some ys[i] := List.getElem?_eq_getElem hi
    refine .inr ⟨⟨xs, ys, _, _, q1, q2, g1, g2⟩, Pv (i + 1), fun H' p' => ⟨m - 1, by omega, by omega, p'⟩, fun v H' hy => ?_⟩
    obtain ⟨T, x, y, rfl, nT, rfl, f1, f2⟩ := hy
    exact hs i x y T H (f1 _ q1) (f2 _ q2) nT p
  · have e : i = ys.length := by omega
    subst e
    exact .inl ⟨⟨xs, ys, q1, q2, .inr (Nat.le_refl _)⟩, hd H p⟩
theorem cut_tail (xs : List V) : cutV xs (some 1) none = xs.drop 1 := by
  unfold cutV
  have h : HT.sIx xs.length 0 (some 1) = min 1 xs.length := HT.sIx_nat xs.length 0 1
  rw [h]
  cases xs with
  | nil => rfl
  | cons x r =>
    show ((x :: r).drop (min 1 (r.length + 1))).take (r.length + 1 - min 1 (r.length + 1)) = r
    rw [show min 1 (r.length + 1) = 1 by omega]
    show r.take (r.length + 1 - 1) = r
    simp
/-! ### things of any kind -/
section
variable {B : Int}
abbrev topB : Int := 2 ^ 250
inductive Th where
  | int (n : Int)
  | bl (b : Bool)
  | oth
  | tup (ts : List Th)
/-- what such a thing is in the heap -/
inductive ThAt (B : Int) (H : Hp) : V → Th → Prop where
  | int (n : Int) (h1 : -B ≤ n) (h2 : n ≤ B) : ThAt B H (.int n) (.int n)
  | bl (b : Bool) : ThAt B H (.bl b) (.bl b)
  | non : ThAt B H .non .oth
  | str (z : Str) : ThAt B H (.str z) .oth
  | lst {a : Addr} {xs : List V} (e : H a = some (.lst xs)) : ThAt B H (.ref a) .oth
  | dic {a : Addr} {kvs : List (Key × V)} (e : H a = some (.dK kvs)) : ThAt B H (.ref a) .oth
  | tup {a : Addr} {vs : List V} {ts : List Th} (e : H a = some (.tup vs)) (hl : vs.length = ts.length) (h : ∀ (i : Nat) (v : V) (t : Th), vs[i]? = some v → ts[i]? = some t → ThAt B H v t) : ThAt B H (.ref a) (.tup ts)
/-- tuples stay, lists stay lists, dicts stay dicts -/
def Kinds (H H' : Hp) : Prop := Tups H H' ∧ (∀ a xs, H a = some (.lst xs) → ∃ ys, H' a = some (.lst ys)) ∧ ∀ a kvs, H a = some (.dK kvs) → ∃ kvs', H' a = some (.dK kvs')
theorem Kinds.same {H H' : Hp} (s : Same H H') : Kinds H H' := ⟨Tups.same s, fun a xs e => ⟨xs, s _ _ e⟩, fun a kvs e => ⟨kvs, s _ _ e⟩⟩
theorem Kinds.trans {H H1 H2 : Hp} (a : Kinds H H1) (b : Kinds H1 H2) : Kinds H H2 := ⟨a.1.trans b.1, fun c xs e => by
  obtain ⟨ys, e1⟩ := a.2.1 c xs e
  exact b.2.1 c ys e1, fun c kvs e => by
  obtain ⟨ys, e1⟩ := a.2.2 c kvs e
  exact b.2.2 c ys e1⟩
theorem Kinds.put {H : Hp} {R : Addr} {xs ys : List V} (e : H R = some (.lst xs)) : Kinds H (upd H R (.lst ys)) := by
  refine ⟨Tups.ls e, fun a zs ha => ?_, fun a kvs ha => ?_⟩
  · by_cases c : a = R
    · subst c
      exact ⟨ys, upd_same⟩
    · exact ⟨zs, (upd_ne c).trans ha⟩
  · refine ⟨kvs, (upd_ne fun c => ?_).trans ha⟩
    rw [c, e] at ha
    cases ha
theorem Kinds.keep {p : Addr} {H H' : Hp} {T U : Nat} (k : Keep p p H H') (h : PotC H p T) (h' : PotC H' p U) : Kinds H H' := by
  refine ⟨k.tupsC h, fun a xs e => ?_, fun a kvs e => ?_⟩
  · by_cases c : a = p
    · subst c
      obtain ⟨_, _, _, e2, _⟩ := h'
      exact ⟨_, e2⟩
    · exact ⟨xs, k.at c e⟩
  · refine ⟨kvs, k.at (fun c => ?_) e⟩
    obtain ⟨_, _, _, e2, _⟩ := h
    rw [c, e2] at e
    cases e
theorem ThAt.mono {H H' : Hp} (k : Kinds H H') {v : V} {t : Th} (h : ThAt B H v t) : ThAt B H' v t := by
  induction h with
  | int n h1 h2 => exact .int n h1 h2
  | bl b => exact .bl b
  | non => exact .non
  | str z => exact .str z
  | lst e =>
    obtain ⟨ys, e1⟩ := k.2.1 _ _ e
    exact .lst e1
  | dic e =>
    obtain ⟨ys, e1⟩ := k.2.2 _ _ e
    exact .dic e1
  | tup e hl h ih => exact .tup (k.1 _ _ e) hl ih
theorem ThAt.ty {K : PySem.W.Frag} {H : Hp} {v : V} {t : Th} (h : ThAt B H v t) : ∃ T : String, TyX K H v (.type T) ∧ (match t with
    | .int _ => T = "int"
    | .bl _ => T = "bool"
    | .oth => T = "NoneType" ∨ T = "str" ∨ T = "list" ∨ T = "dict"
    | .tup _ => T = "tuple") := by
  cases h with
  | int n h1 h2 => exact ⟨_, .base (.int n), rfl⟩
  | bl b => exact ⟨_, .base (.bl b), rfl⟩
  | non => exact ⟨_, .base .non, .inl rfl⟩
  | str z => exact ⟨_, .base (.str z), .inr (.inl rfl)⟩
  | lst e => exact ⟨_, .base (.lst e), .inr (.inr (.inl rfl))⟩
  | dic e => exact ⟨_, .base (.dK e), .inr (.inr (.inr rfl))⟩
  | tup e hl h => exact ⟨_, .base (.tup e), rfl⟩
def Th.isT : Th → Bool
  | .tup _ => true
  | _ => false
def Th.isI : Th → Bool
  | .int _ => true
  | .bl _ => true
  | _ => false
def Th.isB : Th → Bool
  | .bl _ => true
  | _ => false
theorem isi_tup {K : PySem.W.Frag} {H : Hp} {v : V} {t : Th} (h : ThAt B H v t) : ∃ T : String, TyX K H v (.type T) ∧ PySem.W.kitOne K (.type T) (.type "tuple") = some t.isT := by
  obtain ⟨T, hT, ht⟩ := h.ty (K := K)
  refine ⟨T, hT, ?_⟩
  cases t with
  | int n =>
    have : T = "int" := ht
    subst this
    exact kit_ty (show kitB "int" "tuple" = some false by decide +kernel)
  | bl b =>
    have : T = "bool" := ht
    subst this
    exact kit_ty (show kitB "bool" "tuple" = some false by decide +kernel)
  | oth =>
    rcases ht with rfl | rfl | rfl | rfl
    · exact kit_ty (show kitB "NoneType" "tuple" = some false by decide +kernel)
    · exact kit_ty (show kitB "str" "tuple" = some false by decide +kernel)
    · exact kit_ty (show kitB "list" "tuple" = some false by decide +kernel)
    · exact kit_ty (show kitB "dict" "tuple" = some false by decide +kernel)
  | tup ts =>
    have : T = "tuple" := ht
    subst this
    exact kit_ty (show kitB "tuple" "tuple" = some true by decide +kernel)
theorem isi_int {K : PySem.W.Frag} {H : Hp} {v : V} {t : Th} (h : ThAt B H v t) : ∃ T : String, TyX K H v (.type T) ∧ PySem.W.kitOne K (.type T) (.type "int") = some t.isI := by
  obtain ⟨T, hT, ht⟩ := h.ty (K := K)
  refine ⟨T, hT, ?_⟩
  cases t with
  | int n =>
    have : T = "int" := ht
    subst this
    exact kit_ty (show kitB "int" "int" = some true by decide +kernel)
  | bl b =>
    have : T = "bool" := ht
    subst this
    exact kit_ty (show kitB "bool" "int" = some true by decide +kernel)
  | oth =>
    rcases ht with rfl | rfl | rfl | rfl
    · exact kit_ty (show kitB "NoneType" "int" = some false by decide +kernel)
    · exact kit_ty (show kitB "str" "int" = some false by decide +kernel)
    · exact kit_ty (show kitB "list" "int" = some false by decide +kernel)
    · exact kit_ty (show kitB "dict" "int" = some false by decide +kernel)
  | tup ts =>
    have : T = "tuple" := ht
    subst this
    exact kit_ty (show kitB "tuple" "int" = some false by decide +kernel)
theorem isi_bl {K : PySem.W.Frag} {H : Hp} {v : V} {t : Th} (h : ThAt B H v t) : ∃ T : String, TyX K H v (.type T) ∧ PySem.W.kitOne K (.type T) (.type "bool") = some t.isB := by
  obtain ⟨T, hT, ht⟩ := h.ty (K := K)
  refine ⟨T, hT, ?_⟩
  cases t with
  | int n =>
    have : T = "int" := ht
    subst this
    exact kit_ty (show kitB "int" "bool" = some false by decide +kernel)
  | bl b =>
    have : T = "bool" := ht
    subst this
    exact kit_ty (show kitB "bool" "bool" = some true by decide +kernel)
  | oth =>
    rcases ht with rfl | rfl | rfl | rfl
    · exact kit_ty (show kitB "NoneType" "bool" = some false by decide +kernel)
    · exact kit_ty (show kitB "str" "bool" = some false by decide +kernel)
    · exact kit_ty (show kitB "list" "bool" = some false by decide +kernel)
    · exact kit_ty (show kitB "dict" "bool" = some false by decide +kernel)
  | tup ts =>
    have : T = "tuple" := ht
    subst this
    exact kit_ty (show kitB "tuple" "bool" = some false by decide +kernel)
theorem ThAt.tupE {H : Hp} {v : V} {ts : List Th} (h : ThAt B H v (.tup ts)) : ∃ a vs, v = .ref a ∧ H a = some (.tup vs) ∧ vs.length = ts.length ∧ ∀ (i : Nat) (v : V) (t : Th), vs[i]? = some v → ts[i]? = some t → ThAt B H v t := by
  cases h with
  | tup e hl h => exact ⟨_, _, rfl, e, hl, h⟩
theorem ThAt.intE {H : Hp} {v : V} {n : Int} (h : ThAt B H v (.int n)) : v = .int n := by
  cases h
  rfl
theorem ThAt.intB {H : Hp} {v : V} {n : Int} (h : ThAt B H v (.int n)) : -B ≤ n ∧ n ≤ B := by
  cases h with
  | int n h1 h2 => exact ⟨h1, h2⟩
theorem ThAt.up {B B' : Int} {H : Hp} {v : V} {t : Th} (l : B ≤ B') (h : ThAt B H v t) : ThAt B' H v t := by
  induction h with
  | int n h1 h2 => exact .int n (by omega) (by omega)
  | bl b => exact .bl b
  | non => exact .non
  | str z => exact .str z
  | lst e => exact .lst e
  | dic e => exact .dic e
  | tup e hl h ih => exact .tup e hl ih
/-- wholes -/
def whT (t : Th) (least : Int) : Bool := match t with
  | .int n => decide (least ≤ n)
  | _ => false
def isBr : Th → Bool
  | .tup [a, b] => whT a 0 && whT b 0
  | _ => false
def firstT : Th → Int
  | .tup (.int n :: _) => n
  | _ => 0
def risesI : List Int → Bool
  | a :: b :: r => decide (a < b) && risesI (b :: r)
  | _ => true
def areBr : Th → Bool
  | .tup ts => decide (ts.length ≤ 20) && ts.all isBr && risesI (ts.map firstT)
  | _ => false
theorem wh_of {t : Th} {n : Int} (h : whT t n = true) : ∃ m, t = .int m ∧ n ≤ m := by
  cases t with
  | int m => exact ⟨m, rfl, of_decide_eq_true h⟩
  | bl b => cases h
  | oth => cases h
  | tup ts => cases h
theorem isBr_of {t : Th} (h : isBr t = true) : ∃ m l, t = .tup [.int m, .int l] ∧ 0 ≤ m ∧ 0 ≤ l := by
  cases t with
  | int m => cases h
  | bl b => cases h
  | oth => cases h
  | tup ts =>
    match ts, h with
    | [], h => cases h
    | [_], h => cases h
    | [a, b], h =>
      obtain ⟨h1, h2⟩ := Bool.and_eq_true_iff.mp (show (whT a 0 && whT b 0) = true from h)
      obtain ⟨m, rfl, m0⟩ := wh_of h1
      obtain ⟨l, rfl, l0⟩ := wh_of h2
      exact ⟨m, l, rfl, m0, l0⟩
    | _ :: _ :: _ :: _, h => cases h
def spWholeT : Sp := fun vs H Q _ => ∃ (v : V) (t : Th) (least : Int), vs = [v, .int least] ∧ ThAt topB H v t ∧ Q (.bl (whT t least)) H
def lenIn (t : Th) (a b : Int) : Bool := match t with
  | .tup ts => decide (a ≤ (ts.length : Int)) && decide ((ts.length : Int) ≤ b)
  | _ => false
def spTupleT : Sp := fun vs H Q _ => ∃ (v : V) (t : Th) (a b : Int), vs = [v, .int a, .int b] ∧ ThAt topB H v t ∧ Q (.bl (lenIn t a b)) H
def spIsBreak : Sp := fun vs H Q _ => ∃ (v : V) (t : Th), vs = [v] ∧ ThAt topB H v t ∧ Q (.bl (isBr t)) H
def spRise : Sp := fun vs H Q _ => ∃ (a : Addr) (ns : List Int), vs = [.ref a] ∧ H a = some (.lst (ns.map V.int)) ∧ ns.length ≤ 60 ∧ ∀ H', Same H H' → Q (.bl (risesI ns)) H'
def spAreBr : Sp := fun vs H Q _ => ∃ (v : V) (t : Th), vs = [v] ∧ ThAt topB H v t ∧ ∀ H', Same H H' → Q (.bl (areBr t)) H'
def spWhole1 : Sp := fun vs H Q _ => ∃ (v : V) (t : Th), vs = [v] ∧ ThAt topB H v t ∧ Q (.bl (whT t 0)) H
/-- ints and tuples of them -/
inductive IT : Th → Prop where
  | int {n : Int} (h1 : -2 ^ 250 ≤ n) (h2 : n ≤ 2 ^ 250) : IT (.int n)
  | tup {ts : List Th} (hl : ts.length ≤ 60) (h : ∀ t ∈ ts, IT t) : IT (.tup ts)
mutual
def Th.deep : Th → Nat
  | .tup ts => Th.deepAll ts + 1
  | _ => 0
def Th.deepAll : List Th → Nat
  | [] => 0
  | t :: r => max t.deep (Th.deepAll r)
end
theorem deep_mem : ∀ {ts : List Th} {t : Th}, t ∈ ts → t.deep ≤ Th.deepAll ts
  | x :: r, t, h => by
    show t.deep ≤ max x.deep (Th.deepAll r)
    rcases List.mem_cons.mp h with rfl | h
    · omega
    · have := deep_mem h
      omega
def spBent (n : Nat) : Sp := fun vs H Q _ => ∃ (B : Int) (p : Addr) (T : Nat) (v : V) (t : Th), vs = [.ref p, v] ∧ PotC H p T ∧ T + 4 * n < 2 ^ 36 ∧ ThAt B H v t ∧ IT t ∧ t.deep < n ∧ n ≤ 10 ∧ 0 ≤ B ∧ ∀ H' u s, PotC H' p (T + 4 * n) → Keep p p H H' → ThAt (2 * B + 100) H' u s → Q u H'
theorem Keep.newK {p a : Addr} {H H1 : Hp} {o : HO} (k : Keep p p H H1) (h : H1 a = none) : Keep p p H (upd H1 a o) := k.new h
theorem th_take {H : Hp} {vs : List V} {ts : List Th} (h : ∀ (i : Nat) (v : V) (t : Th), vs[i]? = some v → ts[i]? = some t → ThAt B H v t) (n : Nat) : ∀ (i : Nat) (v : V) (t : Th), (vs.take n)[i]? = some v → (ts.take n)[i]? = some t → ThAt B H v t := fun i v t h1 h2 => by
  rw [List.getElem?_take] at h1 h2
  split at h1
  · next c =>
    rw [if_pos c] at h2
    exact h i v t h1 h2
  · cases h1
theorem th_drop {H : Hp} {vs : List V} {ts : List Th} (h : ∀ (i : Nat) (v : V) (t : Th), vs[i]? = some v → ts[i]? = some t → ThAt B H v t) (n : Nat) : ∀ (i : Nat) (v : V) (t : Th), (vs.drop n)[i]? = some v → (ts.drop n)[i]? = some t → ThAt B H v t := fun i v t h1 h2 => by
  rw [List.getElem?_drop] at h1 h2
  exact h _ v t h1 h2
theorem th_app {H : Hp} {vs ws : List V} {ts ss : List Th} (hl : vs.length = ts.length) (h : ∀ (i : Nat) (v : V) (t : Th), vs[i]? = some v → ts[i]? = some t → ThAt B H v t) (g : ∀ (i : Nat) (v : V) (t : Th), ws[i]? = some v → ss[i]? = some t → ThAt B H v t) : ∀ (i : Nat) (v : V) (t : Th), (vs ++ ws)[i]? = some v → (ts ++ ss)[i]? = some t → ThAt B H v t := fun i v t h1 h2 => by
  by_cases c : i < vs.length
  · rw [List.getElem?_append_left c] at h1
    rw [List.getElem?_append_left (by omega)] at h2
    exact h i v t h1 h2
  · rw [List.getElem?_append_right (by omega)] at h1
    rw [List.getElem?_append_right (by omega), ← hl] at h2
    exact g _ v t h1 h2
/-- a tuple of things: its values and what they are -/
def ThsAt (B : Int) (H : Hp) (vs : List V) : Prop := ∃ ts : List Th, vs.length = ts.length ∧ ∀ (i : Nat) (v : V) (t : Th), vs[i]? = some v → ts[i]? = some t → ThAt B H v t
theorem ThsAt.app {H : Hp} {vs ws : List V} (a : ThsAt B H vs) (b : ThsAt B H ws) : ThsAt B H (vs ++ ws) := by
  obtain ⟨ts, h1, h2⟩ := a
  obtain ⟨ss, g1, g2⟩ := b
  exact ⟨ts ++ ss, by rw [List.length_append, List.length_append, h1, g1], th_app h1 h2 g2⟩
theorem ThsAt.take {H : Hp} {vs : List V} (a : ThsAt B H vs) (n : Nat) : ThsAt B H (vs.take n) := by
  obtain ⟨ts, h1, h2⟩ := a
  exact ⟨ts.take n, by rw [List.length_take, List.length_take, h1], th_take h2 n⟩
theorem ThsAt.drop {H : Hp} {vs : List V} (a : ThsAt B H vs) (n : Nat) : ThsAt B H (vs.drop n) := by
  obtain ⟨ts, h1, h2⟩ := a
  exact ⟨ts.drop n, by rw [List.length_drop, List.length_drop, h1], th_drop h2 n⟩
theorem ThsAt.one {H : Hp} {v : V} {t : Th} (h : ThAt B H v t) : ThsAt B H [v] := ⟨[t], rfl, fun i u s h1 h2 => by
  cases i with
  | zero =>
    cases h1
    cases h2
    exact h
  | succ i => cases h1⟩
theorem ThsAt.nil {H : Hp} : ThsAt B H [] := ⟨[], rfl, fun i u s h1 h2 => by cases h1⟩
theorem ThsAt.mono {H H' : Hp} {vs : List V} (a : ThsAt B H vs) (k : Kinds H H') : ThsAt B H' vs := by
  obtain ⟨ts, h1, h2⟩ := a
  exact ⟨ts, h1, fun i v t e1 e2 => (h2 i v t e1 e2).mono k⟩
theorem ThsAt.rev {H : Hp} {vs : List V} (a : ThsAt B H vs) : ThsAt B H vs.reverse := by
  obtain ⟨ts, h1, h2⟩ := a
  refine ⟨ts.reverse, by rw [List.length_reverse, List.length_reverse, h1], fun i v t e1 e2 => ?_⟩
  have hi : i < vs.length := by
    have := (List.getElem?_eq_some_iff.mp e1).1
    simpa using this
  rw [List.getElem?_reverse hi] at e1
  rw [List.getElem?_reverse (by omega)] at e2
  exact h2 _ v t e1 (by rw [h1]; exact e2)
theorem ThsAt.tup {H : Hp} {vs : List V} {a : Addr} (h : ThsAt B H vs) (e : H a = some (.tup vs)) : ∃ t, ThAt B H (.ref a) t := by
  obtain ⟨ts, h1, h2⟩ := h
  exact ⟨.tup ts, .tup e h1 h2⟩
theorem ThsAt.mem {H : Hp} {vs : List V} (h : ThsAt B H vs) {v : V} (hv : v ∈ vs) : ∃ t, ThAt B H v t := by
  obtain ⟨ts, h1, h2⟩ := h
  obtain ⟨i, hi, rfl⟩ := List.getElem_of_mem hv
  exact ⟨ts[i]'(by omega), h2 i _ _ (List.getElem?_eq_getElem hi) (List.getElem?_eq_getElem (by omega))⟩
def spOdd : Sp := fun vs H Q _ => vs = [] ∧ ∀ H' o xs, Same H H' → H o = none → H' o = some (.lst xs) → xs.length ≤ 20 → (∀ x ∈ xs, ∃ t, ThAt topB H' x t) → Q (.ref o) H'
def brT (b : Int × Int) : Th := .tup [.int b.1, .int b.2]
def spManyBr : Sp := fun vs H Q _ => ∃ (p : Addr) (T : Nat) (many : Int), vs = [.ref p, .int many] ∧ PotC H p T ∧ T < 2 ^ 37 ∧ 0 ≤ many ∧ many ≤ 20 ∧ ∀ H' o bs, PotC H' p (T + 50) → Keep p p H H' → BrAt H' o bs → bs.length ≤ 20 → (∀ b ∈ bs, 0 ≤ b.1 ∧ b.1 ≤ 2 ^ 200 ∧ 0 ≤ b.2 ∧ b.2 ≤ 2 ^ 200) → Q (.ref o) H'
theorem br_th {H : Hp} {o : Addr} {bs : List (Int × Int)} (h : BrAt H o bs) (bd : ∀ b ∈ bs, -B ≤ b.1 ∧ b.1 ≤ B ∧ -B ≤ b.2 ∧ b.2 ≤ B) : ThAt B H (.ref o) (.tup (bs.map brT)) := by
  obtain ⟨as, e, tb⟩ := h
  have hl : as.length = bs.length := by rw [tb.1, List.length_map]
  refine .tup e (by rw [List.length_map, List.length_map, hl]) fun i v t h1 h2 => ?_
  obtain ⟨a, m, l, rfl, ep, ea⟩ := step_get tb h1
  rw [List.getElem?_map, ep] at h2
  have : brT (m, l) = t := Option.some.inj h2
  subst this
  have hb := bd _ (List.mem_of_getElem? ep)
  refine .tup ea rfl fun j u s g1 g2 => ?_
  match j, g1, g2 with
  | 0, g1, g2 =>
    cases g1
    cases g2
    exact .int m hb.1 hb.2.1
  | 1, g1, g2 =>
    cases g1
    cases g2
    exact .int l hb.2.2.1 hb.2.2.2
def riseB (p : Int × Int) : Bool := decide (p.1 < p.2)
theorem rises_pairs : ∀ ns : List Int, risesI ns = ((List.zip ns (ns.drop 1)).map riseB).all id
  | [] => rfl
  | [_] => rfl
  | a :: b :: r => by
    have ih := rises_pairs (b :: r)
    show (decide (a < b) && risesI (b :: r)) = _
    rw [ih]
    rfl
theorem iteNF {A C : Prop} (h : A) : if (!false) = true then A else C := iteT h
theorem rises_get : ∀ {ns : List Int} {k : Nat} {a b : Int}, risesI ns = true → ns[k]? = some a → ns[k + 1]? = some b → a < b
  | [], k, a, b, h, h1, _ => by cases h1
  | [x], 0, a, b, h, _, h2 => by cases h2
  | [x], k + 1, a, b, h, h1, _ => by cases h1
  | x :: y :: r, 0, a, b, h, h1, h2 => by
    cases h1
    cases h2
    exact of_decide_eq_true (Bool.and_eq_true_iff.mp h).1
  | x :: y :: r, k + 1, a, b, h, h1, h2 => rises_get (ns := y :: r) (Bool.and_eq_true_iff.mp h).2 h1 h2
theorem rises_idx (ns : List Int) : risesI ns = (((List.range (ns.length - 1)).map fun k => decide (ns.getD k 0 < ns.getD (k + 1) 0)).all id) := by
  rw [rises_pairs]
  congr 1
  refine List.ext_getElem? fun i => ?_
  rw [List.getElem?_map, List.getElem?_map]
  by_cases h : i < ns.length - 1
  · have e1 : ns[i]? = some ns[i] := List.getElem?_eq_getElem (by omega)
    have e2 : ns[i + 1]? = some ns[i + 1] := List.getElem?_eq_getElem (by omega)
    have e3 : (List.zip ns (ns.drop 1))[i]? = some (ns[i], ns[i + 1]) := by
      rw [List.getElem?_zip_eq_some]
      refine ⟨e1, ?_⟩
      rw [List.getElem?_drop, Nat.add_comm]
      exact e2
    rw [e3, List.getElem?_range h]
    show some (riseB (ns[i], ns[i + 1])) = some (decide (ns.getD i 0 < ns.getD (i + 1) 0))
    rw [List.getD_eq_getElem?_getD, List.getD_eq_getElem?_getD, e1, e2]
    rfl
  · rw [List.getElem?_eq_none (by rw [List.length_zip, List.length_drop]; omega), List.getElem?_eq_none (by rw [List.length_range]; omega)]
    rfl
/-- a value of a written thing -/
def ThV (B : Int) (H : Hp) (v : V) : Prop := ∃ t, ThAt B H v t
theorem ThV.mono {H H' : Hp} {v : V} (h : ThV B H v) (k : Kinds H H') : ThV B H' v := by
  obtain ⟨t, h⟩ := h
  exact ⟨t, h.mono k⟩
theorem ThsAt.of : ∀ {H : Hp} {vs : List V}, (∀ v ∈ vs, ThV B H v) → ThsAt B H vs
  | H, [], _ => ThsAt.nil
  | H, v :: r, h => by
    obtain ⟨t, ht⟩ := h v List.mem_cons_self
    exact (ThsAt.one ht).app (ThsAt.of fun u hu => h u (List.mem_cons_of_mem _ hu))
theorem ThV.tup {H : Hp} {a : Addr} {vs : List V} (h : ∀ v ∈ vs, ThV B H v) (n : H a = none) : ThV B (upd H a (.tup vs)) (.ref a) :=
  ((ThsAt.of h).mono (Kinds.same (same_new (Same.refl _) n))).tup upd_same
theorem ThV.lst {H : Hp} {a : Addr} {xs : List V} (e : H a = some (.lst xs)) : ThV B H (.ref a) := ⟨.oth, .lst e⟩
theorem ThsAt.cut {H : Hp} {vs : List V} (a : ThsAt B H vs) (lo hi : Option Int) : ThsAt B H (cutV vs lo hi) := by
  unfold cutV
  exact (a.drop _).take _
theorem slT {K : PySem.W.Frag} {H : Hp} {a : Addr} {vs : List V} {lo hi : Option Int} {Q : VK} {N : Nat} (h : H a = some (.tup vs)) (t : ThsAt B H vs) (hl : vs.length ≤ N) (q : ∀ H' p ws, Same H H' → H' p = some (.tup ws) → ThsAt B H' ws → ws.length ≤ N → Q (.ref p) H') : rSlA K (.ref a) lo hi H Q :=
  slA h fun H' p s e => q H' p _ s e ((t.cut lo hi).mono (Kinds.same s)) (Nat.le_trans (cutV_length _ _ _) hl)
theorem catT {K : PySem.W.Frag} {H : Hp} {a b : Addr} {vs ws : List V} {Q : VK} (ha : H a = some (.tup vs)) (hb : H b = some (.tup ws)) (ta : ThsAt B H vs) (tb : ThsAt B H ws) (hz : vs.length + ws.length ≤ 1000) (q : ∀ H' p, Same H H' → H' p = some (.tup (vs ++ ws)) → ThsAt B H' (vs ++ ws) → Q (.ref p) H') : rCatA K (.ref a) (.ref b) H Q :=
  catA ha hb (Nat.le_of_lt (small1000 hz)) fun H' p s e => q H' p s e ((ta.app tb).mono (Kinds.same s))
theorem log_small {m : Int} (h1 : -2 ^ 250 ≤ m) (h2 : m ≤ 2 ^ 250) : m.natAbs.log2 < 400 := by
  by_cases c : m.natAbs = 0
  · rw [c]
    decide
  · have h : m.natAbs.log2 < 251 := by
      rw [Nat.log2_lt c]
      omega
    omega
mutual
def dataT : Th → PyData
  | .int n => .int n
  | .tup ts => .tuple (dataTs ts)
  | _ => .none
def dataTs : List Th → List PyData
  | [] => []
  | t :: r => dataT t :: dataTs r
end
theorem dataTs_map : ∀ ts : List Th, dataTs ts = ts.map dataT
  | [] => rfl
  | t :: r => by
    show dataT t :: dataTs r = dataT t :: r.map dataT
    rw [dataTs_map r]
theorem it_dp {K : PySem.W.Frag} {H : Hp} {t : Th} (i : IT t) : ∀ {v : V}, ThAt B H v t → Dp K H v (dataT t) := by
  induction i with
  | int h1 h2 =>
    intro v h
    rw [h.intE]
    exact .int _
  | @tup ts hl h ih =>
    intro v hv
    obtain ⟨a, vs, rfl, e, hvl, hh⟩ := hv.tupE
    refine .tup (SqT.of e) ?_
    rw [dataTs_map]
    clear hl h e hv
    induction ts generalizing vs with
    | nil =>
      have : vs = [] := List.eq_nil_of_length_eq_zero hvl
      subst this
      exact .nil
    | cons t r ihr =>
      cases vs with
      | nil => cases hvl
      | cons v ws => exact .cons (ih t List.mem_cons_self (hh 0 v t rfl rfl)) (ihr (fun x hx => ih x (List.mem_cons_of_mem _ hx)) ws (Nat.succ.inj hvl) fun i u s h1 h2 => hh (i + 1) u s h1 h2)
theorem it_sh {t : Th} (i : IT t) : Sh (dataT t) := by
  induction i with
  | int h1 h2 => exact .int (log_small h1 h2)
  | @tup ts hl h ih =>
    show Sh (.tuple (dataTs ts))
    rw [dataTs_map]
    refine .tup fun x hx => ?_
    obtain ⟨t, ht, rfl⟩ := List.mem_map.mp hx
    exact ih t ht
theorem it_depth {t : Th} (i : IT t) : (dataT t).depth ≤ t.deep := by
  induction i with
  | int h1 h2 => exact Nat.le_refl _
  | @tup ts hl h ih =>
    show PyData.depthAll (dataTs ts) + 1 ≤ Th.deepAll ts + 1
    refine Nat.succ_le_succ ?_
    rw [dataTs_map]
    refine depth_all fun x hx => ?_
    obtain ⟨t, ht, rfl⟩ := List.mem_map.mp hx
    exact Nat.le_trans (ih t ht) (deep_mem ht)
theorem deep_pairs {ts : List Th} (h : ∀ t ∈ ts, ∃ m l : Int, t = .tup [.int m, .int l]) : (Th.tup ts).deep < 3 := by
  show Th.deepAll ts + 1 < 3
  have : Th.deepAll ts ≤ 1 := by
    induction ts with
    | nil => exact Nat.zero_le _
    | cons t r ih =>
      obtain ⟨m, l, rfl⟩ := h t List.mem_cons_self
      have := ih fun x hx => h x (List.mem_cons_of_mem _ hx)
      show max (max 0 (max 0 0) + 1) (Th.deepAll r) ≤ 1
      omega
  omega
theorem ThsAt.up {B B' : Int} {H : Hp} {vs : List V} (l : B ≤ B') (h : ThsAt B H vs) : ThsAt B' H vs := by
  obtain ⟨ts, h1, h2⟩ := h
  exact ⟨ts, h1, fun i v t e1 e2 => (h2 i v t e1 e2).up l⟩
theorem areBr_it {H : Hp} {v : V} {t : Th} (hB : B ≤ 2 ^ 250) (h : ThAt B H v t) (e : areBr t = true) : IT t ∧ t.deep < 3 := by
  cases t with
  | int m => cases e
  | bl b => cases e
  | oth => cases e
  | tup ts =>
    obtain ⟨e1, _⟩ := Bool.and_eq_true_iff.mp (show (decide (ts.length ≤ 20) && ts.all isBr && risesI (ts.map firstT)) = true from e)
    obtain ⟨e1, e2⟩ := Bool.and_eq_true_iff.mp e1
    have e1 := of_decide_eq_true e1
    rw [List.all_eq_true] at e2
    obtain ⟨a, vs, rfl, _, hvl, hh⟩ := h.tupE
    refine ⟨.tup (by omega) fun x hx => ?_, deep_pairs fun x hx => ?_⟩
    · obtain ⟨m, l, rfl, m0, l0⟩ := isBr_of (e2 x hx)
      obtain ⟨i, hi, ei⟩ := List.getElem_of_mem hx
      have hx' := hh i _ _ (List.getElem?_eq_getElem (by omega)) (List.getElem?_eq_getElem hi)
      rw [ei] at hx'
      obtain ⟨c, ws, _, _, hwl, hw⟩ := hx'.tupE
      have hwl : ws.length = 2 := hwl
      have b1 := (hw 0 _ (.int m) (List.getElem?_eq_getElem (by omega)) rfl).intB
      have b2 := (hw 1 _ (.int l) (List.getElem?_eq_getElem (by omega)) rfl).intB
      refine .tup (by show 2 ≤ 60; decide) fun y hy => ?_
      simp only [List.mem_cons, List.not_mem_nil, or_false] at hy
      rcases hy with rfl | rfl
      · exact .int (by omega) (by omega)
      · exact .int (by omega) (by omega)
    · obtain ⟨m, l, rfl, _⟩ := isBr_of (e2 x hx)
      exact ⟨m, l, rfl⟩
end
/-! ### wisps, rows and schedules of any kind -/
def numT : Th → Int
  | .int n => n
  | _ => 0
def isStep : Th → Bool
  | .tup [a, b] => whT a 1 && whT b 1
  | _ => false
def fallsT : List Int → Bool
  | a :: b :: r => decide (b < a) && fallsT (b :: r)
  | _ => true
def areSteps : Th → Bool
  | .tup ts => decide (1 ≤ ts.length) && decide (ts.length ≤ 8) && ts.all isStep && fallsT (ts.map firstT)
  | _ => false
def isWispT : Th → Bool
  | .tup [s, st] => whT s 0 && decide (numT s ≤ 1) && areSteps st
  | _ => false
def isRowT : Th → Bool
  | .tup ts => decide (ts.length ≤ 60) && ts.all isWispT
  | _ => false
def goUp : Int → List Th → Bool
  | _, [] => true
  | least, t :: r => whT t least && goUp (numT t) r
def isSchedT (n : Nat) : Th → Bool
  | .tup ts => decide (ts.length = n) && goUp 0 ts
  | _ => false
theorem isStep_of {t : Th} (h : isStep t = true) : ∃ m l, t = .tup [.int m, .int l] ∧ 1 ≤ m ∧ 1 ≤ l := by
  cases t with
  | int m => cases h
  | bl b => cases h
  | oth => cases h
  | tup ts =>
    match ts, h with
    | [], h => cases h
    | [_], h => cases h
    | [a, b], h =>
      obtain ⟨h1, h2⟩ := Bool.and_eq_true_iff.mp (show (whT a 1 && whT b 1) = true from h)
      obtain ⟨m, rfl, m0⟩ := wh_of h1
      obtain ⟨l, rfl, l0⟩ := wh_of h2
      exact ⟨m, l, rfl, m0, l0⟩
    | _ :: _ :: _ :: _, h => cases h
def fallB (p : Int × Int) : Bool := decide (p.2 < p.1)
theorem falls_pairs : ∀ ns : List Int, fallsT ns = ((List.zip ns (ns.drop 1)).map fallB).all id
  | [] => rfl
  | [_] => rfl
  | a :: b :: r => by
    have ih := falls_pairs (b :: r)
    show (decide (b < a) && fallsT (b :: r)) = _
    rw [ih]
    rfl
def spStepT : Sp := fun vs H Q _ => ∃ (v : V) (t : Th), vs = [v] ∧ ThAt topB H v t ∧ Q (.bl (isStep t)) H
def spStepsT : Sp := fun vs H Q _ => ∃ (v : V) (t : Th), vs = [v] ∧ ThAt topB H v t ∧ ∀ H', Same H H' → Q (.bl (areSteps t)) H'
def spWispT : Sp := fun vs H Q _ => ∃ (v : V) (t : Th), vs = [v] ∧ ThAt topB H v t ∧ ∀ H', Same H H' → Q (.bl (isWispT t)) H'
def spRowT : Sp := fun vs H Q _ => ∃ (v : V) (t : Th), vs = [v] ∧ ThAt topB H v t ∧ ∀ H', Same H H' → Q (.bl (isRowT t)) H'
/-- a good row, and a thing of any kind -/
def spSchedT : Sp := fun vs H Q _ => ∃ (v u : V) (ts : List Th) (t : Th), vs = [v, u] ∧ ThAt topB H v (.tup ts) ∧ isRowT (.tup ts) = true ∧ ThAt topB H u t ∧ ∀ H', Same H H' → Q (.bl (isSchedT ts.length t)) H'
def spSchedL : Sp := fun vs H Q _ => ∃ (u : V) (n : Nat) (t : Th), vs = [.int n, u] ∧ ThAt topB H u t ∧ n ≤ 60 ∧ ∀ H', Same H H' → Q (.bl (isSchedT n t)) H'
def spToldT : Sp := fun vs H Q _ => ∃ b : Bool, vs = [.bl b, .bl b] ∧ Q (.bl true) H
def fitsT : Option Int → Int → Bool
  | none, _ => true
  | some l, m => decide (m < l)
def goFall : Option Int → List Th → Bool
  | _, [] => true
  | last, t :: r => isStep t && fitsT last (firstT t) && goFall (some (firstT t)) r
theorem fall_rest : ∀ {ts : List Th} {l : Int}, goFall (some l) ts = (ts.all isStep && fallsT (l :: ts.map firstT))
  | [], l => rfl
  | t :: r, l => by
    have ih := fall_rest (ts := r) (l := firstT t)
    show (isStep t && decide (firstT t < l) && goFall (some (firstT t)) r) = (isStep t && r.all isStep && (decide (firstT t < l) && fallsT (firstT t :: r.map firstT)))
    rw [ih]
    cases isStep t <;> cases decide (firstT t < l) <;> cases r.all isStep <;> rfl
theorem fall_all (ts : List Th) : goFall none ts = (ts.all isStep && fallsT (ts.map firstT)) := by
  cases ts with
  | nil => rfl
  | cons t r =>
    show (isStep t && true && goFall (some (firstT t)) r) = (isStep t && r.all isStep && fallsT (firstT t :: r.map firstT))
    rw [fall_rest]
    cases isStep t <;> cases r.all isStep <;> rfl
def lastV : Option Int → V
  | none => .non
  | some l => .int l
theorem up_idx : ∀ {ts : List Th} {n : Int}, ts.all (fun t => whT t 0) = true → 0 ≤ n → goUp n ts = ((List.range ts.length).map fun k => decide ((if k = 0 then n else numT (ts.getD (k - 1) .oth)) ≤ numT (ts.getD k .oth))).all id
  | [], n, _, _ => rfl
  | t :: r, n, h, hn => by
    obtain ⟨h1, h2⟩ := Bool.and_eq_true_iff.mp (show (whT t 0 && r.all fun t => whT t 0) = true from h)
    obtain ⟨m, rfl, m0⟩ := wh_of h1
    have ih := up_idx (ts := r) (n := m) h2 m0
    show (decide (n ≤ m) && goUp m r) = _
    rw [ih, show (Th.int m :: r).length = r.length + 1 from rfl, List.range_succ_eq_map, List.map_cons, List.all_cons, List.map_map]
    congr 1
    congr 1
    refine List.map_congr_left fun k hk => ?_
    cases k with
    | zero => rfl
    | succ k => rfl
theorem up_all {ts : List Th} (h : ts.all (fun t => whT t 0) = true) : goUp 0 ts = ((List.range (ts.length - 1)).map fun k => decide (numT (ts.getD k .oth) ≤ numT (ts.getD (k + 1) .oth))).all id := by
  cases ts with
  | nil => rfl
  | cons t r =>
    rw [up_idx h (Int.le_refl 0)]
    obtain ⟨h1, h2⟩ := Bool.and_eq_true_iff.mp (show (whT t 0 && r.all fun t => whT t 0) = true from h)
    obtain ⟨m, rfl, m0⟩ := wh_of h1
    rw [show (Th.int m :: r).length = r.length + 1 from rfl, List.range_succ_eq_map, List.map_cons, List.all_cons, List.map_map]
    show (decide (0 ≤ m) && _) = _
    rw [decide_eq_true m0, Bool.true_and]
    rfl
theorem up_whole : ∀ {ts : List Th} {n : Int}, 0 ≤ n → goUp n ts = true → ts.all (fun t => whT t 0) = true
  | [], _, _, _ => rfl
  | t :: r, n, hn, h => by
    obtain ⟨h1, h2⟩ := Bool.and_eq_true_iff.mp (show (whT t n && goUp (numT t) r) = true from h)
    obtain ⟨m, rfl, m0⟩ := wh_of h1
    show (decide (0 ≤ m) && r.all _) = true
    rw [up_whole (n := m) (by omega) h2, decide_eq_true (show 0 ≤ m by omega)]
    rfl
def spSchedule : Sp := fun vs H Q _ => ∃ (p : Addr) (T n : Nat), vs = [.ref p, .int n] ∧ PotC H p T ∧ T < 2 ^ 37 ∧ n ≤ 60 ∧ ∀ H' o (ms : List Int), PotC H' p (T + 1 + n) → Keep p p H H' → H' o = some (.tup (ms.map V.int)) → ms.length = n → (∀ m ∈ ms, 0 ≤ m ∧ m ≤ 2 ^ 200) → ms.Pairwise (fun a b => a ≤ b) → Q (.ref o) H'
def spDWisp8 : Sp := fun vs H Q _ => ∃ (p : Addr) (T : Nat) (sty : Int), vs = [.ref p, .int sty] ∧ PotC H p T ∧ T < 2 ^ 37 ∧ 0 ≤ sty ∧ sty < 3 ∧
  ∀ H' a W, WispAt H' a W.1 W.2 → GoodW W → Falls W.2 → W.2.length ≤ 8 → H a = none → PotC H' p (T + 100) → Keep p p H H' → Q (.ref a) H'
def wispT (W : Wi) : Th := .tup [.int W.1, .tup (W.2.map brT)]
/-- a good wisp, short and falling -/
def GoodT (W : Wi) : Prop := GoodW W ∧ Falls W.2 ∧ W.2.length ≤ 8
theorem steps_th {B : Int} {H : Hp} {st : Addr} {as : List Addr} {ps : List (Int × Int)} (e : H st = some (.tup (as.map V.ref))) (tu : TupsAt H as (ps.map stepV)) (bd : ∀ b ∈ ps, -B ≤ b.1 ∧ b.1 ≤ B ∧ -B ≤ b.2 ∧ b.2 ≤ B) : ThAt B H (.ref st) (.tup (ps.map brT)) := br_th ⟨as, e, tu⟩ bd
theorem wisp_th {H : Hp} {a : Addr} {W : Wi} (h : WispAt H a W.1 W.2) (g : GoodT W) : ThAt (2 ^ 200) H (.ref a) (wispT W) := by
  obtain ⟨st, as, e1, e2, tu⟩ := h
  obtain ⟨⟨gd, s0, s1, _⟩, _, _⟩ := g
  refine .tup e1 rfl fun j u t g1 g2 => ?_
  match j, g1, g2 with
  | 0, g1, g2 =>
    cases g1
    cases g2
    exact .int _ (by omega) (by omega)
  | 1, g1, g2 =>
    cases g1
    cases g2
    exact steps_th e2 tu fun b hb => by
      have := gd.2.2 b hb
      omega
theorem row_th {H : Hp} {r : Addr} {as : List Addr} {Ws : List Wi} (e : H r = some (.tup (as.map V.ref))) (ra : RowAt H as Ws) (g : ∀ W ∈ Ws, GoodT W) : ThAt (2 ^ 200) H (.ref r) (.tup (Ws.map wispT)) := by
  refine .tup e (by rw [List.length_map, List.length_map, ra.1]) fun i v t h1 h2 => ?_
  rw [List.getElem?_map] at h1 h2
  cases ea : as[i]? with
  | none =>
    rw [ea] at h1
    cases h1
  | some a =>
    rw [ea] at h1
    obtain ⟨W, eW, hW⟩ := ra.2 i a ea
    rw [eW] at h2
    have h1 : V.ref a = v := Option.some.inj h1
    have h2 : wispT W = t := Option.some.inj h2
    subst h1
    subst h2
    exact wisp_th hW (g W (List.mem_of_getElem? eW))
theorem falls_of : ∀ {ps : List (Int × Int)}, Falls ps → fallsT ((ps.map brT).map firstT) = true
  | [], _ => rfl
  | [_], _ => rfl
  | a :: b :: r, h => by
    have h1 := (List.pairwise_cons.mp h).1 b List.mem_cons_self
    have ih := falls_of (ps := b :: r) (List.pairwise_cons.mp h).2
    show (decide (b.1 < a.1) && fallsT (((b :: r).map brT).map firstT)) = true
    rw [ih, decide_eq_true h1]
    rfl
theorem good_isWisp {W : Wi} (g : GoodT W) : isWispT (wispT W) = true := by
  obtain ⟨⟨gd, s0, s1, _⟩, fl, l8⟩ := g
  have l1 := gd.1
  have hall : (W.2.map brT).all isStep = true := by
    rw [List.all_eq_true]
    intro t ht
    obtain ⟨b, hb, rfl⟩ := List.mem_map.mp ht
    have := gd.2.2 b hb
    show (decide (1 ≤ b.1) && decide (1 ≤ b.2)) = true
    rw [decide_eq_true (by omega), decide_eq_true (by omega)]
    rfl
  show (decide (0 ≤ W.1) && decide (W.1 ≤ 1) && (decide (1 ≤ (W.2.map brT).length) && decide ((W.2.map brT).length ≤ 8) && (W.2.map brT).all isStep && fallsT ((W.2.map brT).map firstT))) = true
  rw [hall, falls_of fl, List.length_map, decide_eq_true s0, decide_eq_true s1, decide_eq_true l1, decide_eq_true l8]
  rfl
theorem good_isRow {Ws : List Wi} (g : ∀ W ∈ Ws, GoodT W) (h60 : Ws.length ≤ 60) : isRowT (.tup (Ws.map wispT)) = true := by
  show (decide ((Ws.map wispT).length ≤ 60) && (Ws.map wispT).all isWispT) = true
  rw [List.length_map, decide_eq_true h60, Bool.true_and, List.all_eq_true]
  intro t ht
  obtain ⟨W, hW, rfl⟩ := List.mem_map.mp ht
  exact good_isWisp (g W hW)
theorem deep_all {ts : List Th} {n : Nat} (h : ∀ t ∈ ts, t.deep ≤ n) : Th.deepAll ts ≤ n := by
  induction ts with
  | nil => exact Nat.zero_le _
  | cons t r ih =>
    show max t.deep (Th.deepAll r) ≤ n
    have h1 := h t List.mem_cons_self
    have h2 := ih fun x hx => h x (List.mem_cons_of_mem _ hx)
    omega
theorem isRow_it {B : Int} {H : Hp} {v : V} {t : Th} (hB : B ≤ 2 ^ 250) (h : ThAt B H v t) (e : isRowT t = true) : IT t ∧ t.deep < 5 := by
  cases t with
  | int m => cases e
  | bl b => cases e
  | oth => cases e
  | tup ts =>
    obtain ⟨e1, e2⟩ := Bool.and_eq_true_iff.mp (show (decide (ts.length ≤ 60) && ts.all isWispT) = true from e)
    have e1 := of_decide_eq_true e1
    rw [List.all_eq_true] at e2
    obtain ⟨a, vs, rfl, _, hvl, hh⟩ := h.tupE
    have each : ∀ x ∈ ts, IT x ∧ x.deep ≤ 3 := fun x hx => by
      obtain ⟨i, hi, ei⟩ := List.getElem_of_mem hx
      have hx' := hh i _ _ (List.getElem?_eq_getElem (by omega)) (List.getElem?_eq_getElem hi)
      rw [ei] at hx'
      have ew := e2 x hx
      cases x with
      | int m => cases ew
      | bl b => cases ew
      | oth => cases ew
      | tup us =>
        match us, ew, hx' with
        | [], ew, _ => cases ew
        | [_], ew, _ => cases ew
        | _ :: _ :: _ :: _, ew, _ => cases ew
        | [s, st], ew, hx' =>
          obtain ⟨f1, f3⟩ := Bool.and_eq_true_iff.mp (show (whT s 0 && decide (numT s ≤ 1) && areSteps st) = true from ew)
          obtain ⟨f1, f2⟩ := Bool.and_eq_true_iff.mp f1
          obtain ⟨m, rfl, m0⟩ := wh_of f1
          obtain ⟨c, ws, _, _, hwl, hw⟩ := hx'.tupE
          have hwl : ws.length = 2 := hwl
          have b1 := (hw 0 _ (.int m) (List.getElem?_eq_getElem (by omega)) rfl).intB
          have hst := hw 1 _ st (List.getElem?_eq_getElem (by omega)) rfl
          have ist : IT st ∧ st.deep ≤ 2 := by
            cases st with
            | int m => cases f3
            | bl b => cases f3
            | oth => cases f3
            | tup ss =>
              obtain ⟨p1, _⟩ := Bool.and_eq_true_iff.mp (show (decide (1 ≤ ss.length) && decide (ss.length ≤ 8) && ss.all isStep && fallsT (ss.map firstT)) = true from f3)
              obtain ⟨p1, p2⟩ := Bool.and_eq_true_iff.mp p1
              obtain ⟨_, p3⟩ := Bool.and_eq_true_iff.mp p1
              have p3 := of_decide_eq_true p3
              rw [List.all_eq_true] at p2
              obtain ⟨_, ys, _, _, hyl, hy⟩ := hst.tupE
              refine ⟨.tup (by omega) fun y hy' => ?_, ?_⟩
              · obtain ⟨k, l, rfl, _⟩ := isStep_of (p2 y hy')
                obtain ⟨j, hj, ej⟩ := List.getElem_of_mem hy'
                have hyy := hy j _ _ (List.getElem?_eq_getElem (by omega)) (List.getElem?_eq_getElem hj)
                rw [ej] at hyy
                obtain ⟨_, zs, _, _, hzl, hz⟩ := hyy.tupE
                have hzl : zs.length = 2 := hzl
                have c1 := (hz 0 _ (.int k) (List.getElem?_eq_getElem (by omega)) rfl).intB
                have c2 := (hz 1 _ (.int l) (List.getElem?_eq_getElem (by omega)) rfl).intB
                refine .tup (by show 2 ≤ 60; decide) fun z hz => ?_
                simp only [List.mem_cons, List.not_mem_nil, or_false] at hz
                rcases hz with rfl | rfl
                · exact .int (by omega) (by omega)
                · exact .int (by omega) (by omega)
              · show Th.deepAll ss + 1 ≤ 2
                have := deep_all (ts := ss) (n := 1) fun y hy' => by
                  obtain ⟨k, l, rfl, _⟩ := isStep_of (p2 y hy')
                  exact Nat.le_refl _
                omega
          refine ⟨.tup (by show 2 ≤ 60; decide) fun z hz => ?_, ?_⟩
          · simp only [List.mem_cons, List.not_mem_nil, or_false] at hz
            rcases hz with rfl | rfl
            · exact .int (by omega) (by omega)
            · exact ist.1
          · show max 0 (max st.deep 0) + 1 ≤ 3
            have := ist.2
            omega
    refine ⟨.tup e1 fun x hx => (each x hx).1, ?_⟩
    show Th.deepAll ts + 1 < 5
    have := deep_all (ts := ts) (n := 3) fun x hx => (each x hx).2
    omega
theorem places_th {H : Hp} {o : Addr} {ms : List Int} (e : H o = some (.tup (ms.map V.int))) (bd : ∀ m ∈ ms, 0 ≤ m ∧ m ≤ 2 ^ 200) (h60 : ms.length ≤ 60) : ThAt (2 ^ 200) H (.ref o) (.tup (ms.map Th.int)) ∧ IT (.tup (ms.map Th.int)) ∧ (Th.tup (ms.map Th.int)).deep < 5 := by
  refine ⟨.tup e (by rw [List.length_map, List.length_map]) fun i v t h1 h2 => ?_, .tup (by rw [List.length_map]; exact h60) fun t ht => ?_, ?_⟩
  · rw [List.getElem?_map] at h1 h2
    cases em : ms[i]? with
    | none =>
      rw [em] at h1
      cases h1
    | some m =>
      rw [em] at h1 h2
      cases h1
      cases h2
      have := bd m (List.mem_of_getElem? em)
      exact .int m (by omega) (by omega)
  · obtain ⟨m, hm, rfl⟩ := List.mem_map.mp ht
    have := bd m hm
    exact .int (by omega) (by omega)
  · show Th.deepAll (ms.map Th.int) + 1 < 5
    have := deep_all (ts := ms.map Th.int) (n := 0) fun t ht => by
      obtain ⟨m, _, rfl⟩ := List.mem_map.mp ht
      exact Nat.le_refl _
    omega
/-! ### lists of a wisp, a place and None -/
def LstAt (H : Hp) (e : Addr) (L : Lw) : Prop := ∃ wa, H e = some (.lst [.ref wa, .int L.pl, .non]) ∧ WispAt H wa L.so L.ps
def lstD (L : Lw) : PyData := .list [wispD L.so L.ps, .int L.pl, .none]
def LstsAt (H : Hp) (D : Addr) (es : List Addr) (Ls : List Lw) : Prop := es.length = Ls.length ∧ ∀ (i : Nat) (e : Addr), es[i]? = some e → ∃ L, Ls[i]? = some L ∧ LstAt H e L ∧ e ≠ D
theorem LstsAt.nil {H : Hp} {D : Addr} : LstsAt H D [] [] := ⟨rfl, fun i e h => by cases h⟩
theorem LstAt.same {H H' : Hp} {e : Addr} {L : Lw} (s : Same H H') (h : LstAt H e L) : LstAt H' e L := by
  obtain ⟨wa, h1, h2⟩ := h
  exact ⟨wa, s _ _ h1, h2.mono (Tups.same s)⟩
theorem LstsAt.same {H H' : Hp} {D : Addr} {es : List Addr} {Ls : List Lw} (s : Same H H') (h : LstsAt H D es Ls) : LstsAt H' D es Ls :=
  ⟨h.1, fun i e he => by
    obtain ⟨L, h1, h2, h3⟩ := h.2 i e he
    exact ⟨L, h1, h2.same s, h3⟩⟩
theorem LstsAt.put {H : Hp} {D : Addr} {es : List Addr} {Ls : List Lw} {xs ys : List V} (h : LstsAt H D es Ls) (e : H D = some (.lst xs)) : LstsAt (upd H D (.lst ys)) D es Ls :=
  ⟨h.1, fun i c he => by
    obtain ⟨L, h1, ⟨wa, h2, h4⟩, h3⟩ := h.2 i c he
    exact ⟨L, h1, ⟨wa, (upd_ne h3).trans h2, h4.mono (Tups.ls e)⟩, h3⟩⟩
theorem LstsAt.snoc {H : Hp} {D c : Addr} {es : List Addr} {Ls : List Lw} {L : Lw} (h : LstsAt H D es Ls) (hc : LstAt H c L) (n : c ≠ D) : LstsAt H D (es ++ [c]) (Ls ++ [L]) := by
  refine ⟨by rw [List.length_append, List.length_append, h.1]; rfl, fun i e he => ?_⟩
  by_cases hi : i < es.length
  · rw [List.getElem?_append_left hi] at he
    obtain ⟨M, h1, h2, h3⟩ := h.2 i e he
    exact ⟨M, by rw [List.getElem?_append_left (by rw [← h.1]; exact hi)]; exact h1, h2, h3⟩
  · rw [List.getElem?_append_right (by omega)] at he
    have hz : i - es.length = 0 := by
      have := (List.getElem?_eq_some_iff.mp he).1
      have h1 : [c].length = 1 := rfl
      omega
    rw [hz] at he
    have : c = e := Option.some.inj he
    subst this
    refine ⟨L, ?_, hc, n⟩
    rw [List.getElem?_append_right (by rw [← h.1]; omega), ← h.1, hz]
    rfl
theorem lsts_dpA {K : PySem.W.Frag} {H : Hp} {D : Addr} : ∀ {es : List Addr} {Ls : List Lw}, LstsAt H D es Ls → DpAll K H (es.map V.ref) (Ls.map lstD)
  | [], [], _ => .nil
  | [], _ :: _, h => absurd h.1 (by simp)
  | _ :: _, [], h => absurd h.1 (by simp)
  | e :: es, L :: Ls, h => by
    obtain ⟨M, h1, ⟨wa, h2, h3⟩, _⟩ := h.2 0 e rfl
    have : L = M := Option.some.inj h1
    subst this
    exact .cons (.lst (SqL.of h2) (.cons h3.dp (.cons (.int _) (.cons .non .nil)))) (lsts_dpA ⟨Nat.succ.inj (by simpa using h.1), fun i b hb => h.2 (i + 1) b hb⟩)
theorem lsts_ne {K : PySem.W.Frag} {H : Hp} {a b D : Addr} {es fs : List Addr} {Ls : List Lw} {Q : VK} (ea : H a = some (.lst (es.map V.ref))) (eb : H b = some (.lst (fs.map V.ref))) (ha : LstsAt H D es Ls) (hb : LstsAt H b fs Ls) (g : ∀ L ∈ Ls, Good L.ps ∧ 0 ≤ L.so ∧ L.so ≤ 1 ∧ 0 ≤ L.pl ∧ L.pl < 2 ^ 250) (q : Q (.bl false) H) : rNeD K (.ref a) (.ref b) H Q := by
  have sh : SeqAt.shaped (.list (Ls.map lstD)) = true := by
    refine Sh.shaped (.lst fun x hx => ?_) ?_
    · obtain ⟨L, hL, rfl⟩ := List.mem_map.mp hx
      obtain ⟨g1, g2, g3, g4, g5⟩ := g L hL
      refine .lst fun y hy => ?_
      simp only [List.mem_cons, List.not_mem_nil, or_false] at hy
      rcases hy with rfl | rfl | rfl
      · exact wisp_sh g2 g3 g1
      · exact .int (log_lt g4 g5)
      · exact .non
    · refine Nat.le_trans (Nat.succ_le_succ (depth_all (n := 4) fun x hx => ?_)) (by decide)
      obtain ⟨L, hL, rfl⟩ := List.mem_map.mp hx
      show max (wispD L.so L.ps).depth (max 0 (max 0 0)) + 1 ≤ 4
      have := wisp_depth L.so L.ps
      omega
  refine ⟨.list (Ls.map lstD), .list (Ls.map lstD), .lst (SqL.of ea) (lsts_dpA ha), .lst (SqL.of eb) (lsts_dpA hb), sh, sh, ?_⟩
  rw [SeqAt.eqv_refl _ (SeqAt.canLay_of_shaped sh)]
  exact q
/-! ### things of any kind, all that is in them told -/
inductive Dd (B : Int) (p l : Addr) (Y : List Addr) (H : Hp) : V → PyData → Prop where
  | non : Dd B p l Y H .non .none
  | bl (b : Bool) : Dd B p l Y H (.bl b) (.bool b)
  | int (n : Int) (h1 : -B ≤ n) (h2 : n ≤ B) : Dd B p l Y H (.int n) (.int n)
  | str (z : String) (h : z.length ≤ 260) : Dd B p l Y H (.str (Str.ofString z)) (.str (Str.ofString z))
  | dic0 {a : Addr} (np : a ≠ p) (nl : a ≠ l) (ny : a ∉ Y) (e : H a = some (.dK [])) : Dd B p l Y H (.ref a) (.dict [])
  | dic1 {a : Addr} (np : a ≠ p) (nl : a ≠ l) (ny : a ∉ Y) (e : H a = some (.dK [(Sum.inr "sort", .int 0)])) : Dd B p l Y H (.ref a) (.dict [(.str "sort", .int 0)])
  | lst {a : Addr} {vs : List V} {ds : List PyData} (np : a ≠ p) (nl : a ≠ l) (ny : a ∉ Y) (e : H a = some (.lst vs)) (hl : vs.length = ds.length) (h : ∀ (i : Nat) (v : V) (d : PyData), vs[i]? = some v → ds[i]? = some d → Dd B p l Y H v d) : Dd B p l Y H (.ref a) (.list ds)
  | tup {a : Addr} {vs : List V} {ds : List PyData} (np : a ≠ p) (nl : a ≠ l) (ny : a ∉ Y) (e : H a = some (.tup vs)) (hl : vs.length = ds.length) (h : ∀ (i : Nat) (v : V) (d : PyData), vs[i]? = some v → ds[i]? = some d → Dd B p l Y H v d) : Dd B p l Y H (.ref a) (.tuple ds)
section
variable {B : Int} {p l : Addr} {Y : List Addr}
theorem Dd.mono {H H' : Hp} (k : Keep p l H H') {v : V} {d : PyData} (h : Dd B p l Y H v d) : Dd B p l Y H' v d := by
  induction h with
  | non => exact .non
  | bl b => exact .bl b
  | int n h1 h2 => exact .int n h1 h2
  | str z h => exact .str z h
  | dic0 np nl ny e => exact .dic0 np nl ny (k _ _ np nl e)
  | dic1 np nl ny e => exact .dic1 np nl ny (k _ _ np nl e)
  | lst np nl ny e hl _ ih => exact .lst np nl ny (k _ _ np nl e) hl ih
  | tup np nl ny e hl _ ih => exact .tup np nl ny (k _ _ np nl e) hl ih
theorem Dd.up {B' : Int} (hB : B ≤ B') {H : Hp} {v : V} {d : PyData} (h : Dd B p l Y H v d) : Dd B' p l Y H v d := by
  induction h with
  | non => exact .non
  | bl b => exact .bl b
  | int n h1 h2 => exact .int n (by omega) (by omega)
  | str z h => exact .str z h
  | dic0 np nl ny e => exact .dic0 np nl ny e
  | dic1 np nl ny e => exact .dic1 np nl ny e
  | lst np nl ny e hl _ ih => exact .lst np nl ny e hl ih
  | tup np nl ny e hl _ ih => exact .tup np nl ny e hl ih
mutual
def thD : PyData → Th
  | .int n => .int n
  | .bool b => .bl b
  | .tuple ds => .tup (thDs ds)
  | _ => .oth
def thDs : List PyData → List Th
  | [] => []
  | d :: r => thD d :: thDs r
end
theorem thDs_length : ∀ ds : List PyData, (thDs ds).length = ds.length
  | [] => rfl
  | d :: r => congrArg (· + 1) (thDs_length r)
theorem thDs_get : ∀ (ds : List PyData) (i : Nat) (t : Th), (thDs ds)[i]? = some t → ∃ d, ds[i]? = some d ∧ t = thD d
  | [], i, t, h => by cases h
  | d :: r, 0, t, h => ⟨d, rfl, (Option.some.inj h).symm⟩
  | d :: r, i + 1, t, h => thDs_get r i t h
theorem Dd.th {H : Hp} {v : V} {d : PyData} (h : Dd B p l Y H v d) : ThAt B H v (thD d) := by
  induction h with
  | non => exact .non
  | bl b => exact .bl b
  | int n h1 h2 => exact .int n h1 h2
  | str z h => exact .str _
  | dic0 np nl ny e => exact .dic e
  | dic1 np nl ny e => exact .dic e
  | lst np nl ny e hl _ ih => exact .lst e
  | tup np nl ny e hl _ ih =>
    refine .tup e (hl.trans (thDs_length _).symm) fun i v t e1 e2 => ?_
    obtain ⟨d, e3, rfl⟩ := thDs_get _ i t e2
    exact ih i v d e1 e3
/-! what is read of them -/
theorem readsAll_of {h : Heap} {φ : Addr → Prop} : ∀ (vs : List V) (ds : List PyData) (us : List Value), vs.length = ds.length → Vals vs us → (∀ (i : Nat) (v : V) (d : PyData) (u : Value), vs[i]? = some v → ds[i]? = some d → us[i]? = some u → RelV v u → ∃ as, Reads h u d as ∧ ∀ b ∈ as, φ b) → ∃ as, ReadsAll h us ds as ∧ ∀ b ∈ as, φ b
  | [], [], _, _, .nil, _ => ⟨_, .nil, fun b hb => by cases hb⟩
  | v :: vs, d :: ds, _, hl, .cons r t, f => by
    rename_i u us
    obtain ⟨as, h1, h2⟩ := f 0 v d _ rfl rfl rfl r
    obtain ⟨bs, g1, g2⟩ := readsAll_of vs ds _ (Nat.succ.inj hl) t fun i v d u e1 e2 e3 => f (i + 1) v d u e1 e2 e3
    refine ⟨_, .cons h1 g1, fun b hb => ?_⟩
    rcases List.mem_append.mp hb with hb | hb
    · exact h2 b hb
    · exact g2 b hb
theorem Dd.reads {X : Cx} {pins : List (Addr × Obj)} {σ : L2.St} {s : Shared} {H : Hp} (I : L2.Inv X pins σ H s) {v : V} {d : PyData} (h : Dd B p l Y H v d) : ∀ u, RelV v u → ∃ as, Reads s.heap u d as ∧ ∀ b ∈ as, H b ≠ none := by
  induction h with
  | non => intro u r; cases r; exact ⟨_, .none, fun b hb => by cases hb⟩
  | bl b => intro u r; cases r; exact ⟨_, .bool b, fun b hb => by cases hb⟩
  | int n h1 h2 =>
    intro u r
    obtain ⟨t, rfl⟩ := r
    exact ⟨_, .int n t, fun b hb => by cases hb⟩
  | str z h =>
    intro u r
    obtain ⟨t, rfl⟩ := r
    exact ⟨_, .str _ t, fun b hb => by cases hb⟩
  | @dic0 a np nl ny e =>
    intro u r
    cases r
    obtain ⟨_, _, vs, rv, o, es, ep, ho, hx, hd, _, pr, _⟩ : ([] : List (Key × V)).length ≤ sizeLine ∧ (a == sysModules) = false ∧ ∃ vs, KV ([] : List (Key × V)) vs ∧ s.heap.DictOf (mixKind X.prog X.w) a vs := I.hok a _ e
    cases rv
    have e1 : es.toList = [] := by
      generalize es.toList = q at pr
      cases pr
      rfl
    refine ⟨_, .dict (kvs := []) ho hx.1 hd (by rw [e1]; exact .nil) (by rw [e1]; exact .nil), fun b hb => ?_⟩
    simp only [List.append_nil, List.mem_singleton] at hb
    rw [hb, e]
    exact fun c => by cases c
  | @dic1 a np nl ny e =>
    intro u r
    cases r
    obtain ⟨_, _, vs, rv, o, es, ep, ho, hx, hd, _, pr, _⟩ : ([(Sum.inr "sort", V.int 0)] : List (Key × V)).length ≤ sizeLine ∧ (a == sysModules) = false ∧ ∃ vs, KV ([(Sum.inr "sort", V.int 0)] : List (Key × V)) vs ∧ s.heap.DictOf (mixKind X.prog X.w) a vs := I.hok a _ e
    cases rv with
    | cons r1 r2 =>
      cases r2
      rename_i kv _
      obtain ⟨k, w1⟩ := kv
      obtain ⟨ek, t0, er⟩ : (Sum.inr "sort" : Key) = k ∧ RelV (.int 0) w1 := r1
      subst ek
      have er : w1 = .int 0 t0 := er
      subst er
      obtain ⟨x, t, ex, e1, e2⟩ : ∃ x t, es.toList = [x] ∧ x.key = Value.str "sort" t ∧ x.val = .int 0 t0 := by
        generalize es.toList = q at pr
        cases pr with
        | cons p1 p2 p3 =>
          cases p3
          rcases keyIs_shape (show keyIs (Sum.inr (Str.ofString "sort")) _ = true from p1) with ⟨i, t, e, _⟩ | ⟨y, t, e, e2⟩
          · cases e
          · cases e
            exact ⟨_, t, rfl, e2, p2⟩
      refine ⟨_, .dict (kvs := [(.str "sort", .int 0)]) ho hx.1 hd (as := []) (bs := []) (by rw [ex]; show ReadsAll _ [x.key] [_] _; rw [e1]; exact ReadsAll.cons (as := []) (.str _ _) .nil) (by rw [ex]; show ReadsAll _ [x.val] [_] _; rw [e2]; exact ReadsAll.cons (as := []) (.int _ _) .nil), fun b hb => ?_⟩
      simp only [List.append_nil, List.mem_singleton] at hb
      rw [hb, e]
      exact fun c => by cases c
  | @lst a vs ds np nl ny e hl _ ih =>
    intro u r
    cases r
    obtain ⟨its, rv, ⟨o, n, ho, hc, _, hd⟩, _⟩ := I.list (SqL.of e)
    obtain ⟨as, h1, h2⟩ := readsAll_of (φ := fun b => H b ≠ none) vs ds its hl rv fun i v d u e1 e2 _ r => ih i v d e1 e2 u r
    refine ⟨_, .list ho hc hd h1, fun b hb => ?_⟩
    rcases List.mem_cons.mp hb with rfl | hb
    · rw [e]
      exact fun c => by cases c
    · exact h2 b hb
  | @tup a vs ds np nl ny e hl _ ih =>
    intro u r
    cases r
    obtain ⟨its, rv, ⟨o, ho, hc, n, hd⟩, _⟩ := I.tuple (SqT.of e)
    obtain ⟨as, h1, h2⟩ := readsAll_of (φ := fun b => H b ≠ none) vs ds its hl rv fun i v d u e1 e2 _ r => ih i v d e1 e2 u r
    exact ⟨_, .tuple ho hc hd h1, h2⟩
/-! how they are shown -/
theorem showAll_of : ∀ {ds : List PyData}, (∀ d ∈ ds, d.showable = true ∧ d.leavesShort 401 = true) → PyData.showableAll ds = true ∧ PyData.leavesShortAll 401 ds = true
  | [], _ => ⟨rfl, rfl⟩
  | d :: r, h => by
    obtain ⟨h1, h2⟩ := h d List.mem_cons_self
    obtain ⟨g1, g2⟩ := showAll_of fun x hx => h x (List.mem_cons_of_mem _ hx)
    constructor
    · show (d.showable && PyData.showableAll r) = true
      rw [h1, g1]
      rfl
    · show (d.leavesShort 401 && PyData.leavesShortAll 401 r) = true
      rw [h2, g2]
      rfl
theorem str_short (z : String) : PyData.leavesShort 401 (.str (Str.ofString z)) = true := by
  show ((Str.ofString z).cps.toList.all fun c => decide (c < 16 ^ 8)) = true
  rw [Str.ofString_eq_toList, List.all_eq_true]
  intro c hc
  refine decide_eq_true ?_
  obtain ⟨x, _, rfl⟩ := List.mem_map.mp hc
  have h : x.toNat < 1114112 := by
    rcases x.valid with h | h
    · exact Nat.lt_trans h (by decide)
    · exact h.2
  omega
theorem Dd.shows (hB : B ≤ 2 ^ 250) {H : Hp} {v : V} {d : PyData} (h : Dd B p l Y H v d) : d.showable = true ∧ d.leavesShort 401 = true := by
  induction h with
  | non => exact ⟨rfl, rfl⟩
  | bl b => exact ⟨rfl, rfl⟩
  | int n h1 h2 =>
    have h := log_small (m := n) (by omega) (by omega)
    refine ⟨decide_eq_true (by omega), decide_eq_true ?_⟩
    have := int_text_length_le (by decide) h
    show (Str.ofString (toString _)).length ≤ 401
    rw [PySem.ofString_length]
    exact this
  | str z h => exact ⟨rfl, str_short z⟩
  | dic0 np nl ny e => exact ⟨rfl, rfl⟩
  | dic1 np nl ny e => exact ⟨by decide +kernel, by decide +kernel⟩
  | @lst a vs ds np nl ny e hl _ ih =>
    refine showAll_of fun d hd => ?_
    obtain ⟨i, hi, rfl⟩ := List.getElem_of_mem hd
    exact ih i _ _ (List.getElem?_eq_getElem (by omega)) (List.getElem?_eq_getElem hi)
  | @tup a vs ds np nl ny e hl _ ih =>
    refine showAll_of fun d hd => ?_
    obtain ⟨i, hi, rfl⟩ := List.getElem_of_mem hd
    exact ih i _ _ (List.getElem?_eq_getElem (by omega)) (List.getElem?_eq_getElem hi)
theorem Dd.fits (hB : B ≤ 2 ^ 250) {H : Hp} {v : V} {d : PyData} (h : Dd B p l Y H v d) (hb : d.bulk ≤ 40000) : d.shown.length ≤ sizeLine := by
  have h1 := PyData.shown_le_bulk 401 (by decide) d (h.shows hB).2
  have h2 : (401 + 2) * d.bulk ≤ (401 + 2) * 40000 := Nat.mul_le_mul_left _ hb
  rw [sizeLine_eq]
  omega
end
theorem reprAll_of {P : Program} {w : World} {h : Heap} : ∀ (vs : List V) (ds : List PyData) (us : List Value), vs.length = ds.length → Vals vs us → (∀ t ∈ PyData.shownAll ds, t.length ≤ sizeLine) → (∀ (i : Nat) (v : V) (d : PyData), vs[i]? = some v → ds[i]? = some d → d.shown.length ≤ sizeLine → ∀ u, RelV v u → ∃ bs, ReadAtMost h d.depth bs ∧ ReprK P w bs h d.depth u d.shown) → ∃ bs, ReadAtMost h (PyData.depthAll ds) bs ∧ ReprAllK P w bs h (PyData.depthAll ds) us (PyData.shownAll ds)
  | [], [], _, _, .nil, _, _ => ⟨[], (fun _ h => nomatch h), by simp only [PyData.shownAll]; exact .nil⟩
  | v :: vs, d :: ds, _, hl, .cons r t, hz, f => by
    rename_i u us
    obtain ⟨b1, hb1, k1⟩ := f 0 v d rfl rfl (hz _ (by simp only [PyData.shownAll]; exact List.mem_cons_self ..)) _ r
    obtain ⟨b2, hb2, k2⟩ := reprAll_of vs ds _ (Nat.succ.inj hl) t (fun t ht => hz t (by simp only [PyData.shownAll]; exact List.mem_cons_of_mem _ ht)) fun i v d e1 e2 => f (i + 1) v d e1 e2
    refine ⟨b1 ++ b2, ?_, ?_⟩
    · intro b hm
      simp only [PyData.depthAll]
      rcases List.mem_append.mp hm with hm | hm
      · obtain ⟨d', as', r', hd'⟩ := hb1 b hm
        exact ⟨d', as', r', Nat.le_trans hd' (Nat.le_max_left _ _)⟩
      · obtain ⟨d', as', r', hd'⟩ := hb2 b hm
        exact ⟨d', as', r', Nat.le_trans hd' (Nat.le_max_right _ _)⟩
    · simp only [PyData.depthAll, PyData.shownAll]
      exact .cons ((k1.more fun b hb => List.mem_append_left _ hb).level_le (Nat.le_max_left _ _)) (k2.more_le (fun b hb => List.mem_append_right _ hb) (Nat.le_max_right _ _))
theorem dict_read {X : Cx} {pins : List (Addr × Obj)} {σ : L2.St} {s : Shared} {H : Hp} (I : L2.Inv X pins σ H s) {a : Addr} {kvs : List (PyData × PyData)} (hs : (a == sysModules) = false) (r : ∃ as, Reads s.heap (.ref a) (.dict kvs) as) (hk : kvs = [] ∨ kvs = [(.str "sort", .int 0)]) : ∃ (o : Obj) (es : Array DictEntry) (n : Nat), s.heap.get? a = some o ∧ o.cls = .type "dict" ∧ o.data = .dict es n ∧ ReprEntriesK X.prog X.w [] s.heap 0 es.toList (PyData.shownKv kvs) := by
  obtain ⟨as, r⟩ := r
  cases r with
  | dict h1 h2 h3 h4 h5 =>
    refine ⟨_, _, _, h1, h2, h3, ?_⟩
    rcases hk with rfl | rfl
    · rename_i o es n as bs
      generalize es.toList = q at h4 h5
      cases q with
      | nil => exact .nil
      | cons x y => cases h4
    · rename_i o es n as bs
      generalize es.toList = q at h4 h5
      match q, h4, h5 with
      | [], h4, _ => cases h4
      | [x], h4, h5 =>
        have h4 : ReadsAll s.heap [x.key] [.str "sort"] as := h4
        have h5 : ReadsAll s.heap [x.val] [.int 0] bs := h5
        cases h4 with
        | cons r1 r2 =>
          cases h5 with
          | cons q1 q2 =>
            generalize hk : x.key = kk at r1
            generalize hv : x.val = vv at q1
            cases r1
            cases q1
            refine ReprEntriesK.cons (e := x) ?_ ?_ .nil
            · rw [hk]
              exact .of_is (ReprIs.str _ _ (by decide +kernel)) _ _ _
            · rw [hv]
              exact .of_is (ReprIs.int _ (by decide +kernel)) _ _ _
      | x :: y :: z, h4, _ =>
        have h4 : ReadsAll s.heap (x.key :: y.key :: z.map (·.key)) [.str "sort"] as := h4
        cases h4 with
        | cons r1 r2 => cases r2
section
variable {B : Int} {p l : Addr} {Y : List Addr}
theorem Dd.sys {X : Cx} {pins : List (Addr × Obj)} {σ : L2.St} {s : Shared} {H : Hp} (I : L2.Inv X pins σ H s) {a : Addr} {kvs : List (PyData × PyData)} (h : Dd B p l Y H (.ref a) (.dict kvs)) : (a == sysModules) = false ∧ (kvs = [] ∨ kvs = [(.str "sort", .int 0)]) := by
  cases h with
  | dic0 np nl ny e => exact ⟨(dk_of I.hok e).2.1, .inl rfl⟩
  | dic1 np nl ny e => exact ⟨(dk_of I.hok e).2.1, .inr rfl⟩
theorem Dd.reprK {X : Cx} {pins : List (Addr × Obj)} {σ : L2.St} {s : Shared} {H : Hp} (I : L2.Inv X pins σ H s) (hB : B ≤ 2 ^ 250) {v : V} {d : PyData} (h : Dd B p l Y H v d) : d.shown.length ≤ sizeLine → ∀ u, RelV v u → ∃ bs, ReadAtMost s.heap d.depth bs ∧ ReprK X.prog X.w bs s.heap d.depth u d.shown := by
  have dic : ∀ {a : Addr} {kvs : List (PyData × PyData)}, Dd B p l Y H (.ref a) (.dict kvs) → ∃ bs, ReadAtMost s.heap (PyData.depth (.dict kvs)) bs ∧ ReprK X.prog X.w bs s.heap (PyData.depth (.dict kvs)) (.ref a) (PyData.shown (.dict kvs)) := fun {a kvs} hd => by
    obtain ⟨hs, hk⟩ := hd.sys I
    obtain ⟨as, r, _⟩ := hd.reads I (.ref a) rfl
    obtain ⟨o, es, n, h1, h2, h3, h4⟩ := dict_read I hs ⟨as, r⟩ hk
    refine ⟨[a], ReadAtMost.cons (n := 0) r (Nat.zero_le _) (fun _ h => nomatch h), ?_⟩
    have e : PyData.depth (.dict kvs) = 0 + 1 := by rcases hk with rfl | rfl <;> rfl
    rw [e]
    simp only [PyData.shown]
    exact ReprK.dict h1 h2 h3 hs (fun h => nomatch h) h4
  induction h with
  | non => exact fun _ u r => by cases r; exact ⟨[], (fun _ h => nomatch h), by simp only [PyData.shown]; exact .of_is ReprIs.none _ _ _⟩
  | bl b => exact fun _ u r => by cases r; exact ⟨[], (fun _ h => nomatch h), by simp only [PyData.shown]; exact .of_is (ReprIs.bool b) _ _ _⟩
  | int n h1 h2 =>
    intro _ u r
    obtain ⟨t, rfl⟩ := r
    have hs := ((Dd.int (B := B) (p := p) (l := l) (Y := Y) (H := H) n h1 h2).shows hB).1
    exact ⟨[], (fun _ h => nomatch h), by simp only [PyData.shown]; exact .of_is (ReprIs.int t (by simpa [PyData.showable] using hs)) _ _ _⟩
  | str z h =>
    intro hz u r
    obtain ⟨t, rfl⟩ := r
    exact ⟨[], (fun _ h => nomatch h), by simp only [PyData.shown]; exact .of_is (ReprIs.str _ t (by simpa only [PyData.shown] using hz)) _ _ _⟩
  | dic0 np nl ny e => exact fun _ u r => by cases r; exact dic (.dic0 np nl ny e)
  | dic1 np nl ny e => exact fun _ u r => by cases r; exact dic (.dic1 np nl ny e)
  | @lst a vs ds np nl ny e hl hh ih =>
    intro hz u r
    obtain ⟨as, rd, _⟩ := (Dd.lst np nl ny e hl hh).reads I u r
    cases r
    have hz' : (listText (PyData.shownAll ds)).length ≤ sizeLine := by simpa only [PyData.shown] using hz
    obtain ⟨its, rv, ⟨o, n, ho, hc, _, hd⟩, _⟩ := I.list (SqL.of e)
    obtain ⟨bs, hb, hk⟩ := reprAll_of vs ds its hl rv (fun t ht => Nat.le_trans (listText_mem_le ht) hz') ih
    have hna : a ∉ bs := not_mem_of_deeper rd (by simp only [PyData.depth]; omega) hb
    refine ⟨a :: bs, ReadAtMost.cons rd (by simp only [PyData.depth]; omega) hb, ?_⟩
    simp only [PyData.depth, PyData.shown]
    cases its with
    | nil =>
      cases rv
      cases ds with
      | nil =>
        simp only [PyData.shownAll, listText_nil]
        exact ReprK.listEmpty ho hc hd
      | cons x y => cases hl
    | cons x l => exact ReprK.list ho hc hd hna (by simpa using hk.length_eq) (fun i y e => hk.item i y (by simpa using e))
  | @tup a vs ds np nl ny e hl hh ih =>
    intro hz u r
    obtain ⟨as, rd, _⟩ := (Dd.tup np nl ny e hl hh).reads I u r
    cases r
    have hz' : (tupleText (PyData.shownAll ds)).length ≤ sizeLine := by simpa only [PyData.shown] using hz
    obtain ⟨its, rv, ⟨o, ho, hc, n, hd⟩, _⟩ := I.tuple (SqT.of e)
    obtain ⟨bs, hb, hk⟩ := reprAll_of vs ds its hl rv (fun t ht => Nat.le_trans (tupleText_mem_le ht) hz') ih
    have hna : a ∉ bs := not_mem_of_deeper rd (by simp only [PyData.depth]; omega) hb
    refine ⟨a :: bs, ReadAtMost.cons rd (by simp only [PyData.depth]; omega) hb, ?_⟩
    simp only [PyData.depth, PyData.shown]
    exact ReprK.tuple ho hc hd hna hk
end
def rReprX : List V → Hp → VK → Prop := fun xs H Q => ∃ (B : Int) (p l : Addr) (Y : List Addr) (v : V) (d : PyData), xs = [v] ∧ Dd B p l Y H v d ∧ B ≤ 2 ^ 250 ∧ d.bulk ≤ 40000 ∧ d.depth ≤ 100 ∧ Q (.str d.shown) H
theorem call_reprX {X : Cx} (gd : X.A.guards = some []) (hu : X.A.units + 164 < cLine) : CallR X (.builtin "repr") rReprX := by
  intro pins s σ H xs us Q I va h
  obtain ⟨B, p, l, Y, v, d, rfl, dd, hB, hb, hdp, q⟩ := h
  have fits := dd.fits hB hb
  have shows := (dd.shows hB).1
  obtain ⟨u, rfl, ru⟩ := vals1 va
  have fin : ∀ h' u' tk, (∀ b o, s.heap.get? b = some o → h'.get? b = some o) → EP X pins σ Q (.str d.shown u') { s with heap := h', toks := tk } := fun h' u' tk hk => ⟨.str _, H, I.kept hk, ⟨_, rfl⟩, q⟩
  cases dd with
  | non =>
    cases ru
    exact PySem.P.repr_of_none ⟨.str "None", H, I.tok _, ⟨_, rfl⟩, q⟩
  | bl b =>
    cases ru
    refine PySem.P.repr_of_bool ⟨.str _, H, I.tok _, ⟨_, rfl⟩, ?_⟩
    cases b <;> exact q
  | int n h1 h2 =>
    obtain ⟨t, rfl⟩ := ru
    exact PySem.P.repr_of_int (of_decide_eq_true shows) ⟨.str _, H, I.tok _, ⟨_, rfl⟩, q⟩
  | str z h =>
    obtain ⟨t, rfl⟩ := ru
    exact PySem.P.repr_of_str ⟨.str _, H, I.tok _, ⟨_, rfl⟩, q⟩ fits
  | dic0 np nl ny e =>
    cases ru
    have dd := Dd.dic0 (B := B) np nl ny e
    obtain ⟨hs, hk⟩ := dd.sys I
    obtain ⟨as, r, _⟩ := dd.reads I (.ref _) rfl
    obtain ⟨o, es, n, h1, h2, h3, h4⟩ := dict_read I hs ⟨as, r⟩ hk
    exact call_repr_slot (by omega) ⟨o, h1, h2⟩ PySem.F.slot_dict_repr (call_dict_reprK (as := []) h1 h2 h3 hs (fun h => nomatch h) h4 gd (fun b _ => Clear.nil b) (by show X.A.units + 1 + (0 + 1) < cLine; omega) (fun _ _ e => e) (fun h' u tk hk => ⟨_, _, rfl, fin h' u tk hk⟩) fits)
  | dic1 np nl ny e =>
    cases ru
    have dd := Dd.dic1 (B := B) np nl ny e
    obtain ⟨hs, hk⟩ := dd.sys I
    obtain ⟨as, r, _⟩ := dd.reads I (.ref _) rfl
    obtain ⟨o, es, n, h1, h2, h3, h4⟩ := dict_read I hs ⟨as, r⟩ hk
    exact call_repr_slot (by omega) ⟨o, h1, h2⟩ PySem.F.slot_dict_repr (call_dict_reprK (as := []) h1 h2 h3 hs (fun h => nomatch h) h4 gd (fun b _ => Clear.nil b) (by show X.A.units + 1 + (0 + 1) < cLine; omega) (fun _ _ e => e) (fun h' u tk hk => ⟨_, _, rfl, fin h' u tk hk⟩) fits)
  | @lst a vs ds np nl ny e hl hh =>
    obtain ⟨as, rd, _⟩ := (Dd.lst np nl ny e hl hh).reads I u ru
    cases ru
    have hz' : (listText (PyData.shownAll ds)).length ≤ sizeLine := by simpa only [PyData.shown] using fits
    obtain ⟨its, rv, ⟨o, n, ho, hc, _, hd⟩, _⟩ := I.list (SqL.of e)
    obtain ⟨bs, hb', hk⟩ := reprAll_of (P := X.prog) (w := X.w) vs ds its hl rv (fun t ht => Nat.le_trans (listText_mem_le ht) hz') fun i v d e1 e2 => (hh i v d e1 e2).reprK I hB
    have hna : a ∉ bs := not_mem_of_deeper rd (by simp only [PyData.depth]; omega) hb'
    simp only [PyData.depth] at hdp
    simp only [PyData.shown] at fin
    refine call_repr_slot (by omega) ⟨o, ho, hc⟩ PySem.F.slot_list_repr.toG ?_
    cases its with
    | nil =>
      cases rv
      cases ds with
      | nil =>
        simp only [PyData.shownAll, listText_nil] at fin
        exact call_list_repr_empty ⟨o, ho, hc⟩ ho hd ⟨_, _, rfl, fin s.heap _ _ fun _ _ e => e⟩
      | cons x y => cases hl
    | cons x l => exact call_list_reprK ho hc hd hna (by simpa using hk.length_eq) (fun i y e => hk.item i y (by simpa using e)) gd (fun b _ => Clear.nil b) (by show X.A.units + 1 + _ < cLine; omega) (fun _ _ e => e) (fun h' u tk hk => ⟨_, _, rfl, fin h' u tk hk⟩) hz'
  | @tup a vs ds np nl ny e hl hh =>
    obtain ⟨as, rd, _⟩ := (Dd.tup np nl ny e hl hh).reads I u ru
    cases ru
    have hz' : (tupleText (PyData.shownAll ds)).length ≤ sizeLine := by simpa only [PyData.shown] using fits
    obtain ⟨its, rv, ⟨o, ho, hc, n, hd⟩, _⟩ := I.tuple (SqT.of e)
    obtain ⟨bs, hb', hk⟩ := reprAll_of (P := X.prog) (w := X.w) vs ds its hl rv (fun t ht => Nat.le_trans (tupleText_mem_le ht) hz') fun i v d e1 e2 => (hh i v d e1 e2).reprK I hB
    have hna : a ∉ bs := not_mem_of_deeper rd (by simp only [PyData.depth]; omega) hb'
    simp only [PyData.depth] at hdp
    simp only [PyData.shown] at fin
    exact call_repr_slot (by omega) ⟨o, ho, hc⟩ PySem.F.slot_tuple_repr (call_tuple_reprK ho hc hd hna hk gd (fun b _ => Clear.nil b) (by show X.A.units + 1 + _ < cLine; omega) (fun _ _ e => e) (fun h' u tk hk => ⟨_, _, rfl, fin h' u tk hk⟩) hz')
/-! ### numbers and truths reckoned with -/
def nv : V → Option Int
  | .int n => some n
  | .bl b => some (if b = true then 1 else 0)
  | _ => none
section
variable {X : Cx}
def rNumL (f : Int → Int → Int) : R2 := fun x y H Q => ∃ i j, nv x = some i ∧ y = .int j ∧ Q (.int (f i j)) H
def rNumR (f : Int → Int → Int) : R2 := fun x y H Q => ∃ i j, x = .int i ∧ nv y = some j ∧ Q (.int (f i j)) H
theorem op_addN : OpR X (binaryOp .Add) (rNumL (· + ·)) := by
  intro pins s σ H x y v u Q I rx ry h
  obtain ⟨i, j, hx, rfl, q⟩ := h
  obtain ⟨t', rfl⟩ := ry
  cases x with
  | int n =>
    cases hx
    obtain ⟨t, rfl⟩ := rx
    exact PySem.P.add_int ⟨.int _, H, I.tok _, ⟨_, rfl⟩, q⟩
  | bl b =>
    cases hx
    cases rx
    exact PySem.IntBool.add_bool_int ⟨.int _, H, I.tok _, ⟨_, rfl⟩, q⟩
  | _ => cases hx
theorem op_subN : OpR X (binaryOp .Sub) (rNumL (· - ·)) := by
  intro pins s σ H x y v u Q I rx ry h
  obtain ⟨i, j, hx, rfl, q⟩ := h
  obtain ⟨t', rfl⟩ := ry
  cases x with
  | int n =>
    cases hx
    obtain ⟨t, rfl⟩ := rx
    exact PySem.P.sub_int ⟨.int _, H, I.tok _, ⟨_, rfl⟩, q⟩
  | bl b =>
    cases hx
    cases rx
    exact PySem.IntBool.sub_bool_int ⟨.int _, H, I.tok _, ⟨_, rfl⟩, q⟩
  | _ => cases hx
theorem op_subR : OpR X (binaryOp .Sub) (rNumR (· - ·)) := by
  intro pins s σ H x y v u Q I rx ry h
  obtain ⟨i, j, rfl, hy, q⟩ := h
  obtain ⟨t', rfl⟩ := rx
  cases y with
  | int n =>
    cases hy
    obtain ⟨t, rfl⟩ := ry
    exact PySem.P.sub_int ⟨.int _, H, I.tok _, ⟨_, rfl⟩, q⟩
  | bl b =>
    cases hy
    cases ry
    exact PySem.IntBool.sub_int_bool ⟨.int _, H, I.tok _, ⟨_, rfl⟩, q⟩
  | _ => cases hy
theorem call_str_num : CallR X (.type "str") (fun xs H Q => ∃ z : String, ((∃ i : Int, xs = [.int i] ∧ i.natAbs.log2 < 1920 ∧ z = toString i) ∨ ∃ b : Bool, xs = [.bl b] ∧ z = (if b then "True" else "False")) ∧ Q (.str (Str.ofString z)) H) := by
  intro pins s σ H xs us Q I r h
  obtain ⟨z, ⟨i, rfl, hz, rfl⟩ | ⟨b, rfl, rfl⟩, q⟩ := h
  · obtain ⟨u, rfl, t, rfl⟩ := vals1 r
    exact PySem.P.str_of_int hz ⟨.str _, H, I.tok _, ⟨_, rfl⟩, q⟩
  · obtain ⟨u, rfl, ru⟩ := vals1 r
    cases ru
    refine PySem.P.str_of_bool ⟨.str _, H, I.tok _, ⟨_, rfl⟩, ?_⟩
    cases b <;> exact q
end
/-! ### what is made of things: how great, how deep -/
section
variable {B : Int} {p l : Addr} {Y : List Addr}
theorem depthAll_le {n : Nat} : ∀ {ds : List PyData}, PyData.depthAll ds ≤ n ↔ ∀ d ∈ ds, d.depth ≤ n
  | [] => ⟨fun _ d hd => (nomatch hd), fun _ => Nat.zero_le _⟩
  | d :: r => by
    have ih := depthAll_le (n := n) (ds := r)
    show max d.depth (PyData.depthAll r) ≤ n ↔ _
    rw [Nat.max_le, ih]
    exact ⟨fun h x hx => by
      rcases List.mem_cons.mp hx with rfl | hx
      · exact h.1
      · exact h.2 x hx, fun h => ⟨h d List.mem_cons_self, fun x hx => h x (List.mem_cons_of_mem _ hx)⟩⟩
theorem bulkAll_app : ∀ (xs ys : List PyData), PyData.bulkAll (xs ++ ys) = PyData.bulkAll xs + PyData.bulkAll ys
  | [], ys => (Nat.zero_add _).symm
  | d :: r, ys => by
    have ih := bulkAll_app r ys
    show d.bulk + 1 + PyData.bulkAll (r ++ ys) = d.bulk + 1 + PyData.bulkAll r + _
    omega
theorem bulkAll_take (xs : List PyData) (n : Nat) : PyData.bulkAll (xs.take n) ≤ PyData.bulkAll xs := by
  have h := bulkAll_app (xs.take n) (xs.drop n)
  rw [List.take_append_drop] at h
  omega
theorem bulkAll_drop (xs : List PyData) (n : Nat) : PyData.bulkAll (xs.drop n) ≤ PyData.bulkAll xs := by
  have h := bulkAll_app (xs.take n) (xs.drop n)
  rw [List.take_append_drop] at h
  omega
theorem bulkAll_rev : ∀ xs : List PyData, PyData.bulkAll xs.reverse = PyData.bulkAll xs
  | [] => rfl
  | d :: r => by
    rw [List.reverse_cons, bulkAll_app, bulkAll_rev r]
    show PyData.bulkAll r + (d.bulk + 1 + 0) = d.bulk + 1 + PyData.bulkAll r
    omega
theorem bulkAll_set : ∀ {xs : List PyData} {i : Nat} {d d' : PyData}, xs[i]? = some d → PyData.bulkAll (xs.set i d') + d.bulk = PyData.bulkAll xs + d'.bulk
  | [], i, d, d', h => by cases h
  | x :: r, 0, d, d', h => by
    cases h
    show d'.bulk + 1 + PyData.bulkAll r + x.bulk = x.bulk + 1 + PyData.bulkAll r + d'.bulk
    omega
  | x :: r, i + 1, d, d', h => by
    have ih := bulkAll_set (xs := r) (d' := d') (i := i) h
    show x.bulk + 1 + PyData.bulkAll (r.set i d') + d.bulk = x.bulk + 1 + PyData.bulkAll r + d'.bulk
    omega
theorem bulk_mem : ∀ {xs : List PyData} {d : PyData}, d ∈ xs → d.bulk + 1 ≤ PyData.bulkAll xs
  | x :: r, d, h => by
    show d.bulk + 1 ≤ x.bulk + 1 + PyData.bulkAll r
    rcases List.mem_cons.mp h with rfl | h
    · omega
    · have := bulk_mem h
      omega
theorem len_bulk : ∀ xs : List PyData, xs.length ≤ PyData.bulkAll xs
  | [] => Nat.le_refl _
  | x :: r => by
    have := len_bulk r
    show r.length + 1 ≤ x.bulk + 1 + PyData.bulkAll r
    omega
/-- many things, with what is in them; together at most b great, none deeper than n -/
structure DsV (B : Int) (p l : Addr) (Y : List Addr) (H : Hp) (vs : List V) (ds : List PyData) : Prop where
  len : vs.length = ds.length
  at' : ∀ (i : Nat) (v : V) (d : PyData), vs[i]? = some v → ds[i]? = some d → Dd B p l Y H v d
theorem DsV.mono {H H' : Hp} {vs : List V} {ds : List PyData} (h : DsV B p l Y H vs ds) (k : Keep p l H H') : DsV B p l Y H' vs ds := ⟨h.len, fun i v d e1 e2 => (h.at' i v d e1 e2).mono k⟩
theorem DsV.up {B' : Int} (hB : B ≤ B') {H : Hp} {vs : List V} {ds : List PyData} (h : DsV B p l Y H vs ds) : DsV B' p l Y H vs ds := ⟨h.len, fun i v d e1 e2 => (h.at' i v d e1 e2).up hB⟩
theorem DsV.app {H : Hp} {vs ws : List V} {ds es : List PyData} (a : DsV B p l Y H vs ds) (b : DsV B p l Y H ws es) : DsV B p l Y H (vs ++ ws) (ds ++ es) := by
  have hl := a.len
  refine ⟨by rw [List.length_append, List.length_append, a.len, b.len], fun i v d e1 e2 => ?_⟩
  by_cases c : i < vs.length
  · rw [List.getElem?_append_left c] at e1
    rw [List.getElem?_append_left (by omega)] at e2
    exact a.at' i v d e1 e2
  · rw [List.getElem?_append_right (by omega)] at e1
    rw [List.getElem?_append_right (by omega), ← a.len] at e2
    exact b.at' _ v d e1 e2
theorem DsV.take {H : Hp} {vs : List V} {ds : List PyData} (a : DsV B p l Y H vs ds) (n : Nat) : DsV B p l Y H (vs.take n) (ds.take n) := by
  refine ⟨by rw [List.length_take, List.length_take, a.len], fun i v d e1 e2 => ?_⟩
  rw [List.getElem?_take] at e1 e2
  split at e1
  · rename_i c
    rw [if_pos c] at e2
    exact a.at' i v d e1 e2
  · cases e1
theorem DsV.drop {H : Hp} {vs : List V} {ds : List PyData} (a : DsV B p l Y H vs ds) (n : Nat) : DsV B p l Y H (vs.drop n) (ds.drop n) := by
  refine ⟨by rw [List.length_drop, List.length_drop, a.len], fun i v d e1 e2 => ?_⟩
  rw [List.getElem?_drop] at e1 e2
  exact a.at' _ v d e1 e2
theorem DsV.rev {H : Hp} {vs : List V} {ds : List PyData} (a : DsV B p l Y H vs ds) : DsV B p l Y H vs.reverse ds.reverse := by
  have hl := a.len
  refine ⟨by rw [List.length_reverse, List.length_reverse, a.len], fun i v d e1 e2 => ?_⟩
  have hi : i < vs.length := by
    have := (List.getElem?_eq_some_iff.mp e1).1
    simpa using this
  rw [List.getElem?_reverse hi] at e1
  rw [List.getElem?_reverse (by omega), ← hl] at e2
  exact a.at' _ v d e1 e2
theorem DsV.nil {H : Hp} : DsV B p l Y H [] [] := ⟨rfl, fun i u s h1 h2 => by cases h1⟩
theorem DsV.cons {H : Hp} {v : V} {d : PyData} {vs : List V} {ds : List PyData} (h : Dd B p l Y H v d) (hs : DsV B p l Y H vs ds) : DsV B p l Y H (v :: vs) (d :: ds) := ⟨congrArg (· + 1) hs.len, fun i u s h1 h2 => by
  cases i with
  | zero =>
    cases h1
    cases h2
    exact h
  | succ i => exact hs.at' i u s h1 h2⟩
theorem DsV.one {H : Hp} {v : V} {d : PyData} (h : Dd B p l Y H v d) : DsV B p l Y H [v] [d] := .cons h .nil
theorem DsV.set {H : Hp} {vs : List V} {ds : List PyData} {v : V} {d : PyData} (a : DsV B p l Y H vs ds) (h : Dd B p l Y H v d) (i : Nat) : DsV B p l Y H (vs.set i v) (ds.set i d) := by
  have hl := a.len
  refine ⟨by rw [List.length_set, List.length_set, a.len], fun j u s e1 e2 => ?_⟩
  by_cases c : j = i
  · subst c
    rw [List.getElem?_set_self' ] at e1 e2
    cases q : vs[j]? with
    | none =>
      rw [q] at e1
      cases e1
    | some x =>
      cases q2 : ds[j]? with
      | none =>
        rw [q2] at e2
        cases e2
      | some y =>
        rw [q] at e1
        rw [q2] at e2
        cases e1
        cases e2
        exact h
  · rw [List.getElem?_set_ne (Ne.symm c)] at e1 e2
    exact a.at' j u s e1 e2
/-- a value that is a thing of at most this greatness and depth -/
def DV (B : Int) (p l : Addr) (Y : List Addr) (H : Hp) (v : V) (b n : Nat) : Prop := ∃ d, Dd B p l Y H v d ∧ d.bulk ≤ b ∧ d.depth ≤ n
def DVs (B : Int) (p l : Addr) (Y : List Addr) (H : Hp) (vs : List V) (b n : Nat) : Prop := ∃ ds, DsV B p l Y H vs ds ∧ PyData.bulkAll ds ≤ b ∧ ∀ d ∈ ds, d.depth ≤ n
theorem DV.mono {H H' : Hp} {v : V} {b n : Nat} (h : DV B p l Y H v b n) (k : Keep p l H H') : DV B p l Y H' v b n := by
  obtain ⟨d, h1, h2⟩ := h
  exact ⟨d, h1.mono k, h2⟩
theorem DV.up {B' : Int} {H : Hp} {v : V} {b n b' n' : Nat} (h : DV B p l Y H v b n) (hB : B ≤ B') (hb : b ≤ b') (hn : n ≤ n') : DV B' p l Y H v b' n' := by
  obtain ⟨d, h1, h2, h3⟩ := h
  exact ⟨d, h1.up hB, by omega, by omega⟩
theorem DVs.mono {H H' : Hp} {vs : List V} {b n : Nat} (h : DVs B p l Y H vs b n) (k : Keep p l H H') : DVs B p l Y H' vs b n := by
  obtain ⟨d, h1, h2⟩ := h
  exact ⟨d, h1.mono k, h2⟩
theorem DVs.up {B' : Int} {H : Hp} {vs : List V} {b n b' n' : Nat} (h : DVs B p l Y H vs b n) (hB : B ≤ B') (hb : b ≤ b') (hn : n ≤ n') : DVs B' p l Y H vs b' n' := by
  obtain ⟨d, h1, h2, h3⟩ := h
  exact ⟨d, h1.up hB, by omega, fun x hx => Nat.le_trans (h3 x hx) hn⟩
theorem DVs.app {H : Hp} {vs ws : List V} {b c n : Nat} (x : DVs B p l Y H vs b n) (y : DVs B p l Y H ws c n) : DVs B p l Y H (vs ++ ws) (b + c) n := by
  obtain ⟨ds, h1, h2, h3⟩ := x
  obtain ⟨es, g1, g2, g3⟩ := y
  refine ⟨ds ++ es, h1.app g1, by rw [bulkAll_app]; omega, fun d hd => ?_⟩
  rcases List.mem_append.mp hd with hd | hd
  · exact h3 d hd
  · exact g3 d hd
theorem DVs.cut {H : Hp} {vs : List V} {b n : Nat} (h : DVs B p l Y H vs b n) (lo hi : Option Int) : DVs B p l Y H (cutV vs lo hi) b n := by
  obtain ⟨ds, h1, h2, h3⟩ := h
  exact ⟨_, (h1.drop _).take _, Nat.le_trans (bulkAll_take _ _) (Nat.le_trans (bulkAll_drop _ _) h2), fun d hd => h3 d (List.mem_of_mem_drop (List.mem_of_mem_take hd))⟩
theorem DVs.rev {H : Hp} {vs : List V} {b n : Nat} (h : DVs B p l Y H vs b n) : DVs B p l Y H vs.reverse b n := by
  obtain ⟨ds, h1, h2, h3⟩ := h
  exact ⟨_, h1.rev, by rw [bulkAll_rev]; exact h2, fun d hd => h3 d (List.mem_reverse.mp hd)⟩
theorem DVs.nil {H : Hp} {n : Nat} : DVs B p l Y H [] 0 n := ⟨[], .nil, Nat.le_refl _, fun d hd => by cases hd⟩
theorem DVs.cons {H : Hp} {v : V} {vs : List V} {b c n : Nat} (h : DV B p l Y H v b n) (hs : DVs B p l Y H vs c n) : DVs B p l Y H (v :: vs) (b + 1 + c) n := by
  obtain ⟨d, h1, h2, h3⟩ := h
  obtain ⟨ds, g1, g2, g3⟩ := hs
  refine ⟨d :: ds, .cons h1 g1, ?_, fun x hx => ?_⟩
  · show d.bulk + 1 + PyData.bulkAll ds ≤ _
    omega
  · rcases List.mem_cons.mp hx with rfl | hx
    · exact h3
    · exact g3 x hx
theorem DVs.one {H : Hp} {v : V} {b n : Nat} (h : DV B p l Y H v b n) : DVs B p l Y H [v] (b + 1) n := DVs.cons h .nil
theorem DVs.len {H : Hp} {vs : List V} {b n : Nat} (h : DVs B p l Y H vs b n) : vs.length ≤ b := by
  obtain ⟨ds, h1, h2, h3⟩ := h
  rw [h1.len]
  exact Nat.le_trans (len_bulk ds) h2
theorem DVs.get {H : Hp} {vs : List V} {b n i : Nat} {v : V} (h : DVs B p l Y H vs b n) (e : vs[i]? = some v) : DV B p l Y H v b n := by
  obtain ⟨ds, h1, h2, h3⟩ := h
  have hi := (List.getElem?_eq_some_iff.mp e).1
  have hl := h1.len
  have e2 : ds[i]? = some (ds[i]'(by omega)) := List.getElem?_eq_getElem (by omega)
  have hm := List.mem_of_getElem? e2
  exact ⟨_, h1.at' i v _ e e2, by have := bulk_mem hm; omega, h3 _ hm⟩
theorem DVs.tup {H : Hp} {vs : List V} {b n : Nat} {a : Addr} (h : DVs B p l Y H vs b n) (np : a ≠ p) (nl : a ≠ l) (ny : a ∉ Y) (e : H a = some (.tup vs)) : DV B p l Y H (.ref a) b (n + 1) := by
  obtain ⟨ds, h1, h2, h3⟩ := h
  exact ⟨.tuple ds, .tup np nl ny e h1.len h1.at', h2, Nat.succ_le_succ (depthAll_le.mpr h3)⟩
theorem DVs.lst {H : Hp} {vs : List V} {b n : Nat} {a : Addr} (h : DVs B p l Y H vs b n) (np : a ≠ p) (nl : a ≠ l) (ny : a ∉ Y) (e : H a = some (.lst vs)) : DV B p l Y H (.ref a) b (n + 1) := by
  obtain ⟨ds, h1, h2, h3⟩ := h
  exact ⟨.list ds, .lst np nl ny e h1.len h1.at', h2, Nat.succ_le_succ (depthAll_le.mpr h3)⟩
/-- one within is changed -/
theorem DVs.set {H : Hp} {vs : List V} {b n i b' n' : Nat} {v : V} (h : DVs B p l Y H vs b n) (e : vs[i]? = some v) : ∃ c, DV B p l Y H v c n ∧ c ≤ b ∧ ∀ (B' : Int) (H' : Hp) (u : V), B ≤ B' → Keep p l H H' → n ≤ n' → DV B' p l Y H' u (3 * c + 400) n' → 3 * b + 400 ≤ b' → DVs B' p l Y H' (vs.set i u) b' n' := by
  obtain ⟨ds, h1, h2, h3⟩ := h
  have hi := (List.getElem?_eq_some_iff.mp e).1
  have hl := h1.len
  have e2 : ds[i]? = some (ds[i]'(by omega)) := List.getElem?_eq_getElem (by omega)
  generalize ds[i]'(by omega) = d at e2
  have hm := List.mem_of_getElem? e2
  have hb := bulk_mem hm
  refine ⟨d.bulk, ⟨d, h1.at' i v _ e e2, Nat.le_refl _, h3 _ hm⟩, by omega, fun B' H' u hB k hn hu hb' => ?_⟩
  obtain ⟨d', g1, g2, g3⟩ := hu
  refine ⟨ds.set i d', ((h1.mono k).up hB).set g1 i, ?_, fun x hx => ?_⟩
  · have := bulkAll_set (d' := d') e2
    omega
  · rcases List.mem_or_eq_of_mem_set hx with hx | rfl
    · exact Nat.le_trans (h3 x hx) hn
    · exact g3
theorem DV.int {H : Hp} {n : Int} {b k : Nat} (h1 : -B ≤ n) (h2 : n ≤ B) : DV B p l Y H (.int n) b k := ⟨_, .int n h1 h2, Nat.zero_le _, Nat.zero_le _⟩
theorem DV.bl {H : Hp} {c : Bool} {b k : Nat} : DV B p l Y H (.bl c) b k := ⟨_, .bl c, Nat.zero_le _, Nat.zero_le _⟩
theorem DV.non {H : Hp} {b k : Nat} : DV B p l Y H .non b k := ⟨_, .non, Nat.zero_le _, Nat.zero_le _⟩
theorem DV.str {H : Hp} {z : String} {b k : Nat} (h : z.length ≤ 260) (hb : z.length ≤ b) : DV B p l Y H (.str (Str.ofString z)) b k := ⟨_, .str z h, by
  show (Str.ofString z).length ≤ b
  rw [PySem.ofString_length]
  exact hb, Nat.zero_le _⟩
end
def PotY (H : Hp) (p l : Addr) (T : Nat) (Y : List Addr) : Prop := Pot H p l T ∧ ∀ z ∈ Y, H z ≠ none ∧ z ≠ p ∧ z ≠ l
section
variable {B : Int} {p l a : Addr} {Y : List Addr} {H H' : Hp}
theorem PotY.new {T : Nat} {o : HO} (h : PotY H p l T Y) (na : H a = none) : PotY (upd H a o) p l T Y := ⟨h.1.new na, fun z hz => ⟨by
  by_cases c : z = a
  · rw [c, upd_same]
    exact fun e => by cases e
  · rw [upd_ne c]
    exact (h.2 z hz).1, (h.2 z hz).2⟩⟩
theorem PotY.fresh {T : Nat} (h : PotY H p l T Y) (na : H a = none) : a ≠ p ∧ a ≠ l ∧ a ∉ Y := ⟨(h.1.fresh na).1, (h.1.fresh na).2, fun hm => (h.2 a hm).1 na⟩
theorem PotY.to {T U : Nat} (h : PotY H p l T Y) (h' : Pot H' p l U) (k : Keep p l H H') : PotY H' p l U Y := ⟨h', fun z hz => ⟨by
  obtain ⟨h1, h2, h3⟩ := h.2 z hz
  cases q : H z with
  | none => exact absurd q h1
  | some o =>
    rw [k z o h2 h3 q]
    exact Option.some_ne_none _, (h.2 z hz).2⟩⟩
theorem PotY.mono {T U : Nat} (h : PotY H p l T Y) (e : T ≤ U) : PotY H p l U Y := ⟨h.1.mono e, h.2⟩
theorem PotY.put {L : Addr} {o : HO} {T : Nat} (h : PotY H p l T (L :: Y)) : PotY (upd H L o) p l T Y := by
  obtain ⟨⟨ns, c, m, t, h1, h2, h3⟩, h4⟩ := h
  obtain ⟨_, n1, n2⟩ := h4 L List.mem_cons_self
  refine ⟨⟨ns, c, m, t, (upd_ne (Ne.symm n1)).trans h1, (upd_ne (Ne.symm n2)).trans h2, h3⟩, fun z hz => ⟨?_, (h4 z (List.mem_cons_of_mem _ hz)).2⟩⟩
  by_cases c : z = L
  · rw [c, upd_same]
    exact Option.some_ne_none _
  · rw [upd_ne c]
    exact (h4 z (List.mem_cons_of_mem _ hz)).1
theorem PotY.more {L : Addr} {o : HO} {T : Nat} (h : PotY H p l T Y) (e : H L = some o) (n1 : L ≠ p) (n2 : L ≠ l) : PotY H p l T (L :: Y) := ⟨h.1, fun z hz => by
  rcases List.mem_cons.mp hz with rfl | hz
  · exact ⟨by rw [e]; exact Option.some_ne_none _, n1, n2⟩
  · exact h.2 z hz⟩
theorem mkT {vs : List V} {b n T : Nat} (hp : PotY H p l T Y) (na : H a = none) (hs : DVs B p l Y H vs b n) : DV B p l Y (upd H a (.tup vs)) (.ref a) b (n + 1) ∧ Keep p l H (upd H a (.tup vs)) ∧ PotY (upd H a (.tup vs)) p l T Y ∧ Same H (upd H a (.tup vs)) := by
  have k : Keep p l H (upd H a (.tup vs)) := Keep.refl.new na
  obtain ⟨n1, n2, n3⟩ := hp.fresh na
  exact ⟨(hs.mono k).tup n1 n2 n3 upd_same, k, hp.new na, same_new (Same.refl _) na⟩
theorem mkL {vs : List V} {b n T : Nat} (hp : PotY H p l T Y) (na : H a = none) (hs : DVs B p l Y H vs b n) : DV B p l Y (upd H a (.lst vs)) (.ref a) b (n + 1) ∧ Keep p l H (upd H a (.lst vs)) ∧ PotY (upd H a (.lst vs)) p l T Y ∧ Same H (upd H a (.lst vs)) := by
  have k : Keep p l H (upd H a (.lst vs)) := Keep.refl.new na
  obtain ⟨n1, n2, n3⟩ := hp.fresh na
  exact ⟨(hs.mono k).lst n1 n2 n3 upd_same, k, hp.new na, same_new (Same.refl _) na⟩
theorem slL {K : PySem.W.Frag} {L : Addr} {vs : List V} {lo hi : Option Int} {R : VK} {b n T : Nat} (eL : H L = some (.lst vs)) (hp : PotY H p l T Y) (dv : DVs B p l Y H vs b n) (q : ∀ H' A ws, H A = none → Keep p l H H' → PotY H' p l T Y → H' A = some (.lst ws) → DVs B p l Y H' ws b n → R (.ref A) H') : rSlL K (.ref L) lo hi H R := ⟨L, vs, rfl, SqL.of eL, fun A nA => q _ A _ nA (Keep.refl.new nA) (hp.new nA) upd_same ((dv.cut lo hi).mono (Keep.refl.new nA))⟩
theorem catL {x y : Addr} {xs ys : List V} {R : VK} {b c n T : Nat} (ex : H x = some (.lst xs)) (ey : H y = some (.lst ys)) (hp : PotY H p l T Y) (dx : DVs B p l Y H xs b n) (dy : DVs B p l Y H ys c n) (hz : b + c ≤ 80000) (q : ∀ H' A, H A = none → Keep p l H H' → PotY H' p l T Y → H' A = some (.lst (xs ++ ys)) → DVs B p l Y H' (xs ++ ys) (b + c) n → R (.ref A) H') : rCat (.ref x) (.ref y) H R := by
  have h1 := dx.len
  have h2 := dy.len
  exact ⟨x, y, xs, ys, rfl, rfl, ex, ey, Nat.le_trans (show _ ≤ 80000 by omega) (by decide), fun A nA => q _ A nA (Keep.refl.new nA) (hp.new nA) upd_same ((dx.app dy).mono (Keep.refl.new nA))⟩
/-- what was not there is not in a thing -/
theorem Dd.off {L : Addr} (nL : H L = none) {v : V} {d : PyData} (h : Dd B p l Y H v d) : Dd B p l (L :: Y) H v d := by
  have ok : ∀ {a o}, H a = some o → a ∉ Y → a ∉ L :: Y := fun e h hm => by
    rcases List.mem_cons.mp hm with rfl | hm
    · rw [nL] at e
      cases e
    · exact h hm
  induction h with
  | non => exact .non
  | bl b => exact .bl b
  | int n h1 h2 => exact .int n h1 h2
  | str z h => exact .str z h
  | dic0 np nl ny e => exact .dic0 np nl (ok e ny) e
  | dic1 np nl ny e => exact .dic1 np nl (ok e ny) e
  | lst np nl ny e hl _ ih => exact .lst np nl (ok e ny) e hl ih
  | tup np nl ny e hl _ ih => exact .tup np nl (ok e ny) e hl ih
theorem DVs.off {L : Addr} (nL : H L = none) {vs : List V} {b n : Nat} (h : DVs B p l Y H vs b n) : DVs B p l (L :: Y) H vs b n := by
  obtain ⟨ds, h1, h2⟩ := h
  exact ⟨ds, ⟨h1.len, fun i v d e1 e2 => (h1.at' i v d e1 e2).off nL⟩, h2⟩
/-- a list that is not in a thing may change -/
theorem Dd.free {L : Addr} {o : HO} {v : V} {d : PyData} (h : Dd B p l (L :: Y) H v d) : Dd B p l Y (upd H L o) v d := by
  have ok : ∀ {a}, a ∉ L :: Y → a ∉ Y ∧ upd H L o a = H a := fun h => ⟨fun hm => h (List.mem_cons_of_mem _ hm), upd_ne fun e => h (e ▸ List.mem_cons_self)⟩
  induction h with
  | non => exact .non
  | bl b => exact .bl b
  | int n h1 h2 => exact .int n h1 h2
  | str z h => exact .str z h
  | dic0 np nl ny e => exact .dic0 np nl (ok ny).1 ((ok ny).2.trans e)
  | dic1 np nl ny e => exact .dic1 np nl (ok ny).1 ((ok ny).2.trans e)
  | lst np nl ny e hl _ ih => exact .lst np nl (ok ny).1 ((ok ny).2.trans e) hl ih
  | tup np nl ny e hl _ ih => exact .tup np nl (ok ny).1 ((ok ny).2.trans e) hl ih
theorem DVs.free {L : Addr} {o : HO} {vs : List V} {b n : Nat} (h : DVs B p l (L :: Y) H vs b n) : DVs B p l Y (upd H L o) vs b n := by
  obtain ⟨ds, h1, h2⟩ := h
  exact ⟨ds, ⟨h1.len, fun i v d e1 e2 => (h1.at' i v d e1 e2).free⟩, h2⟩
end
theorem DVs.of {B : Int} {p l : Addr} {Y : List Addr} {H : Hp} {n c : Nat} : ∀ {vs : List V}, (∀ v ∈ vs, DV B p l Y H v c n) → DVs B p l Y H vs (vs.length * (c + 1)) n
  | [], _ => DVs.nil.up (Int.le_refl _) (Nat.zero_le _) (Nat.le_refl _)
  | v :: r, h => by
    refine (DVs.cons (h v List.mem_cons_self) (DVs.of fun x hx => h x (List.mem_cons_of_mem _ hx))).up (Int.le_refl _) ?_ (Nat.le_refl _)
    rw [List.length_cons, Nat.succ_mul]
    omega
def spOddX : Sp := fun vs H Q _ => ∃ (p l : Addr) (Y : List Addr) (T : Nat) (B : Int) (v : V) (b n : Nat), vs = [.ref p, v] ∧ PotY H p l T Y ∧ T < 2 ^ 38 ∧ 9 ≤ B ∧ B < 2 ^ 249 ∧ DV B p l Y H v b n ∧
  ∀ H' u, PotY H' p l (T + 2) Y → Keep p l H H' → DV (B + 1) p l Y H' u (b + 300) (n + 28) → Q u H'
def spBentX (N : Nat) : Sp := fun vs H Q _ => ∃ (p l : Addr) (Y : List Addr) (T : Nat) (B : Int) (v : V) (b n : Nat), vs = [.ref p, v] ∧ PotY H p l T Y ∧ T + 6 * N < 2 ^ 38 ∧ 9 ≤ B ∧ B < 2 ^ 249 ∧ DV B p l Y H v b n ∧ b ≤ 20000 ∧ n < N ∧
  ∀ H' u, PotY H' p l (T + 6 * N) Y → Keep p l H H' → DV (B + 1) p l Y H' u (3 * b + 400) (n + 28) → Q u H'
def spWholeX : Sp := fun vs H Q _ => ∃ (v : V) (t : Th), vs = [v] ∧ ThAt topB H v t ∧ Q (.bl (t.isI && !t.isB)) H
def spRight01 : Sp := fun vs H Q _ => ∃ (p l : Addr) (Y : List Addr) (B : Int) (v : V) (b n : Nat), vs = [v] ∧ B < 2 ^ 250 ∧ DV B p l Y H v b n ∧ b ≤ 40000 ∧ n ≤ 100 ∧ ∀ H', Same H H' → Q (.bl true) H'
/-! a tuple or a list -/
def isTL : PyData → Bool
  | .list _ => true
  | .tuple _ => true
  | _ => false
theorem isi_tl {K : PySem.W.Frag} {B : Int} {p l : Addr} {Y : List Addr} {H : Hp} {v : V} {d : PyData} (h : Dd B p l Y H v d) : ∃ T : String, TyX K H v (.type T) ∧ PySem.W.kitAny K (.type T) [.type "tuple", .type "list"] = some (isTL d) := by
  have kk : ∀ {T : String} {a b : Bool}, kitB T "tuple" = some a → kitB T "list" = some b → PySem.W.kitAny K (.type T) [.type "tuple", .type "list"] = some (a || b) := fun {T a b} h1 h2 => by
    have e1 := kit_ty (K := K) h1
    have e2 := kit_ty (K := K) h2
    unfold PySem.W.kitAny
    rw [e1]
    cases a
    · unfold PySem.W.kitAny
      rw [e2]
      cases b <;> rfl
    · rfl
  cases h with
  | int n h1 h2 => exact ⟨_, .base (.int n), kk (show kitB "int" "tuple" = some false by decide +kernel) (show kitB "int" "list" = some false by decide +kernel)⟩
  | bl b => exact ⟨_, .base (.bl b), kk (show kitB "bool" "tuple" = some false by decide +kernel) (show kitB "bool" "list" = some false by decide +kernel)⟩
  | non => exact ⟨_, .base .non, kk (show kitB "NoneType" "tuple" = some false by decide +kernel) (show kitB "NoneType" "list" = some false by decide +kernel)⟩
  | str z hz => exact ⟨_, .base (.str _), kk (show kitB "str" "tuple" = some false by decide +kernel) (show kitB "str" "list" = some false by decide +kernel)⟩
  | dic0 np nl ny e => exact ⟨_, .base (.dK e), kk (show kitB "dict" "tuple" = some false by decide +kernel) (show kitB "dict" "list" = some false by decide +kernel)⟩
  | dic1 np nl ny e => exact ⟨_, .base (.dK e), kk (show kitB "dict" "tuple" = some false by decide +kernel) (show kitB "dict" "list" = some false by decide +kernel)⟩
  | lst np nl ny e hl hh => exact ⟨_, .base (.lst e), kk (show kitB "list" "tuple" = some false by decide +kernel) (show kitB "list" "list" = some true by decide +kernel)⟩
  | tup np nl ny e hl hh => exact ⟨_, .base (.tup e), kk (show kitB "tuple" "tuple" = some true by decide +kernel) (show kitB "tuple" "list" = some false by decide +kernel)⟩
theorem Dd.seq {B : Int} {p l : Addr} {Y : List Addr} {H : Hp} {v : V} {d : PyData} {b n : Nat} (h : Dd B p l Y H v d) (hb : d.bulk ≤ b) (hn : d.depth ≤ n) (ht : isTL d = true) : ∃ (a : Addr) (vs : List V) (m : Nat), v = .ref a ∧ a ≠ p ∧ a ≠ l ∧ n = m + 1 ∧ DVs B p l Y H vs b m ∧ ((thD d).isT = true ∧ H a = some (.tup vs) ∨ (thD d).isT = false ∧ H a = some (.lst vs)) := by
  cases h with
  | @lst a vs ds np nl ny e hl hh =>
    have hn : PyData.depthAll ds + 1 ≤ n := hn
    exact ⟨a, vs, n - 1, rfl, np, nl, by omega, ⟨ds, ⟨hl, hh⟩, hb, depthAll_le.mp (by omega)⟩, .inr ⟨rfl, e⟩⟩
  | @tup a vs ds np nl ny e hl hh =>
    have hn : PyData.depthAll ds + 1 ≤ n := hn
    exact ⟨a, vs, n - 1, rfl, np, nl, by omega, ⟨ds, ⟨hl, hh⟩, hb, depthAll_le.mp (by omega)⟩, .inl ⟨rfl, e⟩⟩
  | int n h1 h2 => cases ht
  | bl b => cases ht
  | non => cases ht
  | str z hz => cases ht
  | dic0 np nl ny e => cases ht
  | dic1 np nl ny e => cases ht
/-! ### a wisp at hand as a thing -/
theorem pot_tup {H : Hp} {p l a : Addr} {T : Nat} {xs : List V} (hp : Pot H p l T) (e : H a = some (.tup xs)) : a ≠ p ∧ a ≠ l := by
  obtain ⟨ns, c, m, t, h1, h2, _⟩ := hp
  constructor
  · intro h
    rw [h, h1] at e
    cases e
  · intro h
    rw [h, h2] at e
    cases e
theorem tups_dv {B : Int} {p l : Addr} {H : Hp} {T : Nat} (hp : Pot H p l T) : ∀ {ps : List (Int × Int)} {as : List Addr}, TupsAt H as (ps.map stepV) → (∀ x ∈ ps, -B ≤ x.1 ∧ x.1 ≤ B ∧ -B ≤ x.2 ∧ x.2 ≤ B) → DVs B p l [] H (as.map V.ref) (3 * ps.length) 1 := by
  intro ps as ht hb
  have hl := ht.1
  rw [List.length_map] at hl
  have h := DVs.of (B := B) (p := p) (l := l) (Y := []) (H := H) (n := 1) (c := 2) (vs := as.map V.ref) fun v hv => by
    obtain ⟨a, ha, rfl⟩ := List.mem_map.mp hv
    obtain ⟨i, hi⟩ := List.getElem?_of_mem hv
    obtain ⟨a', t, g, e0, e1, e2⟩ := step_get ht hi
    cases e0
    have hb := hb _ (List.mem_of_getElem? e1)
    obtain ⟨n1, n2⟩ := pot_tup hp e2
    exact (DVs.cons (DV.int hb.1 hb.2.1) (DVs.one (DV.int (b := 0) (k := 0) hb.2.2.1 hb.2.2.2))).tup n1 n2 (List.not_mem_nil) e2
  refine h.up (Int.le_refl _) ?_ (Nat.le_refl _)
  rw [List.length_map, hl]
  omega
theorem wisp_dv {p l a : Addr} {H : Hp} {T : Nat} {s : Int} {ps : List (Int × Int)} (hp : Pot H p l T) (h : WispAt H a s ps) (g : Good ps) (s0 : 0 ≤ s) (s1 : s ≤ 1) : DV (2 ^ 200) p l [] H (.ref a) 40 3 := by
  obtain ⟨st, as, e1, e2, tu⟩ := h
  have hl := g.2.1
  have d1 := tups_dv (B := 2 ^ 200) hp tu fun x hx => by
    have := g.2.2 x hx
    omega
  obtain ⟨n1, n2⟩ := pot_tup hp e2
  obtain ⟨m1, m2⟩ := pot_tup hp e1
  have d2 := d1.tup n1 n2 List.not_mem_nil e2
  exact (((DVs.cons (DV.int (b := 0) (by omega) (by omega)) (DVs.one d2)).tup m1 m2 List.not_mem_nil e1)).up (Int.le_refl _) (by omega) (by omega)
theorem TupsAt.cut {H : Hp} {as : List Addr} {xss : List (List V)} (h : TupsAt H as xss) (i j : Nat) : TupsAt H ((as.drop i).take j) ((xss.drop i).take j) := by
  refine ⟨by rw [List.length_take, List.length_take, List.length_drop, List.length_drop, h.1], fun n a e => ?_⟩
  rw [List.getElem?_take] at e
  split at e
  · rename_i c
    rw [List.getElem?_drop] at e
    obtain ⟨xs, h1, h2⟩ := h.2 _ a e
    refine ⟨xs, ?_, h2⟩
    rw [List.getElem?_take, if_pos c, List.getElem?_drop]
    exact h1
  · cases e
theorem cut7 (xs : List V) : (cutV xs none (some 7)).length ≤ 7 := by
  unfold cutV
  rw [List.length_take]
  have : HT.sIx xs.length xs.length (some 7) ≤ 7 := by
    rw [show (some 7 : Option Int) = some ((7 : Nat) : Int) from rfl, HT.sIx_nat]
    exact Nat.min_le_left _ _
  omega
/-! ### a text again and again; a great number read -/
section
variable {X : Cx}
open PySem.W in
theorem op_rep_str : OpR X (binaryOp .Mult) (fun x y H Q => ∃ (z : Str) (k : Int), x = .str z ∧ y = .int k ∧ z.length ≤ 16 ∧ 0 ≤ k ∧ k ≤ 1048576 ∧ Q (.str (PySem.Txt.mul z k)) H) := by
  intro pins s σ H x y v u Q I rx ry h
  obtain ⟨z, k, rfl, rfl, hz, k0, k1, q⟩ := h
  obtain ⟨t, rfl⟩ := rx
  obtain ⟨t', rfl⟩ := ry
  exact PySem.W.KXi.mul rfl hz (by omega) k1 fun t' tk _ _ => ⟨.str (PySem.Txt.mul z k), H, I.tok _, ⟨_, rfl⟩, q⟩
end
section
open PySem.Calls PySem.NumText PySem.W
set_option maxHeartbeats 4000000 in
theorem read_big {M : Model} {A : Around} {E : Value → Shared → Prop} {s : Shared} {Q : Value → Shared → Prop} {v : Value} {text : List Nat} {n : Int} (hn : s.heap.NoDigits)
    (hs : ¬ (text.takeWhile (· != 0)).length ≤ 640) (hr : (int_private% "readNumeral") 4300 10 (text.takeWhile (· != 0)) = (int_private% "Numeral.value") n)
    (ha : ((text.takeWhile (· != 0)).length == text.length) = true) (h : Q (.int n s.toks) { s with toks := s.toks + 1 }) :
    wpAny M A ((int_private% "intFromText") v text 10) Q E s := by
  obtain ⟨mc, hns, hnone⟩ := hn
  obtain ⟨hp, g, d, tk, os⟩ := s
  repeat (any_goals (first
    | assumption
    | (with_reducible refine wpAny_ite_false (decide_eq_false hs) ?_)
    | (with_reducible refine wpAny_ite_true (decide_eq_true ha) ?_)
    | ((with_reducible show wpAny _ _ (Builtin.intMaxStrDigits) _ _ _); unfold Builtin.intMaxStrDigits)
    | ((with_reducible refine wpAny_bind (wpAny_nsGet hns ?_)); rw [hnone])
    | wp_step))
  all_goals (try rw [hr])
  all_goals (try dsimp only)
  repeat (any_goals (first
    | assumption
    | (with_reducible refine wpAny_ite_true ha ?_)
    | wp_step))
set_option maxHeartbeats 4000000 in
theorem meets_big {x : Str} {u : Tok} {n : Int} (hs : ¬ (numSeenOf x).length ≤ 640) (hr : (int_private% "readNumeral") 4300 10 (numSeenOf x) = (int_private% "Numeral.value") n)
    (ha : ((numSeenOf x).length == (numTextOf x).length) = true) : Meets (Builtin.«int.__new__» ⟨[.type "int", .str x u], []⟩) (fun _ R s => s.heap.NoDigits ∧ R (.ok (.ret (.int n s.toks))) { s with toks := s.toks + 1 }) :=
  Meets.of_wp fun prog w A R s hS => by
    obtain ⟨hn, h⟩ := hS
    obtain ⟨hp, g, d, tk, os⟩ := s
    have f1 := F.conv_sub_int
    have f2 := F.madeHere_int
    have f3 := KIN.str_int
    have f4 := KIN.str_idx
    have f5 := KIN.str_trunc
    have f6 : typeOf (.str x u) = pure (.type "str") := rfl
    have hk := KIN.Hid.mk (And.intro hs (And.intro hr ha))
    clear hs hr ha
    repeat (any_goals (first
      | assumption
      | ((with_reducible show wpAny _ _ ((int_private% "intFromText") _ _ _) _ _ _); refine read_big hn hk.out.1 hk.out.2.1 hk.out.2.2 ?_)
      | wp_step))
    all_goals first | exact ⟨_, rfl, h⟩ | skip
end
section
open PySem.Calls PySem.NumText PySem.W
theorem call_big {prog : Program} {w : World} {A : Around} {E : Value → Shared → Prop} {s : Shared} {Q : Value → Shared → Prop} {x : Str} {t : Tok} {n : Int} (hs : ¬ (numSeenOf x).length ≤ 640) (hr : (int_private% "readNumeral") 4300 10 (numSeenOf x) = (int_private% "Numeral.value") n)
    (ha : ((numSeenOf x).length == (numTextOf x).length) = true) (hn : s.heap.NoDigits) (h : Q (.int n s.toks) { s with toks := s.toks + 1 }) : wpAny (model prog w) A (call (.type "int") [.str x t]) Q E s :=
  call_int_1 (meets_big hs hr ha) ⟨hn, rfl, h⟩
theorem noDigits {X : Cx} {pins : List (Addr × Obj)} {σ : L2.St} {s : Shared} {H : Hp} (I : L2.Inv X pins σ H s) (nd : nsIn X.K cStatics "sys.int_max_str_digits" = some none) : s.heap.NoDigits := by
  obtain ⟨mc, hm, _⟩ := I.mod.nolimit
  have X0 := I.mod.kin
  refine Heap.NoDigits.keeps (h := X.base) ⟨mc, hm, ?_⟩ I.bk
  obtain ⟨o, es, ep, ho, hd, _, hf⟩ := hm
  unfold nsIn at nd
  split at nd
  · rename_i c d es' n' sl q
    have := X0 _ _ q
    rw [ho] at this
    cases this
    cases hd
    split at nd
    · cases nd
    · rename_i he
      rw [← hf]
      unfold nsFind findBy
      rw [← Array.find?_toList, he]
      rfl
  · cases nd
theorem call_int_big {X : Cx} {x : Str} {n : Int} (hs : ¬ (numSeenOf x).length ≤ 640) (hr : (int_private% "readNumeral") 4300 10 (numSeenOf x) = (int_private% "Numeral.value") n)
    (ha : ((numSeenOf x).length == (numTextOf x).length) = true) (nd : nsIn X.K cStatics "sys.int_max_str_digits" = some none) : CallR X (.type "int") (fun xs H Q => xs = [.str x] ∧ Q (.int n) H) := by
  intro pins s σ H xs us Q I rs h
  obtain ⟨rfl, h⟩ := h
  cases rs with
  | cons r1 rs =>
    cases rs
    obtain ⟨t, rfl⟩ := r1
    exact call_big hs hr ha (noDigits I nd) ⟨.int n, H, I.tok _, ⟨_, rfl⟩, h⟩
/-- 10 ^ 900, written -/
def bigL : List Nat := 49 :: List.replicate 900 48
theorem bigL_val : (int_private% "readNumeral") 4300 10 bigL = (int_private% "Numeral.value") (10 ^ 900 : Int) := by kernel_rfl
theorem bigL_seen : (bigL.takeWhile (· != 0)) = bigL := by decide +kernel
theorem bigL_len : ¬ bigL.length ≤ 640 := by decide +kernel
theorem bigL_low : bigL.all (· < 128) = true := by decide +kernel
def bigT : Str := (Str.ofString "1" : Str) ++ PySem.Txt.mul (Str.ofString "0") 900
theorem fold_rep {α : Type} (xs : Array α) : ∀ (n : Nat) (acc : Array α), ((List.replicate n xs).foldl (· ++ ·) acc).toList = acc.toList ++ (List.replicate n xs.toList).flatten
  | 0, acc => by
    show acc.toList = acc.toList ++ []
    rw [List.append_nil]
  | n + 1, acc => by
    rw [List.replicate_succ, List.foldl_cons, fold_rep xs n, Array.toList_append, List.replicate_succ, List.flatten_cons, List.append_assoc]
theorem rep_one {α : Type} (x : α) : ∀ n : Nat, (List.replicate n [x]).flatten = List.replicate n x
  | 0 => rfl
  | n + 1 => by
    rw [List.replicate_succ, List.flatten_cons, rep_one x n, List.replicate_succ]
    rfl
theorem bigT_cps : bigT.cps.toList = bigL := by
  have e0 : (Str.ofString "0").cps.toList = [48] := by decide
  have e1 : (Str.ofString "1").cps.toList = [49] := by decide
  show ((Str.ofString "1").cps ++ (PySem.Txt.mul (Str.ofString "0") 900).cps).toList = bigL
  rw [Array.toList_append, e1]
  have e2 : PySem.Txt.mul (Str.ofString "0") 900 = ⟨(List.replicate (900 : Int).toNat (Str.ofString "0").cps).foldl (· ++ ·) #[]⟩ := by
    unfold PySem.Txt.mul
    rw [if_neg (by decide), if_neg (by decide)]
  rw [e2]
  show [49] ++ ((List.replicate (900 : Int).toNat (Str.ofString "0").cps).foldl (· ++ ·) #[]).toList = bigL
  rw [fold_rep, e0, rep_one]
  rfl
theorem bigT_text : numTextOf bigT = bigL := by
  have h : bigT.cps.all (· < 128) = true := by
    rw [← Array.all_toList, bigT_cps]
    exact bigL_low
  show (if bigT.cps.all (· < 128) then bigT.cps.toList else Unicode.numberText bigT.cps.toList) = bigL
  rw [if_pos h, bigT_cps]
theorem bigT_seen : numSeenOf bigT = bigL := by
  show (numTextOf bigT).takeWhile (· != 0) = bigL
  rw [bigT_text, bigL_seen]
theorem call_bigT {X : Cx} (nd : nsIn X.K cStatics "sys.int_max_str_digits" = some none) : CallR X (.type "int") (fun xs H Q => xs = [.str bigT] ∧ Q (.int (10 ^ 900)) H) :=
  call_int_big (by rw [bigT_seen]; exact bigL_len) (by rw [bigT_seen]; exact bigL_val) (by rw [bigT_seen, bigT_text]; exact beq_self_eq_true _) nd
end
/-! ### a tuple again and again, of none too -/
section
theorem tuple_mul0 (l : Addr) (items : Array Value) (n : Nat) (dd : Option Addr) (sl : Array (Option Value)) (x : Int) (u : Tok) (c0 : (decide (x < -(2 ^ 63)) || decide (x ≥ 2 ^ 63)) = false) (c1 : (items.isEmpty || x == 1) = true) :
    Meets (Builtin.«tuple.__mul__» ⟨[.ref l, .int x u], []⟩) (fun _ R s => s.heap.get? l = some { cls := .type "tuple", dict := dd, data := .seq items n, slots := sl } ∧ R (.ok (.ret (.ref l))) s) :=
  .of_wp fun prog w A R s h => by
    obtain ⟨hp, g, d, tk, os⟩ := s
    obtain ⟨hl, h⟩ := h
    have f1 := AutoSeq1.idx_int
    wp_walk using wpAny_loadPart' hl
    repeat (first
      | (refine wpAny_ite_false (decide_eq_false (by rw [c0]; exact Bool.false_ne_true)) ?_; wp_walk using wpAny_loadPart' hl)
      | (refine wpAny_ite_true (decide_eq_true c1) ?_; wp_walk using wpAny_loadPart' hl))
    all_goals first | exact ⟨_, rfl, h⟩ | skip
def rRepTA (K : PySem.W.Frag) : R2 := fun x y H Q => ∃ l k xs, x = .ref l ∧ y = .int k ∧ SqT K H l xs ∧ 2 ≤ k ∧ k ≤ 1000 ∧ xs.length ≤ 1000 ∧ (xs = [] → Q (.ref l) H) ∧ (xs ≠ [] → ∀ p, H p = none → Q (.ref p) (upd H p (.tup (List.replicate k.toNat xs).flatten)))
variable {X : Cx}
theorem op_repTA : OpR X (binaryOp .Mult) (rRepTA X.K) := by
  intro pins s σ H x y v u Q I rx ry h
  obtain ⟨l, k, xs, rfl, rfl, hT, h1, h2, hz, q0, q1⟩ := h
  by_cases hne : xs = []
  · subst hne
    cases rx
    obtain ⟨t, rfl⟩ := ry
    obtain ⟨its, r, ⟨⟨cls, dd, data, sl⟩, ho, hc, n, hd⟩, hs⟩ := I.tuple hT
    simp only at hc hd
    subst hc hd
    have hle : its.length = 0 := r.length.symm
    have hits : its = [] := List.eq_nil_of_length_eq_zero hle
    subst hits
    have c0 : (decide (k < -(2 ^ 63)) || decide (k ≥ 2 ^ 63)) = false := by
      rw [decide_eq_false (by omega), decide_eq_false (by omega)] <;> rfl
    refine wpAny_binaryOp_repeat_ref (T := "tuple") (U := "int") (by decide) ⟨_, ho, rfl⟩ (fun s' => typeIs_int s' k t) noFill_tuple_mul F.fills_int_mul F.slot_int_rmul repeat_tuple F.slot_int_index.lookup
      (call_meets F.slot_int_rmul (typeIs_int s k t) F.entry_int_rmul (F.args_int_rmul_2 _ _) (int_rmul_tuple k t l #[] n dd sl)
        ⟨ho, rfl, ⟨_, ho, rfl⟩, call_meets F.slot_tuple_mul ⟨_, ho, rfl⟩ F.entry_tuple_mul (F.args_tuple_mul_2 _ _) (tuple_mul0 l #[] n dd sl k t c0 rfl) ⟨ho, ?_⟩⟩)
    exact ⟨.ref l, H, I, rfl, q0 rfl⟩
  · exact op_repT pins s σ H _ _ v u Q I rx ry ⟨l, k, xs, rfl, rfl, hT, hne, h1, h2, hz, q1 hne⟩
def rNeE (K : PySem.W.Frag) : R2 := fun x y H Q => ∃ a b xs, x = .ref a ∧ y = .ref b ∧ SqT K H a xs ∧ SqT K H b [] ∧ Q (.bl (!xs.isEmpty)) H
theorem op_neE (hu : X.A.units + 64 < cLine) : OpR X (compareOp .NotEq) (rNeE X.K) := by
  intro pins s σ H x y v u Q I rx ry h
  obtain ⟨a, b, xs, rfl, rfl, hA, hB, q⟩ := h
  cases rx
  cases ry
  obtain ⟨its, r, hT, _⟩ := I.tuple hA
  obtain ⟨its2, r2, hT2, _⟩ := I.tuple hB
  cases r2
  have e : (!((List.range (min its.toArray.size ([] : List Value).toArray.size)).all (fun _ => true) && its.toArray.size == ([] : List Value).toArray.size)) = !xs.isEmpty := by
    cases r with
    | nil => rfl
    | cons _ _ =>
      show (!(_ && (_ + 1 == 0))) = true
      rw [show ((_ + 1 : Nat) == 0) = false from rfl, Bool.and_false]
      rfl
  refine PySem.SeqAt.RcNeAt.tuples (e := fun _ => true) hT hT2 (by omega) (fun j h1 h2 => absurd h2 (Nat.not_lt_zero _)) _ _ _ _ ⟨.bl (!xs.isEmpty), H, I, ?_, q⟩
  rw [e]
  rfl
end
/-! ### things at addresses, one by one -/
def Each {α : Type} (φ : Addr → α → Prop) (as : List Addr) (xs : List α) : Prop := as.length = xs.length ∧ ∀ (i : Nat) (a : Addr) (x : α), as[i]? = some a → xs[i]? = some x → φ a x
section
variable {α : Type} {φ ψ : Addr → α → Prop}
theorem Each.mono {as : List Addr} {xs : List α} (h : Each φ as xs) (f : ∀ a x, φ a x → ψ a x) : Each ψ as xs := ⟨h.1, fun i a x h1 h2 => f a x (h.2 i a x h1 h2)⟩
theorem Each.nil : Each φ [] [] := ⟨rfl, fun i a x h => by cases h⟩
theorem Each.app {as bs : List Addr} {xs ys : List α} (h : Each φ as xs) (g : Each φ bs ys) : Each φ (as ++ bs) (xs ++ ys) := by
  refine ⟨by rw [List.length_append, List.length_append, h.1, g.1], fun i a x e1 e2 => ?_⟩
  by_cases c : i < as.length
  · rw [List.getElem?_append_left c] at e1
    rw [List.getElem?_append_left (by rw [← h.1]; exact c)] at e2
    exact h.2 i a x e1 e2
  · rw [List.getElem?_append_right (by omega)] at e1
    rw [List.getElem?_append_right (by rw [← h.1]; omega), ← h.1] at e2
    exact g.2 _ a x e1 e2
theorem Each.one {a : Addr} {x : α} (h : φ a x) : Each φ [a] [x] := ⟨rfl, fun i b y e1 e2 => by
  cases i with
  | zero =>
    cases e1
    cases e2
    exact h
  | succ i => cases e1⟩
theorem Each.snoc {as : List Addr} {xs : List α} {a : Addr} {x : α} (h : Each φ as xs) (e : φ a x) : Each φ (as ++ [a]) (xs ++ [x]) := h.app (Each.one e)
theorem Each.take {as : List Addr} {xs : List α} (h : Each φ as xs) (n : Nat) : Each φ (as.take n) (xs.take n) := by
  refine ⟨by rw [List.length_take, List.length_take, h.1], fun i a x e1 e2 => ?_⟩
  rw [List.getElem?_take] at e1 e2
  split at e1
  · next c =>
    rw [if_pos c] at e2
    exact h.2 i a x e1 e2
  · cases e1
theorem Each.drop {as : List Addr} {xs : List α} (h : Each φ as xs) (n : Nat) : Each φ (as.drop n) (xs.drop n) := by
  refine ⟨by rw [List.length_drop, List.length_drop, h.1], fun i a x e1 e2 => ?_⟩
  rw [List.getElem?_drop] at e1 e2
  exact h.2 _ a x e1 e2
theorem Each.get {as : List Addr} {xs : List α} (h : Each φ as xs) {i : Nat} {v : V} (e : (as.map V.ref)[i]? = some v) : ∃ a x, v = .ref a ∧ as[i]? = some a ∧ xs[i]? = some x ∧ φ a x := by
  obtain ⟨a, rfl, ea⟩ := ref_get e
  have hi := (List.getElem?_eq_some_iff.mp ea).1
  have ex : xs[i]? = some (xs[i]'(by rw [← h.1]; exact hi)) := List.getElem?_eq_getElem _
  exact ⟨a, _, rfl, ea, ex, h.2 i a _ ea ex⟩
end
/-! ### strands of any kind -/
def isNoneD : PyData → Bool
  | .none => true
  | _ => false
def isLaidD : PyData → Bool
  | .tuple [w, a, l] => isWispT (thD w) && (whT (thD a) 0 && (isNoneD l || whT (thD l) (numT (thD a) + 1)))
  | _ => false
def isStrandD : PyData → Bool
  | .tuple ds => decide (ds.length ≤ 60) && ds.all isLaidD
  | _ => false
def spLaidD : Sp := fun vs H Q _ => ∃ (B : Int) (p l : Addr) (Y : List Addr) (v : V) (d : PyData), vs = [v] ∧ Dd B p l Y H v d ∧ B ≤ topB ∧ ∀ H', Same H H' → Q (.bl (isLaidD d)) H'
def spStrandD : Sp := fun vs H Q _ => ∃ (B : Int) (p l : Addr) (Y : List Addr) (v : V) (d : PyData), vs = [v] ∧ Dd B p l Y H v d ∧ B ≤ topB ∧ d.bulk ≤ 40000 ∧ ∀ H', Same H H' → Q (.bl (isStrandD d)) H'
theorem Dd.isN {B : Int} {p l : Addr} {Y : List Addr} {H : Hp} {v : V} {d : PyData} (h : Dd B p l Y H v d) : decide (v = .non) = isNoneD d := by
  cases h <;> rfl
theorem Dd.tupE {B : Int} {p l : Addr} {Y : List Addr} {H : Hp} {v : V} {ds : List PyData} (h : Dd B p l Y H v (.tuple ds)) : ∃ a vs, v = .ref a ∧ H a = some (.tup vs) ∧ vs.length = ds.length ∧ ∀ (i : Nat) (v : V) (d : PyData), vs[i]? = some v → ds[i]? = some d → Dd B p l Y H v d := by
  cases h with
  | tup np nl ny e hl h => exact ⟨_, _, rfl, e, hl, h⟩
theorem Dd.notT {B : Int} {p l : Addr} {Y : List Addr} {H : Hp} {v : V} {d : PyData} (h : Dd B p l Y H v d) (n : (thD d).isT = false) : isLaidD d = false ∧ isStrandD d = false := by
  cases h with
  | tup np nl ny e hl h => cases n
  | _ => exact ⟨rfl, rfl⟩
theorem thD_tup {d : PyData} (h : (thD d).isT = true) : ∃ ds, d = .tuple ds := by
  cases d with
  | tuple ds => exact ⟨ds, rfl⟩
  | _ => cases h
/-- a strand at hand -/
theorem laid_dv {p l a : Addr} {H : Hp} {T : Nat} {L : Lw} (hp : Pot H p l T) (h : LaidAt H a L) (g : GoodL L) : DV (2 ^ 206) p l [] H (.ref a) 43 4 := by
  obtain ⟨wa, e, hw⟩ := h
  obtain ⟨n1, n2⟩ := pot_tup hp e
  have dw := (wisp_dv hp hw g.1 g.2.1 g.2.2.1).up (show (2 : Int) ^ 200 ≤ 2 ^ 206 by decide) (Nat.le_refl _) (Nat.le_refl _)
  have hb := g.2.2.2.2.1
  have da : DV (2 ^ 206) p l [] H (.int L.pl) 0 3 := DV.int (by have := g.2.2.2.1; omega) (by omega)
  have dl : DV (2 ^ 206) p l [] H (letV L.le) 0 3 := by
    cases q : L.le with
    | none => exact DV.non
    | some n =>
      have := g.2.2.2.2.2 n q
      have := g.2.2.2.1
      exact DV.int (by omega) (by omega)
  exact (DVs.cons dw (DVs.cons da (DVs.one dl))).tup n1 n2 List.not_mem_nil e
theorem laids_dv {p l : Addr} {H : Hp} {T : Nat} {as : List Addr} {Ls : List Lw} (hp : Pot H p l T) (h : LaidsAt H as Ls) (g : ∀ L ∈ Ls, GoodL L) : DVs (2 ^ 206) p l [] H (as.map V.ref) (44 * as.length) 4 := by
  have h := DVs.of (B := 2 ^ 206) (p := p) (l := l) (Y := []) (H := H) (n := 4) (c := 43) (vs := as.map V.ref) fun v hv => by
    obtain ⟨a, ha, rfl⟩ := List.mem_map.mp hv
    obtain ⟨i, hi⟩ := List.getElem?_of_mem ha
    obtain ⟨L, e1, e2⟩ := h.2 i a hi
    exact laid_dv hp e2 (g L (List.mem_of_getElem? e1))
  refine h.up (Int.le_refl _) ?_ (Nat.le_refl _)
  rw [List.length_map]
  omega
def spStrandE : Sp := fun vs H Q _ => ∃ (p l : Addr) (T : Nat) (most : Int) (small : Bool), vs = [.ref p, .int most, .bl small] ∧ Pot H p l T ∧ T < 2 ^ 37 ∧ (most = 6 ∨ most = 60) ∧
  ∀ H' a Ls, Pot H' p l (T + 20000) → Keep p l H H' → StrandAt H' a Ls → Ls.length ≤ 60 → (∀ L ∈ Ls, GoodL L) → Q (.ref a) H'
theorem isLaidD_len {ds : List PyData} (h : ds.length ≠ 3) : isLaidD (.tuple ds) = false := by
  match ds, h with
  | [], _ => rfl
  | [_], _ => rfl
  | [_, _], _ => rfl
  | [_, _, _], h => exact absurd rfl h
  | _ :: _ :: _ :: _ :: _, _ => rfl
theorem lenIn_tup {ds : List PyData} {m n : Nat} : lenIn (thD (.tuple ds)) m n = (decide (m ≤ ds.length) && decide (ds.length ≤ n)) := by
  show (decide ((m : Int) ≤ ((thDs ds).length : Int)) && decide (((thDs ds).length : Int) ≤ (n : Int))) = (decide (m ≤ ds.length) && decide (ds.length ≤ n))
  rw [thDs_length, decide_eq_decide.mpr (show (m : Int) ≤ (ds.length : Int) ↔ m ≤ ds.length by omega), decide_eq_decide.mpr (show (ds.length : Int) ≤ (n : Int) ↔ ds.length ≤ n by omega)]
/-- a strand at hand, perhaps of a few too many -/
def StrF (H : Hp) (S : Addr) (as : List Addr) : Prop := H S = some (.tup (as.map V.ref)) ∧ as.length ≤ 62 ∧ ∀ b ∈ as, ∃ L, LaidAt H b L ∧ GoodL L
theorem StrF.mono {H H' : Hp} {S : Addr} {as : List Addr} (h : StrF H S as) (t : Tups H H') : StrF H' S as := ⟨t _ _ h.1, h.2.1, fun b hb => by
  obtain ⟨L, h1, h2⟩ := h.2.2 b hb
  exact ⟨L, h1.mono t, h2⟩⟩
theorem StrF.of {H : Hp} {S : Addr} {Ls : List Lw} (h : StrandAt H S Ls) (hl : Ls.length ≤ 60) (g : ∀ L ∈ Ls, GoodL L) : ∃ as, StrF H S as ∧ as.length = Ls.length := by
  obtain ⟨as, h1, h2⟩ := h
  refine ⟨as, ⟨h1, by have := h2.1; omega, fun b hb => ?_⟩, h2.1⟩
  obtain ⟨i, hi⟩ := List.getElem?_of_mem hb
  obtain ⟨L, e1, e2⟩ := h2.2 i b hi
  exact ⟨L, e2, g L (List.mem_of_getElem? e1)⟩
theorem StrF.dv {p l S : Addr} {H : Hp} {T : Nat} {as : List Addr} (hp : Pot H p l T) (h : StrF H S as) : DV (2 ^ 206) p l [] H (.ref S) 2728 5 := by
  have h1 := DVs.of (B := 2 ^ 206) (p := p) (l := l) (Y := []) (H := H) (n := 4) (c := 43) (vs := as.map V.ref) fun v hv => by
    obtain ⟨a, ha, rfl⟩ := List.mem_map.mp hv
    obtain ⟨L, e1, e2⟩ := h.2.2 a ha
    exact laid_dv hp e1 e2
  obtain ⟨n1, n2⟩ := pot_tup hp h.1
  have hl := h.2.1
  refine (h1.tup n1 n2 List.not_mem_nil h.1).up (Int.le_refl _) ?_ (Nat.le_refl _)
  rw [List.length_map]
  omega
theorem rep_map {n : Nat} {as : List Addr} : (List.replicate n (as.map V.ref)).flatten = ((List.replicate n as).flatten).map V.ref := by
  rw [List.map_flatten, List.map_replicate]
theorem rep_mem {n : Nat} {as : List Addr} {b : Addr} (h : b ∈ (List.replicate n as).flatten) : b ∈ as := by
  obtain ⟨l, hl, hb⟩ := List.mem_flatten.mp h
  rw [(List.mem_replicate.mp hl).2] at hb
  exact hb
/-! ### baskets as they are drawn -/
def PotB (H : Hp) (p : Addr) : Prop := ∃ g s : Int, H p = some (.lst [.int g, .int s]) ∧ 0 ≤ g ∧ g < 10 ^ 900 ∧ 0 ≤ s ∧ s < 2 ^ 61
theorem PotB.new {H : Hp} {p a : Addr} {o : HO} (h : PotB H p) (n : H a = none) : PotB (upd H a o) p := by
  obtain ⟨g, s, h1, h2⟩ := h
  exact ⟨g, s, by rw [upd_ne (ne_of_none h1 n)]; exact h1, h2⟩
theorem PotB.other {H : Hp} {p a : Addr} {o : HO} (h : PotB H p) (n : a ≠ p) : PotB (upd H a o) p := by
  obtain ⟨g, s, h1, h2⟩ := h
  exact ⟨g, s, by rw [upd_ne n.symm]; exact h1, h2⟩
theorem PotB.notP {H : Hp} {p a : Addr} {xs : List V} (h : PotB H p) (e : H a = some (.tup xs)) : a ≠ p := by
  obtain ⟨g, s, h1, h2⟩ := h
  exact ne_of e h1 (by intro z; cases z)
theorem PotB.fresh {H : Hp} {p a : Addr} (h : PotB H p) (e : H a = none) : a ≠ p := by
  obtain ⟨g, s, h1, h2⟩ := h
  exact (ne_of_none h1 e).symm
theorem PotB.same {H H' : Hp} {p : Addr} (h : PotB H p) (e : Same H H') : PotB H' p := by
  obtain ⟨g, s, h1, h2⟩ := h
  exact ⟨g, s, e _ _ h1, h2⟩
theorem Keep.tupsB {p : Addr} {H H' : Hp} (k : Keep p p H H') (h : PotB H p) : Tups H H' := fun a xs e => k a _ (h.notP e) (h.notP e) e
theorem Keep.freeB {p a : Addr} {H H' : Hp} (k : Keep p p H H') (hp : PotB H' p) (h : H' a = none) : H a = none := by
  cases e : H a with
  | none => rfl
  | some o =>
    have n := hp.fresh h
    rw [k a o n n e] at h
    cases h
def spPotB (K : PySem.W.Frag) : Sp := fun vs H Q _ => ∃ (a : Addr) (ns : List Int) (k : Int), vs = [.ref a, .int k] ∧ SqL K H a (ns.map V.int) ∧ ns.length ≤ 63 ∧ 0 ≤ k ∧ k ≤ 100 ∧ ∀ H' p, Same H H' → H p = none → PotB H' p → Q (.ref p) H'
def spTakeB : Sp := fun vs H Q _ => ∃ (p : Addr) (many : Int), vs = [.ref p, .int many] ∧ PotB H p ∧ CDivW 0 many ∧ ∀ d H', 0 ≤ d → d < many → PotB H' p → Keep p p H H' → Q (.int d) H'
structure Kd where
  so : Int
  ps : List (Int × Int)
  many : Option Int
def KdAt (H : Hp) (a : Addr) (k : Kd) : Prop := ∃ wa, H a = some (.tup [.ref wa, letV k.many]) ∧ WispAt H wa k.so k.ps
def BasketAt (H : Hp) (b : Addr) (ks : List Kd) : Prop := ∃ as, H b = some (.tup (as.map V.ref)) ∧ Each (KdAt H) as ks
def FrameAt (H : Hp) (f : Addr) (lo hi hd : Int) : Prop := H f = some (.tup [.int lo, .int hi, .int hd])
theorem KdAt.mono {H H' : Hp} {a : Addr} {k : Kd} (h : KdAt H a k) (t : Tups H H') : KdAt H' a k := by
  obtain ⟨wa, h1, h2⟩ := h
  exact ⟨wa, t _ _ h1, h2.mono t⟩
theorem BasketAt.mono {H H' : Hp} {b : Addr} {ks : List Kd} (h : BasketAt H b ks) (t : Tups H H') : BasketAt H' b ks := by
  obtain ⟨as, h1, h2⟩ := h
  exact ⟨as, t _ _ h1, h2.mono fun a k h => h.mono t⟩
def GoodK (k : Kd) : Prop := GoodP k.ps ∧ 0 ≤ k.so ∧ k.so ≤ 1 ∧ Falls k.ps ∧ longs k.ps ≤ 8 ∧ ∀ n, k.many = some n → 0 ≤ n ∧ n ≤ 9
def spWispB : Sp := fun vs H Q _ => ∃ (p : Addr) (most scale : Int), vs = [.ref p, .int most, .int scale] ∧ PotB H p ∧ 1 ≤ most ∧ most ≤ 8 ∧ 1 ≤ scale ∧ scale ≤ 10 ^ 30 ∧
  ∀ H' a so ps, PotB H' p → Keep p p H H' → WispAt H' a so ps → 0 ≤ so → so ≤ 1 → GoodP ps → Falls ps → longs ps ≤ most → H a = none → Q (.ref a) H'
def spSetB : Sp := fun vs H Q _ => ∃ (p : Addr), vs = [.ref p] ∧ PotB H p ∧
  ∀ H' r b f ks lo hi hd, PotB H' p → Keep p p H H' → H' r = some (.tup [.ref b, .ref f]) → BasketAt H' b ks → 1 ≤ ks.length → ks.length ≤ 4 → (∀ k ∈ ks, GoodK k) → FrameAt H' f lo hi hd → 1 ≤ lo → lo ≤ hi → hi < 2 ^ 120 → 1 ≤ hd → hd ≤ 3 → Q (.ref r) H'
section
variable {α : Type} {φ : Addr → α → Prop}
theorem Each.set {as : List Addr} {xs : List α} (h : Each φ as xs) {a : Addr} {x : α} (e : φ a x) (n : Nat) : Each φ (as.set n a) (xs.set n x) := by
  refine ⟨by rw [List.length_set, List.length_set, h.1], fun i b y e1 e2 => ?_⟩
  rw [List.getElem?_set] at e1 e2
  by_cases c : n = i
  · rw [if_pos c] at e1 e2
    split at e1
    · rename_i c2
      rw [if_pos (by rw [← h.1]; exact c2)] at e2
      cases e1
      cases e2
      exact e
    · cases e1
  · rw [if_neg c] at e1 e2
    exact h.2 i b y e1 e2
end
/-- kinds that grow -/
def KindsAt (H : Hp) (R : Addr) (ks : List Kd) : Prop := ∃ cs, H R = some (.lst (cs.map V.ref)) ∧ Each (KdAt H) cs ks
theorem letV_many {m : Option Int} : letV m = match m with | none => V.non | some n => V.int n := by
  cases m <;> rfl
section
variable {B : Int} {p l : Addr} {Y : List Addr} {H : Hp}
theorem Dd.putY {L : Addr} {o : HO} {v : V} {d : PyData} (h : Dd B p l (L :: Y) H v d) : Dd B p l (L :: Y) (upd H L o) v d := by
  have ok : ∀ {a}, a ∉ L :: Y → upd H L o a = H a := fun h => upd_ne fun e => h (e ▸ List.mem_cons_self)
  induction h with
  | non => exact .non
  | bl b => exact .bl b
  | int n h1 h2 => exact .int n h1 h2
  | str z h => exact .str z h
  | dic0 np nl ny e => exact .dic0 np nl ny ((ok ny).trans e)
  | dic1 np nl ny e => exact .dic1 np nl ny ((ok ny).trans e)
  | lst np nl ny e hl _ ih => exact .lst np nl ny ((ok ny).trans e) hl ih
  | tup np nl ny e hl _ ih => exact .tup np nl ny ((ok ny).trans e) hl ih
theorem Dd.dropY {L : Addr} {v : V} {d : PyData} (h : Dd B p l (L :: Y) H v d) : Dd B p l Y H v d := by
  have ok : ∀ {a}, a ∉ L :: Y → a ∉ Y := fun h hm => h (List.mem_cons_of_mem _ hm)
  induction h with
  | non => exact .non
  | bl b => exact .bl b
  | int n h1 h2 => exact .int n h1 h2
  | str z h => exact .str z h
  | dic0 np nl ny e => exact .dic0 np nl (ok ny) e
  | dic1 np nl ny e => exact .dic1 np nl (ok ny) e
  | lst np nl ny e hl _ ih => exact .lst np nl (ok ny) e hl ih
  | tup np nl ny e hl _ ih => exact .tup np nl (ok ny) e hl ih
theorem DV.putY {L : Addr} {o : HO} {v : V} {b n : Nat} (h : DV B p l (L :: Y) H v b n) : DV B p l (L :: Y) (upd H L o) v b n := by
  obtain ⟨d, h1, h2⟩ := h
  exact ⟨d, h1.putY, h2⟩
theorem DV.dropY {L : Addr} {v : V} {b n : Nat} (h : DV B p l (L :: Y) H v b n) : DV B p l Y H v b n := by
  obtain ⟨d, h1, h2⟩ := h
  exact ⟨d, h1.dropY, h2⟩
theorem DV.off {L : Addr} (nL : H L = none) {v : V} {b n : Nat} (h : DV B p l Y H v b n) : DV B p l (L :: Y) H v b n := by
  obtain ⟨d, h1, h2⟩ := h
  exact ⟨d, h1.off nL, h2⟩
/-- a list of things -/
def Lot (B : Int) (p : Addr) (Y : List Addr) (H : Hp) (S : Addr) (ws : List V) (b n : Nat) : Prop := H S = some (.lst ws) ∧ S ≠ p ∧ ∀ w ∈ ws, DV B p p Y H w b n
theorem Lot.same {S : Addr} {ws : List V} {b n : Nat} {H' : Hp} (h : Lot B p Y H S ws b n) (s : Same H H') : Lot B p Y H' S ws b n := ⟨s _ _ h.1, h.2.1, fun w hw => (h.2.2 w hw).mono (Same.keep s)⟩
theorem Lot.keep {S : Addr} {ws : List V} {b n : Nat} {H' : Hp} (h : Lot B p Y H S ws b n) (k : Keep p p H H') : Lot B p Y H' S ws b n := ⟨k _ _ h.2.1 h.2.1 h.1, h.2.1, fun w hw => (h.2.2 w hw).mono k⟩
theorem Lot.add {S : Addr} {ws : List V} {b n : Nat} {w : V} (h : Lot B p [S] H S ws b n) (hw : DV B p p [S] H w b n) : Lot B p [S] (upd H S (.lst (ws ++ [w]))) S (ws ++ [w]) b n := ⟨upd_same, h.2.1, fun u hu => by
  rcases List.mem_append.mp hu with hu | hu
  · exact (h.2.2 u hu).putY
  · rw [List.mem_singleton.mp hu]
    exact hw.putY⟩
end
def spBentB (N : Nat) : Sp := fun vs H Q _ => ∃ (p : Addr) (B : Int) (v : V) (b n : Nat), vs = [.ref p, v] ∧ PotB H p ∧ 99 ≤ B ∧ B < 2 ^ 249 ∧ DV B p p [] H v b n ∧ b ≤ 1000 ∧ n < N ∧
  ∀ H' u, PotB H' p → Keep p p H H' → DV (B + 1) p p [] H' u (3 * b + 400) (n + 1) → Q u H'
theorem DVs.putY {B : Int} {p l : Addr} {Y : List Addr} {H : Hp} {L : Addr} {o : HO} {vs : List V} {b n : Nat} (h : DVs B p l (L :: Y) H vs b n) : DVs B p l (L :: Y) (upd H L o) vs b n := by
  obtain ⟨ds, h1, h2⟩ := h
  exact ⟨ds, ⟨h1.len, fun i v d e1 e2 => (h1.at' i v d e1 e2).putY⟩, h2⟩
theorem tup_ne_lst {H : Hp} {A S : Addr} {xs ys : List V} (e1 : H A = some (.tup xs)) (e2 : H S = some (.lst ys)) : A ∉ [S] := fun h => by
  rw [List.mem_singleton.mp h, e2] at e1
  cases e1
/-! ### baskets of any kind -/
def secondT : Th → Int
  | .tup [_, .int g] => g
  | _ => 0
def longsT : Th → Int
  | .tup [_, .tup ss] => (ss.map secondT).sum
  | _ => 0
def isManyD (d : PyData) : Bool := isNoneD d || (whT (thD d) 0 && decide (numT (thD d) ≤ 9))
def isKindD : PyData → Bool
  | .tuple [w, m] => isWispT (thD w) && (decide (longsT (thD w) ≤ 8) && isManyD m)
  | _ => false
def isBasketD : PyData → Bool
  | .tuple ds => (decide (1 ≤ ds.length) && decide (ds.length ≤ 4)) && ds.all isKindD
  | _ => false
def isFrameD : PyData → Bool
  | .tuple [a, b, c] => whT (thD a) 1 && (whT (thD b) (numT (thD a)) && (whT (thD c) 1 && decide (numT (thD c) ≤ 3)))
  | _ => false
def spIsD (f : PyData → Bool) : Sp := fun vs H Q _ => ∃ (B : Int) (p l : Addr) (Y : List Addr) (v : V) (d : PyData), vs = [v] ∧ Dd B p l Y H v d ∧ B ≤ topB ∧ ∀ H', Same H H' → Q (.bl (f d)) H'
def spLongs : Sp := fun vs H Q _ => ∃ (v : V) (t : Th), vs = [v] ∧ ThAt topB H v t ∧ isWispT t = true ∧ ∀ H', Same H H' → Q (.int (longsT t)) H'
def spShortT : Sp := fun vs H Q _ => ∃ (v : V) (t : Th), vs = [v] ∧ ThAt topB H v t ∧ ∀ H', Same H H' → Q (.bl (isWispT t && decide (longsT t ≤ 8))) H'
theorem Dd.no41 {B : Int} {p l : Addr} {Y : List Addr} {H : Hp} {v : V} {d : PyData} (h : Dd B p l Y H v d) (n : (thD d).isT = false) : isKindD d = false ∧ isBasketD d = false ∧ isFrameD d = false := by
  cases h with
  | tup np nl ny e hl h => cases n
  | _ => exact ⟨rfl, rfl, rfl⟩
theorem isKindD_len {ds : List PyData} (h : ds.length ≠ 2) : isKindD (.tuple ds) = false := by
  match ds, h with
  | [], _ => rfl
  | [_], _ => rfl
  | [_, _], h => exact absurd rfl h
  | _ :: _ :: _ :: _, _ => rfl
theorem isFrameD_len {ds : List PyData} (h : ds.length ≠ 3) : isFrameD (.tuple ds) = false := by
  match ds, h with
  | [], _ => rfl
  | [_], _ => rfl
  | [_, _], _ => rfl
  | [_, _, _], h => exact absurd rfl h
  | _ :: _ :: _ :: _ :: _, _ => rfl
theorem lenIn_not {d : PyData} (n : (thD d).isT = false) (a b : Int) : lenIn (thD d) a b = false := by
  cases h : thD d with
  | tup ts =>
    rw [h] at n
    cases n
  | _ => rfl
theorem between_ne {n k : Nat} (h : n ≠ k) : (decide (k ≤ n) && decide (n ≤ k)) = false := by
  by_cases c : k ≤ n
  · rw [decide_eq_false (show ¬ n ≤ k by omega), Bool.and_false]
  · rw [decide_eq_false c, Bool.false_and]
theorem wisp_parts {t : Th} (h : isWispT t = true) : ∃ (m : Int) (ss : List Th), t = .tup [.int m, .tup ss] ∧ ss.length ≤ 8 ∧ ss.all isStep = true := by
  cases t with
  | tup ts =>
    match ts, h with
    | [x, y], h =>
      have h : (whT x 0 && decide (numT x ≤ 1) && areSteps y) = true := h
      obtain ⟨h1, h2⟩ := Bool.and_eq_true_iff.mp h
      obtain ⟨h3, _⟩ := Bool.and_eq_true_iff.mp h1
      obtain ⟨m, rfl, _⟩ := wh_of h3
      cases y with
      | tup ss =>
        have h2 : (decide (1 ≤ ss.length) && decide (ss.length ≤ 8) && ss.all isStep && fallsT (ss.map firstT)) = true := h2
        obtain ⟨h4, _⟩ := Bool.and_eq_true_iff.mp h2
        obtain ⟨h5, h6⟩ := Bool.and_eq_true_iff.mp h4
        obtain ⟨_, h7⟩ := Bool.and_eq_true_iff.mp h5
        exact ⟨m, ss, rfl, of_decide_eq_true h7, h6⟩
      | _ => cases h2
    | [], h => cases h
    | [_], h => cases h
    | _ :: _ :: _ :: _, h => cases h
  | _ => cases h
/-! ### a basket at hand as a thing -/
section
variable {B : Int} {p l : Addr} {H : Hp}
theorem stepG_dd (nt : ∀ a xs, H a = some (.tup xs) → a ≠ p ∧ a ≠ l) {as : List Addr} {ps : List (Int × Int)} (h : TupsAt H as (ps.map stepV)) (hb : ∀ x ∈ ps, -B ≤ x.1 ∧ x.1 ≤ B ∧ -B ≤ x.2 ∧ x.2 ≤ B) : DsV B p l [] H (as.map V.ref) (ps.map fun p => PyData.tuple [.int p.1, .int p.2]) := by
  have hl := h.1
  rw [List.length_map] at hl
  refine ⟨by rw [List.length_map, List.length_map, hl], fun i v d e1 e2 => ?_⟩
  obtain ⟨a, t, g, rfl, ep, ea⟩ := step_get h e1
  rw [List.getElem?_map, ep] at e2
  have e2 := Option.some.inj e2
  subst e2
  have hx := hb _ (List.mem_of_getElem? ep)
  obtain ⟨n1, n2⟩ := nt _ _ ea
  exact .tup n1 n2 List.not_mem_nil ea rfl (DsV.cons (.int t hx.1 hx.2.1) (DsV.one (.int g hx.2.2.1 hx.2.2.2))).at'
theorem wispG_dd (nt : ∀ a xs, H a = some (.tup xs) → a ≠ p ∧ a ≠ l) {a : Addr} {s : Int} {ps : List (Int × Int)} (h : WispAt H a s ps) (hs : -B ≤ s ∧ s ≤ B) (hb : ∀ x ∈ ps, -B ≤ x.1 ∧ x.1 ≤ B ∧ -B ≤ x.2 ∧ x.2 ≤ B) : Dd B p l [] H (.ref a) (wispD s ps) := by
  obtain ⟨st, as, e1, e2, tu⟩ := h
  obtain ⟨n1, n2⟩ := nt _ _ e1
  obtain ⟨m1, m2⟩ := nt _ _ e2
  have ds := stepG_dd nt tu hb
  exact .tup n1 n2 List.not_mem_nil e1 rfl (DsV.cons (.int s hs.1 hs.2) (DsV.one (.tup m1 m2 List.not_mem_nil e2 ds.len ds.at'))).at'
end
def letDD : Option Int → PyData
  | none => .none
  | some n => .int n
def kindD (k : Kd) : PyData := .tuple [wispD k.so k.ps, letDD k.many]
def basketD (ks : List Kd) : PyData := .tuple (ks.map kindD)
theorem bulkAll_le {c : Nat} : ∀ {ds : List PyData}, (∀ d ∈ ds, d.bulk ≤ c) → PyData.bulkAll ds ≤ ds.length * (c + 1)
  | [], _ => Nat.zero_le _
  | d :: r, h => by
    have h1 := h d List.mem_cons_self
    have h2 := bulkAll_le (ds := r) fun x hx => h x (List.mem_cons_of_mem _ hx)
    show d.bulk + 1 + PyData.bulkAll r ≤ (r.length + 1) * (c + 1)
    rw [Nat.succ_mul]
    omega
theorem basket_dd {p l b : Addr} {H : Hp} {ks : List Kd} (nt : ∀ a xs, H a = some (.tup xs) → a ≠ p ∧ a ≠ l) (h : BasketAt H b ks) (g : ∀ k ∈ ks, GoodK k) (hl : ks.length ≤ 4) : Dd (2 ^ 140) p l [] H (.ref b) (basketD ks) ∧ (basketD ks).bulk ≤ 200 ∧ (basketD ks).depth ≤ 5 := by
  obtain ⟨as, e1, hE⟩ := h
  obtain ⟨n1, n2⟩ := nt _ _ e1
  refine ⟨.tup n1 n2 List.not_mem_nil e1 (by rw [List.length_map, List.length_map]; exact hE.1) fun i v d e2 e3 => ?_, ?_, ?_⟩
  · obtain ⟨a, k, rfl, _, ek, w, ea, hw⟩ := hE.get e2
    rw [List.getElem?_map, ek] at e3
    have e3 := Option.some.inj e3
    subst e3
    have gk := g k (List.mem_of_getElem? ek)
    obtain ⟨m1, m2⟩ := nt _ _ ea
    have dm : Dd (2 ^ 140) p l [] H (letV k.many) (letDD k.many) := by
      cases hm : k.many with
      | none => exact .non
      | some n =>
        have := gk.2.2.2.2.2 n hm
        exact .int n (by omega) (by omega)
    have dw := wispG_dd (B := 2 ^ 140) nt hw (by have := gk.2.1; have := gk.2.2.1; omega) fun x hx => by
      have := gk.1.2.2 x hx
      omega
    exact .tup m1 m2 List.not_mem_nil ea rfl (DsV.cons dw (DsV.one dm)).at'
  · show PyData.bulkAll (ks.map kindD) ≤ 200
    have := bulkAll_le (c := 48) (ds := ks.map kindD) fun d hd => by
      obtain ⟨k, hk, rfl⟩ := List.mem_map.mp hd
      have gk := g k hk
      have h1 := bulkAll_le (c := 2) (ds := k.ps.map fun p => PyData.tuple [.int p.1, .int p.2]) fun d hd => by
        obtain ⟨x, _, rfl⟩ := List.mem_map.mp hd
        exact Nat.le_refl _
      rw [List.length_map] at h1
      have h8 := gk.1.2.1
      have h2 : (letDD k.many).bulk = 0 := by
        cases k.many <;> rfl
      show (0 + 1 + (PyData.bulkAll (k.ps.map fun p => PyData.tuple [.int p.1, .int p.2]) + 1 + 0)) + 1 + ((letDD k.many).bulk + 1 + 0) ≤ 48
      omega
    rw [List.length_map] at this
    omega
  · refine Nat.succ_le_succ (depthAll_le.mpr fun d hd => ?_)
    obtain ⟨k, hk, rfl⟩ := List.mem_map.mp hd
    have h1 := wisp_depth k.so k.ps
    have h2 : (letDD k.many).depth = 0 := by
      cases k.many <;> rfl
    show max (wispD k.so k.ps).depth (max (letDD k.many).depth 0) + 1 ≤ 4
    omega
theorem thDs_map (xs : List (Int × Int)) : thDs (xs.map fun p => PyData.tuple [.int p.1, .int p.2]) = xs.map fun p => Th.tup [.int p.1, .int p.2] := by
  induction xs with
  | nil => rfl
  | cons x r ih => exact congrArg (Th.tup [.int x.1, .int x.2] :: ·) ih
theorem fallsT_of : ∀ {ps : List (Int × Int)}, Falls ps → fallsT (ps.map (·.1)) = true
  | [], _ => rfl
  | [_], _ => rfl
  | a :: b :: r, h => by
    have h1 := List.pairwise_cons.mp h
    show (decide (b.1 < a.1) && fallsT ((b :: r).map (·.1))) = true
    rw [decide_eq_true (h1.1 b List.mem_cons_self), fallsT_of h1.2]
    rfl
theorem wisp_told {s : Int} {ps : List (Int × Int)} (h0 : 0 ≤ s) (h1 : s ≤ 1) (g : GoodP ps) (f : Falls ps) : isWispT (thD (wispD s ps)) = true ∧ longsT (thD (wispD s ps)) = longs ps := by
  have e : thD (wispD s ps) = .tup [.int s, .tup (ps.map fun p => Th.tup [.int p.1, .int p.2])] := by
    show Th.tup [.int s, .tup (thDs (ps.map fun p => PyData.tuple [.int p.1, .int p.2]))] = _
    rw [thDs_map]
  rw [e]
  constructor
  · show (decide (0 ≤ s) && decide (s ≤ 1) && (decide (1 ≤ (ps.map fun p => Th.tup [.int p.1, .int p.2]).length) && decide ((ps.map fun p => Th.tup [.int p.1, .int p.2]).length ≤ 8) && (ps.map fun p => Th.tup [.int p.1, .int p.2]).all isStep && fallsT ((ps.map fun p => Th.tup [.int p.1, .int p.2]).map firstT))) = true
    have e1 : (ps.map fun p => Th.tup [.int p.1, .int p.2]).all isStep = true := by
      rw [List.all_eq_true]
      intro t ht
      obtain ⟨x, hx, rfl⟩ := List.mem_map.mp ht
      have := g.2.2 x hx
      show (decide (1 ≤ x.1) && decide (1 ≤ x.2)) = true
      rw [decide_eq_true this.1, decide_eq_true this.2.2.1]
      rfl
    have e2 : (ps.map fun p => Th.tup [.int p.1, .int p.2]).map firstT = ps.map (·.1) := by
      rw [List.map_map]
      rfl
    rw [e1, e2, fallsT_of f, List.length_map, decide_eq_true h0, decide_eq_true h1, decide_eq_true g.1, decide_eq_true g.2.1]
    rfl
  · show ((ps.map fun p => Th.tup [.int p.1, .int p.2]).map secondT).sum = (ps.map (·.2)).sum
    rw [List.map_map]
    rfl
theorem basket_told {ks : List Kd} (h1 : 1 ≤ ks.length) (h4 : ks.length ≤ 4) (g : ∀ k ∈ ks, GoodK k) : isBasketD (basketD ks) = true := by
  show ((decide (1 ≤ (ks.map kindD).length) && decide ((ks.map kindD).length ≤ 4)) && (ks.map kindD).all isKindD) = true
  rw [List.length_map, decide_eq_true h1, decide_eq_true h4]
  show (ks.map kindD).all isKindD = true
  rw [List.all_eq_true]
  intro d hd
  obtain ⟨k, hk, rfl⟩ := List.mem_map.mp hd
  have gk := g k hk
  obtain ⟨w1, w2⟩ := wisp_told gk.2.1 gk.2.2.1 gk.1 gk.2.2.2.1
  show (isWispT (thD (wispD k.so k.ps)) && (decide (longsT (thD (wispD k.so k.ps)) ≤ 8) && isManyD (letDD k.many))) = true
  rw [w1, w2, decide_eq_true gk.2.2.2.2.1]
  cases hm : k.many with
  | none => rfl
  | some n =>
    have := gk.2.2.2.2.2 n hm
    show (decide (0 ≤ n) && decide (n ≤ 9)) = true
    rw [decide_eq_true this.1, decide_eq_true this.2]
    rfl
theorem frame_dd {p l f : Addr} {H : Hp} {lo hi hd : Int} (nt : ∀ a xs, H a = some (.tup xs) → a ≠ p ∧ a ≠ l) (h : FrameAt H f lo hi hd) (h1 : 1 ≤ lo) (h2 : lo ≤ hi) (h3 : hi < 2 ^ 120) (h4 : 1 ≤ hd) (h5 : hd ≤ 3) : Dd (2 ^ 140) p l [] H (.ref f) (.tuple [.int lo, .int hi, .int hd]) ∧ isFrameD (.tuple [.int lo, .int hi, .int hd]) = true := by
  obtain ⟨n1, n2⟩ := nt _ _ h
  refine ⟨.tup n1 n2 List.not_mem_nil h rfl (DsV.cons (.int _ (by omega) (by omega)) (DsV.cons (.int _ (by omega) (by omega)) (DsV.one (.int _ (by omega) (by omega))))).at', ?_⟩
  show (decide (1 ≤ lo) && (decide (lo ≤ hi) && (decide (1 ≤ hd) && decide (hd ≤ 3)))) = true
  rw [decide_eq_true h1, decide_eq_true h2, decide_eq_true h4, decide_eq_true h5]
  rfl
def spEdges41 : Sp := fun vs H Q _ => vs = [] ∧ ∀ (H' : Hp) (o p : Addr) (ws : List V), Same H H' → H' o = some (.lst ws) → ws.length ≤ 60 → (∀ w ∈ ws, DV (2 ^ 140) p p [] H' w 2000 10) → Q (.ref o) H'
section
variable {P : Program} {w : World} {K : PySem.W.Frag} {mg : Str → Option Value} {base : Heap}
theorem ok_is_whole {f : Addr} {fd : FuncData} {k : Nat} (F : Fun K "is_whole" "is_whole" s_is_whole f fd) (bi : Bi mg) : FnOk P w K mg base CX0 (k + 1) f fd P_is_whole spWholeT := by
  refine F.ok sc_is_whole (fun vs H Q E h => ?_) (fun cdv A outer s H vs Q E hr h => ?_)
  · obtain ⟨v, t, n, rfl, _⟩ := h
    rfl
  · obtain ⟨v, t, n, rfl, hv, q⟩ := h
    refine ⟨_, (pss_one (ps_ret (pe_and (pe_callB call_isi (by rfl) bi.m_isinstance (by decide +kernel) (pa_cons (pv 0) (pa_cons (pe_bltn (v := .ty "int") (by rfl) bi.m_int (by decide +kernel) rfl) pa_nil))) (pe_and (pe_not (pe_callB call_isi (by rfl) bi.m_isinstance (by decide +kernel) (pa_cons (pv 0) (pa_cons (pe_bltn (v := .ty "bool") (by rfl) bi.m_bool (by decide +kernel) rfl) pa_nil)))) (pe_one (pe_cmpR op_ge (pv 0) (pv 1) (nomark _))))))), ?_⟩
    obtain ⟨Tint, hint, kint⟩ := isi_int (K := K) hv
    refine ⟨_, rfl, _, _, _, _, _, rfl, ClsV.ty "int", hint, kint, _, rfl, ?_⟩
    cases t with
    | int m =>
      refine iteT ?_
      obtain ⟨Tbl, hbl, kbl⟩ := isi_bl (K := K) hv
      refine ⟨_, rfl, _, _, _, _, _, rfl, ClsV.ty "bool", hbl, kbl, _, rfl, _, rfl, ?_⟩
      refine iteT ?_
      cases hv
      exact ⟨_, rfl, _, rfl, _, _, rfl, rfl, q⟩
    | bl b =>
      refine iteT ?_
      obtain ⟨Tbl, hbl, kbl⟩ := isi_bl (K := K) hv
      refine ⟨_, rfl, _, _, _, _, _, rfl, ClsV.ty "bool", hbl, kbl, _, rfl, _, rfl, ?_⟩
      exact iteF q
    | oth => exact iteF q
    | tup ts => exact iteF q
theorem ok_is_tuple {f : Addr} {fd : FuncData} {k : Nat} (F : Fun K "is_tuple" "is_tuple" s_is_tuple f fd) (bi : Bi mg) : FnOk P w K mg base CX0 (k + 1) f fd P_is_tuple spTupleT := by
  refine F.ok sc_is_tuple (fun vs H Q E h => ?_) (fun cdv A outer s H vs Q E hr h => ?_)
  · obtain ⟨v, t, m, n, rfl, _⟩ := h
    rfl
  · obtain ⟨v, t, m, n, rfl, hv, q⟩ := h
    refine ⟨_, (pss_one (ps_ret (pe_and (pe_callB call_isi (by rfl) bi.m_isinstance (by decide +kernel) (pa_cons (pv 0) (pa_cons (pe_bltn (v := .ty "tuple") (by rfl) bi.m_tuple (by decide +kernel) rfl) pa_nil))) (pe_one (pe_chain op_le op_le (pv 1) (pe_callB call_len_seq (by rfl) bi.m_len (by decide +kernel) (pa_cons (pv 0) pa_nil)) (pv 2)))))), ?_⟩
    obtain ⟨Ttup, htup, ktup⟩ := isi_tup (K := K) hv
    refine ⟨_, rfl, _, _, _, _, _, rfl, ClsV.ty "tuple", htup, ktup, _, rfl, ?_⟩
    cases t with
    | int m => exact iteF q
    | bl b => exact iteF q
    | oth => exact iteF q
    | tup ts =>
      refine iteT ?_
      obtain ⟨a, vs, rfl, ea, hl, hh⟩ := hv.tupE
      have q : Q (.bl (decide (m ≤ (ts.length : Int)) && decide ((ts.length : Int) ≤ n))) H := q
      rw [← hl] at q
      refine ⟨_, rfl, _, rfl, a, vs, rfl, .inr (SqT.of ea), _, _, rfl, rfl, _, rfl, ite2 (fun e => ?_) (fun e => ?_)⟩
      · rw [e, Bool.true_and] at q
        exact ⟨_, rfl, _, _, rfl, rfl, q⟩
      · rw [Bool.eq_false_iff.mpr e, Bool.false_and] at q
        exact q
theorem ok_is_step {fT fW f : Addr} {fdT fdW fd : FuncData} (F : Fun K "is_step" "is_step" s_is_step f fd) (bi : Bi mg) (C_is_tuple : Cal P w K mg base "is_tuple" P_is_tuple 1 spTupleT fT fdT) (C_is_whole : Cal P w K mg base "is_whole" P_is_whole 1 spWholeT fW fdW) : FnOk P w K mg base CX0 2 f fd P_is_step spStepT := by
  refine F.ok sc_is_step (fun vs H Q E h => ?_) (fun cdv A outer s H vs Q E hr h => ?_)
  · obtain ⟨v, t, rfl, _⟩ := h
    rfl
  · obtain ⟨v, t, rfl, hv, q⟩ := h
    refine ⟨_, (pss_one (ps_ret (pe_and (pe_call (C_is_tuple.G.mono (by decide)) hr (by rfl) C_is_tuple.g C_is_tuple.kp C_is_tuple.b .nil pass0 (pa_cons (pv 0) (pa_cons pe_int (pa_cons pe_int pa_nil)))) (pe_and (pe_call (C_is_whole.G.mono (by decide)) hr (by rfl) C_is_whole.g C_is_whole.kp C_is_whole.b .nil pass0 (pa_cons (pe_ix ix_tup (pv 0) pe_int (fun _ _ => rfl)) (pa_cons pe_int pa_nil))) (pe_one (pe_call (C_is_whole.G.mono (by decide)) hr (by rfl) C_is_whole.g C_is_whole.kp C_is_whole.b .nil pass0 (pa_cons (pe_ix ix_tup (pv 0) pe_int (fun _ _ => rfl)) (pa_cons pe_int pa_nil)))))))), ?_⟩
    refine ⟨_, rfl, v, t, 2, 2, rfl, hv, _, rfl, ?_⟩
    cases t with
    | int m => exact iteF q
    | bl b => exact iteF q
    | oth => exact iteF q
    | tup ts =>
      match ts, hv, q with
      | [], hv, q => exact iteF q
      | [_], hv, q => exact iteF q
      | [x, y], hv, q =>
        refine iteT ?_
        obtain ⟨a, vs, rfl, ea, hl, hh⟩ := hv.tupE
        match vs, ea, hl, hh with
        | [u, v], ea, _, hh =>
          have q : Q (.bl (whT x 1 && whT y 1)) H := q
          refine ⟨_, rfl, a, _, 0, _, rfl, rfl, SqT.of ea, atI_nat (j := 0) rfl, u, x, 1, rfl, hh 0 u x rfl rfl, _, rfl, ite2 (fun e => ?_) (fun e => ?_)⟩
          · rw [e, Bool.true_and] at q
            exact ⟨_, rfl, a, _, 1, _, rfl, rfl, SqT.of ea, atI_nat (j := 1) rfl, v, y, 1, rfl, hh 1 v y rfl rfl, q⟩
          · rw [Bool.eq_false_iff.mpr e, Bool.false_and] at q
            exact q
      | x :: y :: z :: r, hv, q =>
        have hln : lenIn (.tup (x :: y :: z :: r)) 2 2 = false := by
          show (decide ((2 : Int) ≤ ((r.length + 1 + 1 + 1 : Nat) : Int)) && decide (((r.length + 1 + 1 + 1 : Nat) : Int) ≤ 2)) = false
          rw [decide_eq_false (show ¬ ((r.length + 1 + 1 + 1 : Nat) : Int) ≤ 2 by omega), Bool.and_false]
        rw [hln]
        exact iteF q
theorem ok_are_steps {fT fS f : Addr} {fdT fdS fd : FuncData} {tk_MOST_STEPS : Tok} (F : Fun K "are_steps" "are_steps" s_are_steps f fd) (bi : Bi mg) (g_MOST_STEPS : mg "MOST_STEPS" = some (.int 8 tk_MOST_STEPS)) (C_is_tuple : Cal P w K mg base "is_tuple" P_is_tuple 1 spTupleT fT fdT) (C_is_step : Cal P w K mg base "is_step" P_is_step 2 spStepT fS fdS) : FnOk P w K mg base CX0 3 f fd P_are_steps spStepsT := by
  refine F.ok sc_are_steps (fun vs H Q E h => ?_) (fun cdv A outer s H vs Q E hr h => ?_)
  · obtain ⟨v, t, rfl, _⟩ := h
    rfl
  · obtain ⟨v, t, rfl, hv, q⟩ := h
    refine ⟨_, (pss_cons (ps_if (pw_or (pt_not (pt_val (pe_call (C_is_tuple.G.mono (by decide)) hr (by rfl) C_is_tuple.g C_is_tuple.kp C_is_tuple.b .nil pass0 (pa_cons (pv 0) (pa_cons pe_int (pa_cons (pe_glob (v := .int 8) (by rfl) g_MOST_STEPS ⟨_, rfl⟩) pa_nil)))))) (pw_or1 (pt_not (pt_val (pe_callB (cr_all rfl) (by rfl) bi.m_all (by decide +kernel) (pa_cons (pe_lc (own := [("step", 2)]) (g := (gName 2)) (tt := tYes) rfl sc_are_steps.nd (pi_tup (pv 0)) (blkOk_by (N := N_are_steps) (sc := defScope s_are_steps) (by decide +kernel)) (fun _ _ _ _ _ => (pg_name (i := 2) sc_are_steps.nd rfl (.inl rfl) (.inr rfl))) (fun _ _ _ _ _ => pts_nil) (fun _ _ _ _ _ => (pe_call (C_is_step.G.mono (by decide)) hr (by rfl) C_is_step.g C_is_step.kp C_is_step.b .nil pass0 (pa_cons (pv 2) pa_nil)))) pa_nil)))))).pt
      (pss_one (ps_ret pe_bl))
      pss_nil)
    (pss_one (ps_ret (pe_callB (cr_all rfl) (by rfl) bi.m_all (by decide +kernel) (pa_cons (pe_lc (own := [("ahead", 1), ("step", 2)]) (g := (gTup K 2 (gCons (gName 1) (gCons (gName 2) gNil)))) (tt := tYes) (te := (tOp (rI0 fun i j => V.bl (decide (j < i))) (tOp (rIxT K) (tVar 1) (tC (.int 0))) (tOp (rIxT K) (tVar 2) (tC (.int 0))))) rfl sc_are_steps.nd (RZ.pi_zipA (by rfl) bi.m_zip (pa_cons (pv 0) (pa_cons (pe_slice sl_tupA (pv 0) (po_some pe_int) po_none) pa_nil))) (blkOk_by (N := N_are_steps) (sc := defScope s_are_steps) (by decide +kernel)) (fun _ _ _ _ _ => (pg_tup rfl (pgs_cons (pg_name (i := 1) sc_are_steps.nd rfl (.inl rfl) (.inr rfl)) (pgs_cons (pg_name (i := 2) sc_are_steps.nd rfl (.inl rfl) (.inr rfl)) pgs_nil)))) (fun _ _ _ _ _ => pts_nil) (fun _ _ _ _ _ => (pe_cmpR op_gt (pe_ix ix_tup (pv 1) pe_int (fun _ _ => rfl)) (pe_ix ix_tup (pv 2) pe_int (fun _ _ => rfl)) (nomark _)))) pa_nil))))), ?_⟩
    refine ⟨_, rfl, v, t, 1, 8, rfl, hv, _, rfl, ?_⟩
    cases t with
    | int m => exact iteNF (q _ (Same.refl _))
    | bl b => exact iteNF (q _ (Same.refl _))
    | oth => exact iteNF (q _ (Same.refl _))
    | tup ts =>
      have hq : lenIn (.tup ts) 1 8 = (decide (1 ≤ ts.length) && decide (ts.length ≤ 8)) := by
        show (decide ((1 : Int) ≤ (ts.length : Int)) && decide ((ts.length : Int) ≤ 8)) = (decide (1 ≤ ts.length) && decide (ts.length ≤ 8))
        rw [decide_eq_decide.mpr (show (1 : Int) ≤ (ts.length : Int) ↔ 1 ≤ ts.length by omega), decide_eq_decide.mpr (show (ts.length : Int) ≤ 8 ↔ ts.length ≤ 8 by omega)]
      rw [hq]
      have q : ∀ H', Same H H' → Q (.bl (decide (1 ≤ ts.length) && decide (ts.length ≤ 8) && ts.all isStep && fallsT (ts.map firstT))) H' := q
      cases hc : (decide (1 ≤ ts.length) && decide (ts.length ≤ 8)) with
      | false =>
        rw [hc] at q
        exact iteNF (q _ (Same.refl _))
      | true =>
        rw [hc, Bool.true_and] at q
        refine iteNT ?_
        obtain ⟨c1, c8⟩ := Bool.and_eq_true_iff.mp hc
        have c1 := of_decide_eq_true c1
        have c8 := of_decide_eq_true c8
        obtain ⟨a, vs, rfl, ea, hl, hh⟩ := hv.tupE
        refine ⟨_, rfl, a, rfl, ⟨_, SqT.of ea⟩, fun D nD => ?_⟩
        refine lc_tup (xs := vs) (fun i H' => Same H H' ∧ H' D = some (.lst (((ts.take i).map isStep).map V.bl))) ⟨same_new (Same.refl _) nD, upd_same⟩ (fun i H' hi hm => SqT.of (hm.1 _ _ ea)) (fun i x H' hx hm => ?_) (fun H' hm => ?_)
        · obtain ⟨sm, eD⟩ := hm
          have hi : i < vs.length := (List.getElem?_eq_some_iff.mp hx).1
          have et : ts[i]? = some (ts[i]'(by omega)) := List.getElem?_eq_getElem (by omega)
          generalize ts[i]'(by omega) = t at et
          refine ⟨rfl, yesIte ?_⟩
          refine ⟨_, rfl, x, t, rfl, (hh i x t hx et).mono (Kinds.same sm), _, eD, ?_, same_mine sm nD, ?_⟩
          · rw [List.length_map, List.length_map, List.length_take]
            exact small1000 (by omega)
          · rw [upd_same, List.take_add_one, et]
            show _ = some (HO.lst (((ts.take i ++ [t]).map isStep).map V.bl))
            rw [List.map_append, List.map_append]
            rfl
        obtain ⟨s1, eD⟩ := hm
        rw [hl, List.take_length] at eD
        refine ⟨D, _, rfl, SqL.of eD, _, rfl, ?_⟩
        have ea1 := s1 _ _ ea
        have eall : (ts.map isStep).all id = ts.all isStep := by
          rw [List.all_map]
          rfl
        rw [eall]
        cases hb : ts.all isStep with
        | false =>
          rw [hb] at q
          exact iteNF (q _ s1)
        | true =>
          rw [hb, Bool.true_and] at q
          refine iteNT ?_
          have ab := List.all_eq_true.mp hb
          have get : ∀ (i : Nat) (x : V), vs[i]? = some x → ∃ (b : Addr) (m l : Int), x = .ref b ∧ H b = some (.tup [.int m, .int l]) ∧ (ts.map firstT)[i]? = some m := fun i x hx => by
            have hi : i < vs.length := (List.getElem?_eq_some_iff.mp hx).1
            have et : ts[i]? = some (ts[i]'(by omega)) := List.getElem?_eq_getElem (by omega)
            generalize ts[i]'(by omega) = t at et
            obtain ⟨m, l, rfl, _⟩ := isStep_of (ab _ (List.mem_of_getElem? et))
            obtain ⟨b, ws, rfl, eb, hwl, hw⟩ := (hh i x _ hx et).tupE
            match ws, eb, hwl, hw with
            | [u, v], eb, _, hw =>
              have e1 := (hw 0 u _ rfl rfl).intE
              have e2 := (hw 1 v _ rfl rfl).intE
              subst e1
              subst e2
              exact ⟨b, m, l, rfl, eb, by rw [List.getElem?_map, et]; rfl⟩
          refine ⟨_, rfl, _, rfl, _, rfl, a, _, rfl, SqT.of ea1, ?_, ?_⟩
          · intro hz
            exfalso
            have := hz.1
            have h1 : HT.sIx vs.length 0 (some 1) = min 1 vs.length := HT.sIx_nat _ _ 1
            rw [h1] at this
            omega
          · intro _ Z nZ
            rw [cut_tail]
            have sZ : Same H' (upd H' Z (.tup (vs.drop 1))) := same_new (Same.refl _) nZ
            have eZ : upd H' Z (.tup (vs.drop 1)) Z = some (.tup (vs.drop 1)) := upd_same
            generalize upd H' Z (.tup (vs.drop 1)) = H2 at sZ eZ
            refine ⟨a, Z, _, _, rfl, .inr ⟨SqT.of (sZ _ _ ea1), SqT.of eZ, fun D2 nD2 => ?_⟩⟩
            rw [falls_pairs] at q
            have hzl : (List.zip (ts.map firstT) ((ts.map firstT).drop 1)).length = (vs.drop 1).length := by
              rw [List.length_zip, List.length_drop, List.length_drop, List.length_map]
              omega
            refine lcZipS (xs := vs) (ys := vs.drop 1) (by rw [List.length_drop]; omega) (fun i H3 => Same H2 H3 ∧ H3 D2 = some (.lst ((((List.zip (ts.map firstT) ((ts.map firstT).drop 1)).take i).map fallB).map V.bl))) ⟨same_new (Same.refl _) nD2, upd_same⟩ (fun i H3 hm => ⟨SqT.of (hm.1 _ _ (sZ _ _ ea1)), SqT.of (hm.1 _ _ eZ)⟩) (fun i x y T H3 hx hy nT hm => ?_) (fun H3 hm => ?_)
            · obtain ⟨sm2, eD2⟩ := hm
              rw [List.getElem?_drop] at hy
              obtain ⟨b1, m1, l1, rfl, eb1, em1⟩ := get i x hx
              obtain ⟨b2, m2, l2, rfl, eb2, em2⟩ := get (1 + i) y hy
              have sT : Same H2 (upd H3 T (.tup [.ref b1, .ref b2])) := same_new sm2 nT
              have eDT := (upd_ne (o := .tup [.ref b1, .ref b2]) (ne_of_none eD2 nT)).trans eD2
              refine ⟨T, _, rfl, SqT.of upd_same, rfl, _, _, rfl, _, _, rfl, rfl, rfl, yesIte ?_⟩
              generalize upd H3 T (.tup [.ref b1, .ref b2]) = H4 at sT eDT
              have s3 := (s1.trans sZ).trans sT
              have ez : (List.zip (ts.map firstT) ((ts.map firstT).drop 1))[i]? = some (m1, m2) := by
                rw [List.getElem?_zip_eq_some]
                exact ⟨em1, by rw [List.getElem?_drop]; exact em2⟩
              have hi : i < vs.length := (List.getElem?_eq_some_iff.mp hx).1
              refine ⟨_, rfl, b1, _, 0, _, rfl, rfl, SqT.of (s3 _ _ eb1), atI_nat (j := 0) rfl, _, rfl, b2, _, 0, _, rfl, rfl, SqT.of (s3 _ _ eb2), atI_nat (j := 0) rfl, _, _, rfl, rfl, ?_⟩
              refine ⟨_, eDT, ?_, same_mine sT nD2, ?_⟩
              · rw [List.length_map, List.length_map, List.length_take]
                exact small1000 (by omega)
              · rw [upd_same, List.take_add_one, ez]
                show _ = some (HO.lst ((((List.zip (ts.map firstT) ((ts.map firstT).drop 1)).take i ++ [(m1, m2)]).map fallB).map V.bl))
                rw [List.map_append, List.map_append]
                rfl
            · obtain ⟨sm2, eD2⟩ := hm
              rw [← hzl, List.take_length] at eD2
              refine ⟨D2, _, rfl, SqL.of eD2, ?_⟩
              exact q _ ((s1.trans sZ).trans sm2)
theorem ok_is_wisp {fT fW fS f : Addr} {fdT fdW fdS fd : FuncData} (F : Fun K "is_wisp" "is_wisp" s_is_wisp f fd) (bi : Bi mg) (C_is_tuple : Cal P w K mg base "is_tuple" P_is_tuple 1 spTupleT fT fdT) (C_is_whole : Cal P w K mg base "is_whole" P_is_whole 1 spWholeT fW fdW) (C_are_steps : Cal P w K mg base "are_steps" P_are_steps 3 spStepsT fS fdS) : FnOk P w K mg base CX0 4 f fd P_is_wisp spWispT := by
  refine F.ok sc_is_wisp (fun vs H Q E h => ?_) (fun cdv A outer s H vs Q E hr h => ?_)
  · obtain ⟨v, t, rfl, _⟩ := h
    rfl
  · obtain ⟨v, t, rfl, hv, q⟩ := h
    refine ⟨_, (pss_cons (ps_if (pt_not (pt_val (pe_call (C_is_tuple.G.mono (by decide)) hr (by rfl) C_is_tuple.g C_is_tuple.kp C_is_tuple.b .nil pass0 (pa_cons (pv 0) (pa_cons pe_int (pa_cons pe_int pa_nil))))))
      (pss_one (ps_ret pe_bl))
      pss_nil)
    (pss_cons (ps_asg (pv 0) (pg_tup rfl (pgs_cons (pg_name (i := 1) sc_is_wisp.nd rfl (.inl rfl)) (pgs_cons (pg_name (i := 2) sc_is_wisp.nd rfl (.inl rfl)) pgs_nil))))
    (pss_one (ps_ret (pe_and (pe_call (C_is_whole.G.mono (by decide)) hr (by rfl) C_is_whole.g C_is_whole.kp C_is_whole.b .nil pass0 (pa_cons (pv 1) (pa_cons pe_int pa_nil))) (pe_and (pe_cmpR op_le (pv 1) pe_int (nomark _)) (pe_one (pe_call (C_are_steps.G.mono (by decide)) hr (by rfl) C_are_steps.g C_are_steps.kp C_are_steps.b .nil pass0 (pa_cons (pv 2) pa_nil))))))))), ?_⟩
    refine ⟨_, rfl, v, t, 2, 2, rfl, hv, _, rfl, ?_⟩
    cases t with
    | int m => exact iteNF (q _ (Same.refl _))
    | bl b => exact iteNF (q _ (Same.refl _))
    | oth => exact iteNF (q _ (Same.refl _))
    | tup ts =>
      match ts, hv, q with
      | [], hv, q => exact iteNF (q _ (Same.refl _))
      | [_], hv, q => exact iteNF (q _ (Same.refl _))
      | [x, y], hv, q =>
        refine iteNT ?_
        obtain ⟨a, vs, rfl, ea, hl, hh⟩ := hv.tupE
        match vs, ea, hl, hh with
        | [u, v], ea, _, hh =>
          have q : ∀ H', Same H H' → Q (.bl (whT x 0 && decide (numT x ≤ 1) && areSteps y)) H' := q
          refine ⟨_, rfl, a, _, rfl, SqT.of ea, rfl, _, _, rfl, _, _, rfl, rfl, ?_⟩
          refine ⟨_, rfl, u, x, 0, rfl, hh 0 u x rfl rfl, _, rfl, ite2 (fun e => ?_) (fun e => ?_)⟩
          · rw [e, Bool.true_and] at q
            obtain ⟨m, rfl, m0⟩ := wh_of e
            have e1 := (hh 0 u _ rfl rfl).intE
            subst e1
            have q : ∀ H', Same H H' → Q (.bl (decide (m ≤ 1) && areSteps y)) H' := q
            refine ⟨_, rfl, _, _, rfl, rfl, _, rfl, ite2 (fun e => ?_) (fun e => ?_)⟩
            · rw [e, Bool.true_and] at q
              exact ⟨_, rfl, v, y, rfl, hh 1 v y rfl rfl, q⟩
            · rw [Bool.eq_false_iff.mpr e, Bool.false_and] at q
              exact q _ (Same.refl _)
          · rw [Bool.eq_false_iff.mpr e, Bool.false_and] at q
            exact q _ (Same.refl _)
      | x :: y :: z :: r, hv, q =>
        have hln : lenIn (.tup (x :: y :: z :: r)) 2 2 = false := by
          show (decide ((2 : Int) ≤ ((r.length + 1 + 1 + 1 : Nat) : Int)) && decide (((r.length + 1 + 1 + 1 : Nat) : Int) ≤ 2)) = false
          rw [decide_eq_false (show ¬ ((r.length + 1 + 1 + 1 : Nat) : Int) ≤ 2 by omega), Bool.and_false]
        rw [hln]
        exact iteNF (q _ (Same.refl _))
theorem ok_length_of {f : Addr} {fd : FuncData} {k : Nat} (F : Fun K "length_of" "length_of" s_length_of f fd) (bi : Bi mg) : FnOk P w K mg base CX0 (k + 1) f fd P_length_of spLongs := by
  refine F.ok sc_length_of (fun vs H Q E h => ?_) (fun cdv A outer s H vs Q E hr h => ?_)
  · obtain ⟨v, t, rfl, _⟩ := h
    rfl
  · obtain ⟨v, t, rfl, hv, hw, q⟩ := h
    refine ⟨_, (pss_one (ps_ret (pe_callB (cr_sum rfl) (by rfl) bi.m_sum (by decide +kernel) (pa_cons (pe_lc (own := [("thickness", 1), ("long", 2)]) (g := (gTup K 2 (gCons (gName 1) (gCons (gName 2) gNil)))) (tt := tYes) rfl sc_length_of.nd (pi_tup (pe_ix ix_tup (pv 0) pe_int (fun _ _ => rfl))) (blkOk_by (N := N_length_of) (sc := defScope s_length_of) (by decide +kernel)) (fun _ _ _ _ _ => (pg_tup rfl (pgs_cons (pg_name (i := 1) sc_length_of.nd rfl (.inl rfl) (.inr rfl)) (pgs_cons (pg_name (i := 2) sc_length_of.nd rfl (.inl rfl) (.inr rfl)) pgs_nil)))) (fun _ _ _ _ _ => pts_nil) (fun _ _ _ _ _ => (pv 2))) pa_nil)))), ?_⟩
    obtain ⟨m, ss, rfl, h8, hall⟩ := wisp_parts hw
    obtain ⟨a, vs, rfl, ea, hl, hh⟩ := hv.tupE
    match vs, ea, hl, hh with
    | [u, y], ea, _, hh =>
      obtain ⟨b, ws, rfl, eb, hwl, hw2⟩ := (hh 1 y _ rfl rfl).tupE
      refine ⟨_, rfl, a, _, 1, _, rfl, rfl, SqT.of ea, atI_nat (j := 1) rfl, b, rfl, ⟨_, SqT.of eb⟩, fun D nD => ?_⟩
      refine lc_tup (xs := ws) (fun i H' => Same H H' ∧ H' D = some (.lst (((ss.take i).map secondT).map V.int))) ⟨same_new (Same.refl _) nD, upd_same⟩ (fun i H' hi hm => SqT.of (hm.1 _ _ eb)) (fun i x H' hx hm => ?_) (fun H' hm => ?_)
      · obtain ⟨sm, eD⟩ := hm
        have hi : i < ws.length := (List.getElem?_eq_some_iff.mp hx).1
        have et : ss[i]? = some (ss[i]'(by omega)) := List.getElem?_eq_getElem (by omega)
        generalize ss[i]'(by omega) = t at et
        obtain ⟨mm, ll, rfl, _⟩ := isStep_of (List.all_eq_true.mp hall _ (List.mem_of_getElem? et))
        obtain ⟨c, ys, rfl, ec, hyl, hy⟩ := (hw2 i x _ hx et).tupE
        match ys, ec, hyl, hy with
        | [y1, y2], ec, _, hy =>
          have e1 := (hy 0 y1 _ rfl rfl).intE
          have e2 := (hy 1 y2 _ rfl rfl).intE
          subst e1
          subst e2
          refine ⟨c, _, rfl, SqT.of (sm _ _ ec), rfl, _, _, rfl, _, _, rfl, rfl, rfl, yesIte ?_⟩
          refine ⟨_, rfl, _, eD, ?_, same_mine sm nD, ?_⟩
          · rw [List.length_map, List.length_map, List.length_take]
            exact small1000 (by omega)
          · rw [upd_same, List.take_add_one, et]
            show _ = some (HO.lst (((ss.take i ++ [Th.tup [.int mm, .int ll]]).map secondT).map V.int))
            rw [List.map_append, List.map_append]
            rfl
      · obtain ⟨sm, eD⟩ := hm
        rw [hwl, List.take_length] at eD
        exact ⟨D, _, rfl, SqL.of eD, q _ sm⟩
theorem ok_is_many {fW f : Addr} {fdW fd : FuncData} {tk_MOST_OF_A_KIND : Tok} (F : Fun K "is_many" "is_many" s_is_many f fd) (bi : Bi mg) (g_MOST_OF_A_KIND : mg "MOST_OF_A_KIND" = some (.int 9 tk_MOST_OF_A_KIND)) (C_is_whole : Cal P w K mg base "is_whole" P_is_whole 1 spWholeT fW fdW) : FnOk P w K mg base CX0 2 f fd P_is_many (spIsD isManyD) := by
  refine F.ok sc_is_many (fun vs H Q E h => ?_) (fun cdv A outer s H vs Q E hr h => ?_)
  · obtain ⟨B, p, l, Y, v, d, rfl, _⟩ := h
    rfl
  · obtain ⟨B, p, l, Y, v, d, rfl, dd, hB, q⟩ := h
    refine ⟨_, (pss_one (ps_ret (pe_or (pe_cmpR op_isN (pv 0) pe_non (nomark _)) (pe_one (pe_and (pe_call (C_is_whole.G.mono (by decide)) hr (by rfl) C_is_whole.g C_is_whole.kp C_is_whole.b .nil pass0 (pa_cons (pv 0) (pa_cons pe_int pa_nil))) (pe_one (pe_cmpR op_le (pv 0) (pe_glob (v := .int 9) (by rfl) g_MOST_OF_A_KIND ⟨_, rfl⟩) (nomark _)))))))), ?_⟩
    have q : Q (.bl (isNoneD d || (whT (thD d) 0 && decide (numT (thD d) ≤ 9)))) H := q _ (Same.refl _)
    refine ⟨_, rfl, rfl, _, rfl, ?_⟩
    rw [dd.isN]
    refine ite2 (fun e => ?_) (fun e => ?_)
    · rw [e, Bool.true_or] at q
      exact q
    rw [Bool.eq_false_iff.mpr e, Bool.false_or] at q
    refine ⟨_, rfl, v, thD d, 0, rfl, (dd.up hB).th, _, rfl, ite2 (fun e => ?_) (fun e => ?_)⟩
    · rw [e, Bool.true_and] at q
      obtain ⟨m, em, _⟩ := wh_of e
      have e1 := (dd.up hB).th
      rw [em] at e1 q
      have e1 := e1.intE
      subst e1
      exact ⟨_, rfl, _, _, rfl, rfl, q⟩
    · rw [Bool.eq_false_iff.mpr e, Bool.false_and] at q
      exact q
theorem ok_is_kind {fT fS fL fM f : Addr} {fdT fdS fdL fdM fd : FuncData} {tk_MOST_PLACES : Tok} (F : Fun K "is_kind" "is_kind" s_is_kind f fd) (bi : Bi mg) (g_MOST_PLACES : mg "MOST_PLACES" = some (.int 8 tk_MOST_PLACES)) (C_is_tuple : Cal P w K mg base "is_tuple" P_is_tuple 1 spTupleT fT fdT) (C_is_wisp : Cal P w K mg base "is_wisp" P_is_wisp 4 spWispT fS fdS) (C_length_of : Cal P w K mg base "length_of" P_length_of 1 spLongs fL fdL) (C_is_many : Cal P w K mg base "is_many" P_is_many 2 (spIsD isManyD) fM fdM) : FnOk P w K mg base CX0 5 f fd P_is_kind (spIsD isKindD) := by
  refine F.ok sc_is_kind (fun vs H Q E h => ?_) (fun cdv A outer s H vs Q E hr h => ?_)
  · obtain ⟨B, p, l, Y, v, d, rfl, _⟩ := h
    rfl
  · obtain ⟨B, p, l, Y, v, d, rfl, dd, hB, q⟩ := h
    refine ⟨_, (pss_cons (ps_if (pt_not (pt_val (pe_call (C_is_tuple.G.mono (by decide)) hr (by rfl) C_is_tuple.g C_is_tuple.kp C_is_tuple.b .nil pass0 (pa_cons (pv 0) (pa_cons pe_int (pa_cons pe_int pa_nil))))))
      (pss_one (ps_ret pe_bl))
      pss_nil)
    (pss_cons (ps_asg (pv 0) (pg_tup rfl (pgs_cons (pg_name (i := 1) sc_is_kind.nd rfl (.inl rfl)) (pgs_cons (pg_name (i := 2) sc_is_kind.nd rfl (.inl rfl)) pgs_nil))))
    (pss_one (ps_ret (pe_and (pe_call (C_is_wisp.G.mono (by decide)) hr (by rfl) C_is_wisp.g C_is_wisp.kp C_is_wisp.b .nil pass0 (pa_cons (pv 1) pa_nil)) (pe_and (pe_cmpR op_le (pe_call (C_length_of.G.mono (by decide)) hr (by rfl) C_length_of.g C_length_of.kp C_length_of.b .nil pass0 (pa_cons (pv 1) pa_nil)) (pe_glob (v := .int 8) (by rfl) g_MOST_PLACES ⟨_, rfl⟩) (nomark _)) (pe_one (pe_call (C_is_many.G.mono (by decide)) hr (by rfl) C_is_many.g C_is_many.kp C_is_many.b .nil pass0 (pa_cons (pv 2) pa_nil))))))))), ?_⟩
    refine ⟨_, rfl, v, thD d, 2, 2, rfl, (dd.up hB).th, _, rfl, ?_⟩
    by_cases ht : (thD d).isT = true
    rotate_left
    · have ht : (thD d).isT = false := Bool.eq_false_iff.mpr ht
      rw [(dd.no41 ht).1] at q
      rw [lenIn_not ht]
      exact iteNF (q _ (Same.refl _))
    obtain ⟨ds, rfl⟩ := thD_tup ht
    rw [show lenIn (thD (.tuple ds)) 2 2 = _ from lenIn_tup (m := 2) (n := 2)]
    by_cases hc : ds.length = 2
    rotate_left
    · rw [isKindD_len hc] at q
      rw [between_ne hc]
      exact iteNF (q _ (Same.refl _))
    rw [hc]
    refine iteNT ?_
    obtain ⟨a, vs, rfl, ea, hl, hh⟩ := dd.tupE
    rw [hc] at hl
    match ds, vs, hc, hl, hh, ea, q with
    | [dw, dm], [u, x], _, _, hh, ea, q =>
      have q : ∀ H', Same H H' → Q (.bl (isWispT (thD dw) && (decide (longsT (thD dw) ≤ 8) && isManyD dm))) H' := q
      have h0 := hh 0 u dw rfl rfl
      have h1 := hh 1 x dm rfl rfl
      refine ⟨_, rfl, a, _, rfl, SqT.of ea, rfl, _, _, rfl, _, _, rfl, rfl, ?_⟩
      refine ⟨_, rfl, u, thD dw, rfl, (h0.up hB).th, fun H1 s1 => ⟨_, rfl, ite2 (fun e => ?_) (fun e => ?_)⟩⟩
      rotate_left
      · rw [Bool.eq_false_iff.mpr e, Bool.false_and] at q
        exact q _ s1
      rw [e, Bool.true_and] at q
      refine ⟨_, rfl, u, thD dw, rfl, ((h0.up hB).mono (Same.keep s1)).th, e, fun H2 s2 => ⟨_, _, rfl, rfl, _, rfl, ite2 (fun e => ?_) (fun e => ?_)⟩⟩
      rotate_left
      · rw [Bool.eq_false_iff.mpr e, Bool.false_and] at q
        exact q _ (s1.trans s2)
      rw [e, Bool.true_and] at q
      exact ⟨_, rfl, B, p, l, Y, x, dm, rfl, h1.mono (Same.keep (s1.trans s2)), hB, fun H3 s3 => q _ ((s1.trans s2).trans s3)⟩
theorem ok_is_basket {fT fK f : Addr} {fdT fdK fd : FuncData} {tk_MOST_KINDS : Tok} (F : Fun K "is_basket" "is_basket" s_is_basket f fd) (bi : Bi mg) (g_MOST_KINDS : mg "MOST_KINDS" = some (.int 4 tk_MOST_KINDS)) (C_is_tuple : Cal P w K mg base "is_tuple" P_is_tuple 1 spTupleT fT fdT) (C_is_kind : Cal P w K mg base "is_kind" P_is_kind 5 (spIsD isKindD) fK fdK) : FnOk P w K mg base CX0 6 f fd P_is_basket (spIsD isBasketD) := by
  refine F.ok sc_is_basket (fun vs H Q E h => ?_) (fun cdv A outer s H vs Q E hr h => ?_)
  · obtain ⟨B, p, l, Y, v, d, rfl, _⟩ := h
    rfl
  · obtain ⟨B, p, l, Y, v, d, rfl, dd, hB, q⟩ := h
    refine ⟨_, (pss_one (ps_ret (pe_and (pe_call (C_is_tuple.G.mono (by decide)) hr (by rfl) C_is_tuple.g C_is_tuple.kp C_is_tuple.b .nil pass0 (pa_cons (pv 0) (pa_cons pe_int (pa_cons (pe_glob (v := .int 4) (by rfl) g_MOST_KINDS ⟨_, rfl⟩) pa_nil)))) (pe_one (pe_callB (cr_all rfl) (by rfl) bi.m_all (by decide +kernel) (pa_cons (pe_lc (own := [("kind", 1)]) (g := (gName 1)) (tt := tYes) rfl sc_is_basket.nd (pi_tup (pv 0)) (blkOk_by (N := N_is_basket) (sc := defScope s_is_basket) (by decide +kernel)) (fun _ _ _ _ _ => (pg_name (i := 1) sc_is_basket.nd rfl (.inl rfl) (.inr rfl))) (fun _ _ _ _ _ => pts_nil) (fun _ _ _ _ _ => (pe_call (C_is_kind.G.mono (by decide)) hr (by rfl) C_is_kind.g C_is_kind.kp C_is_kind.b .nil pass0 (pa_cons (pv 1) pa_nil)))) pa_nil)))))), ?_⟩
    refine ⟨_, rfl, v, thD d, 1, 4, rfl, (dd.up hB).th, _, rfl, ?_⟩
    by_cases ht : (thD d).isT = true
    rotate_left
    · have ht : (thD d).isT = false := Bool.eq_false_iff.mpr ht
      rw [(dd.no41 ht).2.1] at q
      rw [lenIn_not ht]
      exact iteF (q _ (Same.refl _))
    obtain ⟨ds, rfl⟩ := thD_tup ht
    rw [show lenIn (thD (.tuple ds)) 1 4 = _ from lenIn_tup (m := 1) (n := 4)]
    have q : ∀ H', Same H H' → Q (.bl ((decide (1 ≤ ds.length) && decide (ds.length ≤ 4)) && ds.all isKindD)) H' := q
    cases hc : (decide (1 ≤ ds.length) && decide (ds.length ≤ 4)) with
    | false =>
      rw [hc, Bool.false_and] at q
      exact iteF (q _ (Same.refl _))
    | true =>
      rw [hc, Bool.true_and] at q
      have c : ds.length ≤ 4 := of_decide_eq_true (Bool.and_eq_true_iff.mp hc).2
      refine iteT ?_
      obtain ⟨a, vs, rfl, ea, hl, hh⟩ := dd.tupE
      refine ⟨_, rfl, a, rfl, ⟨_, SqT.of ea⟩, fun D nD => ?_⟩
      refine lc_tup (xs := vs) (fun i H' => Same H H' ∧ H' D = some (.lst (((ds.take i).map isKindD).map V.bl))) ⟨same_new (Same.refl _) nD, upd_same⟩ (fun i H' hi hm => SqT.of (hm.1 _ _ ea)) (fun i x H' hx hm => ?_) (fun H' hm => ?_)
      · obtain ⟨sm, eD⟩ := hm
        have hi : i < vs.length := (List.getElem?_eq_some_iff.mp hx).1
        have et : ds[i]? = some (ds[i]'(by omega)) := List.getElem?_eq_getElem (by omega)
        generalize ds[i]'(by omega) = t at et
        refine ⟨rfl, yesIte ?_⟩
        refine ⟨_, rfl, B, p, l, Y, x, t, rfl, (hh i x t hx et).mono (Same.keep sm), hB, fun H2 s2 => ⟨_, s2 _ _ eD, ?_, same_mine (sm.trans s2) nD, ?_⟩⟩
        · rw [List.length_map, List.length_map, List.length_take]
          exact small1000 (by omega)
        · rw [upd_same, List.take_add_one, et]
          show _ = some (HO.lst (((ds.take i ++ [t]).map isKindD).map V.bl))
          rw [List.map_append, List.map_append]
          rfl
      obtain ⟨s1, eD⟩ := hm
      rw [hl, List.take_length] at eD
      refine ⟨D, _, rfl, SqL.of eD, ?_⟩
      have eall : (ds.map isKindD).all id = ds.all isKindD := by
        rw [List.all_map]
        rfl
      rw [eall]
      exact q _ s1
theorem ok_is_frame {fT fW f : Addr} {fdT fdW fd : FuncData} {tk_MOST_IN_HAND : Tok} (F : Fun K "is_frame" "is_frame" s_is_frame f fd) (bi : Bi mg) (g_MOST_IN_HAND : mg "MOST_IN_HAND" = some (.int 3 tk_MOST_IN_HAND)) (C_is_tuple : Cal P w K mg base "is_tuple" P_is_tuple 1 spTupleT fT fdT) (C_is_whole : Cal P w K mg base "is_whole" P_is_whole 1 spWholeT fW fdW) : FnOk P w K mg base CX0 2 f fd P_is_frame (spIsD isFrameD) := by
  refine F.ok sc_is_frame (fun vs H Q E h => ?_) (fun cdv A outer s H vs Q E hr h => ?_)
  · obtain ⟨B, p, l, Y, v, d, rfl, _⟩ := h
    rfl
  · obtain ⟨B, p, l, Y, v, d, rfl, dd, hB, q⟩ := h
    refine ⟨_, (pss_cons (ps_if (pt_not (pt_val (pe_call (C_is_tuple.G.mono (by decide)) hr (by rfl) C_is_tuple.g C_is_tuple.kp C_is_tuple.b .nil pass0 (pa_cons (pv 0) (pa_cons pe_int (pa_cons pe_int pa_nil))))))
      (pss_one (ps_ret pe_bl))
      pss_nil)
    (pss_cons (ps_asg (pv 0) (pg_tup rfl (pgs_cons (pg_name (i := 1) sc_is_frame.nd rfl (.inl rfl)) (pgs_cons (pg_name (i := 2) sc_is_frame.nd rfl (.inl rfl)) (pgs_cons (pg_name (i := 3) sc_is_frame.nd rfl (.inl rfl)) pgs_nil)))))
    (pss_one (ps_ret (pe_and (pe_call (C_is_whole.G.mono (by decide)) hr (by rfl) C_is_whole.g C_is_whole.kp C_is_whole.b .nil pass0 (pa_cons (pv 1) (pa_cons pe_int pa_nil))) (pe_and (pe_call (C_is_whole.G.mono (by decide)) hr (by rfl) C_is_whole.g C_is_whole.kp C_is_whole.b .nil pass0 (pa_cons (pv 2) (pa_cons (pv 1) pa_nil))) (pe_and (pe_call (C_is_whole.G.mono (by decide)) hr (by rfl) C_is_whole.g C_is_whole.kp C_is_whole.b .nil pass0 (pa_cons (pv 3) (pa_cons pe_int pa_nil))) (pe_one (pe_cmpR op_le (pv 3) (pe_glob (v := .int 3) (by rfl) g_MOST_IN_HAND ⟨_, rfl⟩) (nomark _)))))))))), ?_⟩
    have q := q _ (Same.refl _)
    refine ⟨_, rfl, v, thD d, 3, 3, rfl, (dd.up hB).th, _, rfl, ?_⟩
    by_cases ht : (thD d).isT = true
    rotate_left
    · have ht : (thD d).isT = false := Bool.eq_false_iff.mpr ht
      rw [(dd.no41 ht).2.2] at q
      rw [lenIn_not ht]
      exact iteNF q
    obtain ⟨ds, rfl⟩ := thD_tup ht
    rw [show lenIn (thD (.tuple ds)) 3 3 = _ from lenIn_tup (m := 3) (n := 3)]
    by_cases hc : ds.length = 3
    rotate_left
    · rw [isFrameD_len hc] at q
      rw [between_ne hc]
      exact iteNF q
    rw [hc]
    refine iteNT ?_
    obtain ⟨a, vs, rfl, ea, hl, hh⟩ := dd.tupE
    rw [hc] at hl
    match ds, vs, hc, hl, hh, ea, q with
    | [da, db, dc], [u, x, y], _, _, hh, ea, q =>
      have q : Q (.bl (whT (thD da) 1 && (whT (thD db) (numT (thD da)) && (whT (thD dc) 1 && decide (numT (thD dc) ≤ 3))))) H := q
      have h0 := ((hh 0 u da rfl rfl).up hB).th
      have h1 := ((hh 1 x db rfl rfl).up hB).th
      have h2 := ((hh 2 y dc rfl rfl).up hB).th
      refine ⟨_, rfl, a, _, rfl, SqT.of ea, rfl, _, _, rfl, _, _, rfl, _, _, rfl, rfl, ?_⟩
      refine ⟨_, rfl, u, thD da, 1, rfl, h0, _, rfl, ite2 (fun e => ?_) (fun e => ?_)⟩
      rotate_left
      · rw [Bool.eq_false_iff.mpr e, Bool.false_and] at q
        exact q
      rw [e, Bool.true_and] at q
      obtain ⟨m, em, _⟩ := wh_of e
      rw [em] at h0 q
      have e1 := h0.intE
      subst e1
      have q : Q (.bl (whT (thD db) m && (whT (thD dc) 1 && decide (numT (thD dc) ≤ 3)))) H := q
      refine ⟨_, rfl, _, rfl, x, thD db, m, rfl, h1, _, rfl, ite2 (fun e => ?_) (fun e => ?_)⟩
      rotate_left
      · rw [Bool.eq_false_iff.mpr e, Bool.false_and] at q
        exact q
      rw [e, Bool.true_and] at q
      refine ⟨_, rfl, y, thD dc, 1, rfl, h2, _, rfl, ite2 (fun e => ?_) (fun e => ?_)⟩
      rotate_left
      · rw [Bool.eq_false_iff.mpr e, Bool.false_and] at q
        exact q
      rw [e, Bool.true_and] at q
      obtain ⟨k, ek, _⟩ := wh_of e
      rw [ek] at h2 q
      have e1 := h2.intE
      subst e1
      exact ⟨_, rfl, _, _, rfl, rfl, q⟩
theorem ok__law_pot {f : Addr} {fd : FuncData} {k : Nat} (F : Fun K "_law_pot" "_law_pot" s__law_pot f fd) (bi : Bi mg) (nd : PySem.W.nsIn K cStatics "sys.int_max_str_digits" = some none) : FnOk P w K mg base CX0 (k + 1) f fd P__law_pot (spPotB K) := by
  refine F.ok sc__law_pot (fun vs H Q E h => ?_) (fun cdv A outer s H vs Q E hr h => ?_)
  · obtain ⟨a, ns, i, rfl, _⟩ := h
    rfl
  · obtain ⟨a, ns, i, rfl, hS, hn, i0, i1, q⟩ := h
    refine ⟨_, (pss_cons (ps_set (i := 2) sc__law_pot.nd rfl (.inl rfl) (pe_op op_add (pe_op op_mul pe_int (pv 1)) (pe_callB call_len_seq (by rfl) bi.m_len (by decide +kernel) (pa_cons (pv 0) pa_nil))))
    (C8.pss_cut (ps_if (pt_cmpR op_lt (pv 1) (pe_callB call_len_seq (by rfl) bi.m_len (by decide +kernel) (pa_cons (pv 0) pa_nil)) (nomark _))
      (pss_one (ps_set (i := 2) sc__law_pot.nd rfl (.inl rfl) (pe_ix ix_list (pv 0) (pv 1) (fun _ _ => rfl))))
      pss_nil)
    (pss_cons (ps_set (i := 3) sc__law_pot.nd rfl (.inl rfl) (pe_op op_mulW (pe_op op_mod (pe_callB call_abs (by rfl) bi.m_abs (by decide +kernel) (pa_cons (pv 2) pa_nil)) (pe_callTy (call_bigT nd) (by rfl) bi.m_int (by decide +kernel) (pa_cons (pe_op op_add_str pe_str (pe_op op_rep_str pe_str pe_int)) pa_nil))) (pe_callTy call_int1 (by rfl) bi.m_int (by decide +kernel) (pa_cons (pe_cmpR op_ge (pe_callB call_abs (by rfl) bi.m_abs (by decide +kernel) (pa_cons (pv 2) pa_nil)) (pe_op op_pow pe_int pe_int) (nomark _)) pa_nil))))
    (pss_one (ps_ret (pe_lst (pa_cons (pv 3) (pa_cons (pe_op op_mod (pe_op op_mul (pe_op op_add (pe_op op_add (pe_op op_mod (pv 2) pe_int) (pe_op op_mul (pe_op op_mul pe_int (pv 1)) (pv 1))) pe_int) pe_int) pe_int) pa_nil)))))))), ?_⟩
    refine ⟨_, rfl, _, _, rfl, rfl, .inl ⟨by decide, by decide⟩, _, rfl, a, _, rfl, .inl hS, _, _, rfl, rfl, ?_⟩
    refine ⟨fun σ' H' => ∃ c : Int, σ' = [some (.ref a), some (.int i), some (.int c), none] ∧ H' = H, ?_, fun σ' H' hm => ?_⟩
    · refine ⟨_, rfl, _, rfl, a, _, rfl, .inl hS, _, _, rfl, rfl, _, rfl, ite2 (fun e => ?_) (fun e => ⟨_, rfl, rfl⟩)⟩
      have e' : i < ((ns.map V.int).length : Int) := of_decide_eq_true e
      rw [List.length_map] at e'
      obtain ⟨j, rfl⟩ : ∃ j : Nat, i = j := ⟨i.toNat, by omega⟩
      have hjl : j < ns.length := by omega
      refine ⟨_, rfl, _, rfl, a, _, _, .int ns[j], rfl, rfl, hS, atI_nat (j := j) ?_, _, rfl, rfl⟩
      rw [List.getElem?_map, List.getElem?_eq_getElem hjl]
      rfl
    obtain ⟨c, rfl, rfl⟩ := hm
    refine ⟨_, rfl, c, rfl, _, _, rfl, rfl, by decide, by decide, by decide, _, _, rfl, rfl, by decide +kernel, rfl, ?_⟩
    have B0 : (0 : Int) < 10 ^ 900 := by decide +kernel
    have BL : ((10 : Int) ^ 900).natAbs < 2 ^ 3000 := by decide +kernel
    refine ⟨_, _, rfl, rfl, B0, _, rfl, c, rfl, _, _, rfl, rfl, ⟨by decide, by decide, by decide⟩, _, _, rfl, rfl, .inr ⟨_, rfl, ?_⟩⟩
    generalize hab : (if c < 0 then -c else c) = ac
    have c0 := Int.emod_nonneg ac (Int.ne_of_gt B0)
    have c1 := Int.emod_lt_of_pos ac B0
    generalize hd : (if decide (10 ^ Int.toNat 18 ≤ ac) = true then (1 : Int) else 0) = d
    have d0 : d = 0 ∨ d = 1 := by
      rw [← hd]
      split
      · exact .inr rfl
      · exact .inl rfl
    have hml : (ac % 10 ^ 900).natAbs < 2 ^ 3000 := Nat.lt_trans (Int.natAbs_lt_natAbs_of_nonneg_of_lt c0 c1) BL
    refine ⟨_, _, rfl, rfl, wide_mul (a := 3000) (b := 1) hml (by rcases d0 with rfl | rfl <;> decide) (by decide) (by decide) (by decide), ?_⟩
    have hg : 0 ≤ ac % 10 ^ 900 * d ∧ ac % 10 ^ 900 * d < 10 ^ 900 := by
      rcases d0 with rfl | rfl
      · rw [Int.mul_zero]
        exact ⟨Int.le_refl _, B0⟩
      · rw [Int.mul_one]
        exact ⟨c0, c1⟩
    clear c0 c1 hml
    refine ⟨_, rfl, _, rfl, _, _, rfl, rfl, (by show (0 : Int) < 2305843009213693951; decide), _, rfl, _, _, rfl, rfl, .inl ⟨by decide, by decide⟩, _, rfl, _, _, rfl, rfl, .inr ⟨by omega, by omega⟩, _, _, rfl, rfl, _, _, rfl, rfl, _, _, rfl, rfl, .inr ⟨by decide, by decide⟩, _, _, rfl, rfl, (by show (0 : Int) < 2305843009213693951; decide), (by show 2 ≤ sizeLine; decide), fun p np => ?_⟩
    exact q _ p (same_new (Same.refl _) np) np ⟨_, _, upd_same, hg.1, hg.2, Int.emod_nonneg _ (by decide), Int.lt_trans (Int.emod_lt_of_pos _ (by decide)) (by decide)⟩
theorem ok__law_take {f : Addr} {fd : FuncData} {k : Nat} (F : Fun K "_law_take" "_law_take" s__law_take f fd) (bi : Bi mg) : FnOk P w K mg base CX0 (k + 1) f fd P__law_take spTakeB := by
  refine F.ok sc__law_take (fun vs H Q E h => ?_) (fun cdv A outer s H vs Q E hr h => ?_)
  · obtain ⟨p, many, rfl, _⟩ := h
    rfl
  · obtain ⟨p, many, rfl, hp, m0, q⟩ := h
    refine ⟨_, (pss_cons (ps_if (pt_cmpR op_gt (pe_ix ix_list (pv 0) pe_int (fun _ _ => rfl)) pe_int (nomark _))
      (pss_cons (ps_set (i := 2) sc__law_take.nd rfl (.inl rfl) (pe_op op_mod (pe_ix ix_list (pv 0) pe_int (fun _ _ => rfl)) (pv 1)))
        (pss_cons (ps_asg (pe_op op_fdivW (pe_ix ix_list (pv 0) pe_int (fun _ _ => rfl)) (pv 1)) (pg_sub (pv 0) pe_int set_list))
        (pss_one (ps_ret (pv 2)))))
      pss_nil)
    (pss_cons (ps_asg (pe_op op_mod (pe_op op_add (pe_op op_mul (pe_ix ix_list (pv 0) pe_int (fun _ _ => rfl)) pe_int) pe_int) pe_int) (pg_sub (pv 0) pe_int set_list))
    (pss_one (ps_ret (pe_op op_mod (pe_op op_fdiv (pe_op op_mod (pe_op op_mul (pe_op op_fdiv (pe_ix ix_list (pv 0) pe_int (fun _ _ => rfl)) pe_int) (pe_op op_add (pe_op op_mod (pe_ix ix_list (pv 0) pe_int (fun _ _ => rfl)) pe_int) pe_int)) pe_int) pe_int) (pv 1)))))), ?_⟩
    obtain ⟨g, sd, ep, g0, g1, s0', s1'⟩ := hp
    refine ⟨_, rfl, p, _, 0, _, rfl, rfl, SqL.of ep, atI_nat (j := 0) rfl, _, _, rfl, rfl, _, rfl, ite2 (fun e => ?_) (fun e => ?_)⟩
    · refine ⟨_, rfl, p, _, 0, _, rfl, rfl, SqL.of ep, atI_nat (j := 0) rfl, _, rfl, _, _, rfl, rfl, m0.1, ?_⟩
      refine ⟨_, rfl, p, _, 0, _, rfl, rfl, SqL.of ep, atI_nat (j := 0) rfl, _, rfl, _, _, rfl, rfl, m0, _, rfl, p, _, 0, 0, rfl, rfl, ep, rfl, ?_⟩
      exact ⟨_, rfl, q _ _ (Int.emod_nonneg _ (Int.ne_of_gt m0.1)) (Int.emod_lt_of_pos _ m0.1) ⟨_, sd, upd_same, Int.ediv_nonneg g0 (Int.le_of_lt m0.1), Int.lt_of_le_of_lt (Int.ediv_le_self _ g0) g1, s0', s1'⟩ Keep.refl.own⟩
    · refine ⟨_, rfl, p, _, 1, _, rfl, rfl, SqL.of ep, atI_nat (j := 1) rfl, _, _, rfl, rfl, .inl ⟨by omega, by omega⟩, _, _, rfl, rfl, _, _, rfl, rfl, (by show (0 : Int) < 2305843009213693951; decide), _, rfl, p, _, 1, 1, rfl, rfl, ep, rfl, ?_⟩
      have s20 : 0 ≤ ((sd * 1181783497276652981 + 12345678910987) % 2305843009213693951) ∧ ((sd * 1181783497276652981 + 12345678910987) % 2305843009213693951) < 2 ^ 61 := by
        exact ⟨Int.emod_nonneg _ (by decide), Int.lt_trans (Int.emod_lt_of_pos _ (by decide)) (by decide)⟩
      have ep1 : upd H p (.lst [.int g, .int ((sd * 1181783497276652981 + 12345678910987) % 2305843009213693951)]) p = some (.lst [.int g, .int ((sd * 1181783497276652981 + 12345678910987) % 2305843009213693951)]) := upd_same
      have k1 : Keep p p H (upd H p (.lst [.int g, .int ((sd * 1181783497276652981 + 12345678910987) % 2305843009213693951)])) := Keep.refl.own
      refine ⟨_, rfl, p, _, 1, _, rfl, rfl, SqL.of ep1, atI_nat (j := 1) rfl, _, _, rfl, rfl, ⟨by decide, by decide⟩, _, rfl, p, _, 1, _, rfl, rfl, SqL.of ep1, atI_nat (j := 1) rfl, _, _, rfl, rfl, (by show (0 : Int) < 65537; decide), _, _, rfl, rfl, _, _, rfl, rfl, .inl ⟨?_, ?_⟩, _, _, rfl, rfl, (by show (0 : Int) < 2305843009213693921; decide), _, _, rfl, rfl, ⟨by decide, by decide⟩, _, rfl, _, _, rfl, rfl, m0.1, ?_⟩
      · omega
      · omega
      exact q _ _ (Int.emod_nonneg _ (Int.ne_of_gt m0.1)) (Int.emod_lt_of_pos _ m0.1) ⟨g, _, ep1, g0, g1, s20.1, s20.2⟩ k1
theorem ok__law_wisp {f fT : Addr} {fd fdT : FuncData} (F : Fun K "_law_wisp" "_law_wisp" s__law_wisp f fd) (bi : Bi mg) (C__law_take : Cal P w K mg base "_law_take" P__law_take 1 spTakeB fT fdT) : FnOk P w K mg base CX0 2 f fd P__law_wisp spWispB := by
  refine F.ok sc__law_wisp (fun vs H Q E h => ?_) (fun cdv A outer s H vs Q E hr h => ?_)
  · obtain ⟨p, most, scale, rfl, _⟩ := h
    rfl
  · obtain ⟨p, most, scale, rfl, hp, m1, m8, c1, c2, q⟩ := h
    refine ⟨_, (pss_cons (ps_par3 (i := 3) (j := 4) (l := 5) rfl sc__law_wisp.nd rfl rfl rfl (by decide) (by decide) (by decide) rfl rfl rfl (pa_cons (pe_op op_add pe_int (pe_call (C__law_take.G.mono (by decide)) hr (by rfl) C__law_take.g C__law_take.kp C__law_take.b .nil pass0 (pa_cons (pv 0) (pa_cons (pv 1) pa_nil)))) (pa_cons pe_int (pa_cons (pe_tup pa_nil) pa_nil))) rfl)
    (pss_cons (ps_while PassesOwn.never (pt_cmpR op_gt (pv 3) pe_int (nomark _))
      (pss_cons (ps_set (i := 6) sc__law_wisp.nd rfl (.inl rfl) (pe_op op_add pe_int (pe_call (C__law_take.G.mono (by decide)) hr (by rfl) C__law_take.g C__law_take.kp C__law_take.b .nil pass0 (pa_cons (pv 0) (pa_cons (pv 3) pa_nil)))))
        (pss_cons (ps_set (i := 4) sc__law_wisp.nd rfl (.inl rfl) (pe_op op_add (pe_op op_add (pv 4) pe_int) (pe_call (C__law_take.G.mono (by decide)) hr (by rfl) C__law_take.g C__law_take.kp C__law_take.b .nil pass0 (pa_cons (pv 0) (pa_cons pe_int pa_nil)))))
        (pss_cons (ps_set (i := 5) sc__law_wisp.nd rfl (.inl rfl) (pe_op op_catA (pe_tup (pa_cons (pe_tup (pa_cons (pe_op op_mulW (pv 4) (pv 2)) (pa_cons (pv 6) pa_nil))) pa_nil)) (pv 5)))
        (pss_one (ps_set (i := 3) sc__law_wisp.nd rfl (.inl rfl) (pe_op op_sub (pv 3) (pv 6))))))))
    (pss_one (ps_ret (pe_tup (pa_cons (pe_call (C__law_take.G.mono (by decide)) hr (by rfl) C__law_take.g C__law_take.kp C__law_take.b .nil pass0 (pa_cons (pv 0) (pa_cons pe_int pa_nil))) (pa_cons (pv 5) pa_nil))))))), ?_⟩
    refine ⟨_, rfl, _, rfl, p, most, rfl, hp, wdiv (by omega) (by omega), fun d H1 d0 d1 hp1 k1 => ?_⟩
    refine ⟨_, _, rfl, rfl, Nat.zero_le _, fun A0 nA0 => ⟨_, _, _, rfl, ?_⟩⟩
    refine ⟨fun m σ' H' => ∃ (x6 : Option V) (pl st : Int) (A : Addr) (as : List Addr) (ps : List (Int × Int)), σ' = [some (.ref p), some (.int most), some (.int scale), some (.int pl), some (.int st), some (.ref A), x6] ∧ m = pl.toNat ∧ 0 ≤ pl ∧ longs ps + pl = 1 + d ∧ H' A = some (.tup (as.map V.ref)) ∧ TupsAt H' as (ps.map stepV) ∧ PotB H' p ∧ Keep p p H H' ∧ Falls ps ∧ (∀ x ∈ ps, 1 ≤ x.1 ∧ x.1 ≤ st * scale ∧ 1 ≤ x.2 ∧ x.2 ≤ 8) ∧ (ps.length : Int) ≤ longs ps ∧ 0 ≤ st ∧ st ≤ 3 * ps.length,
      ⟨_, _, _, _, A0, [], [], rfl, rfl, by omega, by show (0 : Int) + (1 + d) = 1 + d; omega, upd_same, TupsAt.nil, hp1.new nA0, k1.new nA0, List.Pairwise.nil, (fun x hx => by cases hx), by decide, by decide, by decide⟩, fun m σ' H' hm => ?_⟩
    obtain ⟨x6, pl, st, A, as, ps, rfl, rfl, pl0, hpl, eA, tu, hp', k', fa, bd, hln, st0, st1⟩ := hm
    have hlg : longs ps ≤ 8 := by omega
    refine ⟨_, rfl, _, _, rfl, rfl, _, rfl, ite2 (fun e => ?_) (fun e => ?_)⟩
    · have e : pl > 0 := of_decide_eq_true e
      refine ⟨fun σ' H2 => ∃ m', m' < pl.toNat ∧ _, fun σ' H2 h => h, ?_⟩
      refine ⟨_, rfl, _, rfl, p, pl, rfl, hp', wdiv (by omega) (by omega), fun g H2 g0 g1 hp2 k2 => ?_⟩
      refine ⟨_, _, rfl, rfl, _, rfl, _, _, rfl, rfl, _, rfl, p, 3, rfl, hp2, wdiv (by omega) (by omega), fun u H3 u0 u1 hp3 k3 => ?_⟩
      have hst : st + 1 + u ≤ 24 := by omega
      have hm0 : 0 ≤ (st + 1 + u) * scale ∧ (st + 1 + u) * scale ≤ 24 * 10 ^ 30 := by
        constructor
        · exact Int.mul_nonneg (by omega) (by omega)
        · exact Int.le_trans (Int.mul_le_mul_of_nonneg_right hst (by omega)) (Int.mul_le_mul_of_nonneg_left c2 (by decide))
      have hm1 : st * scale + scale ≤ (st + 1 + u) * scale := by
        rw [show st * scale + scale = (st + 1) * scale by rw [Int.add_mul, Int.one_mul]]
        exact Int.mul_le_mul_of_nonneg_right (by omega) (by omega)
      refine ⟨_, _, rfl, rfl, _, rfl, _, rfl, _, _, rfl, rfl, wmul (by omega) (by omega) (by omega) (by omega), ?_⟩
      refine ⟨_, rfl, (by show 2 ≤ sizeLine; decide), fun t nt => ?_⟩
      have kt := Tups.new (o := .tup [.int ((st + 1 + u) * scale), .int (1 + g)]) nt
      have et : upd H3 t (.tup [.int ((st + 1 + u) * scale), .int (1 + g)]) t = some (.tup [.int ((st + 1 + u) * scale), .int (1 + g)]) := upd_same
      have hp4 := hp3.new (o := .tup [.int ((st + 1 + u) * scale), .int (1 + g)]) nt
      have k4 := (((k'.trans k2).trans k3).new (o := .tup [.int ((st + 1 + u) * scale), .int (1 + g)]) nt)
      have tu4 := ((tu.mono (k2.tupsB hp')).mono (k3.tupsB hp2)).mono kt
      have eA4 := kt _ _ ((k3.tupsB hp2) _ _ ((k2.tupsB hp') _ _ eA))
      generalize upd H3 t (.tup [.int ((st + 1 + u) * scale), .int (1 + g)]) = H4 at kt et hp4 k4 tu4 eA4
      refine ⟨(by show 1 ≤ sizeLine; decide), fun t2 nt2 => ?_⟩
      have s5 : Same H4 (upd H4 t2 (.tup [.ref t])) := same_new (Same.refl _) nt2
      have et2 : upd H4 t2 (.tup [.ref t]) t2 = some (.tup [.ref t]) := upd_same
      have k5 := k4.new (o := .tup [.ref t]) nt2
      generalize upd H4 t2 (.tup [.ref t]) = H5 at s5 et2 k5
      have hal : as.length = ps.length := by
        have := tu.1
        rw [List.length_map] at this
        exact this
      refine ⟨_, rfl, catA et2 (s5 _ _ eA4) (Nat.le_of_lt (small1000 ?_)) fun H6 A6 s6 eA6 => ?_⟩
      · rw [List.length_map]
        show 1 + as.length ≤ 1000
        omega
      refine ⟨_, rfl, _, rfl, _, _, rfl, rfl, ?_⟩
      have s46 := s5.trans s6
      refine ⟨(pl - (1 + g)).toNat, by omega, _, pl - (1 + g), st + 1 + u, A6, t :: as, ((st + 1 + u) * scale, 1 + g) :: ps, rfl, rfl, by omega, ?_, eA6, ?_, hp4.same s46, k5.trans (Same.keep s6), ?_, ?_, ?_, by omega, ?_⟩
      · rw [longs_cons]
        show 1 + g + longs ps + (pl - (1 + g)) = 1 + d
        omega
      · exact (tu4.cons et).mono (Tups.same s46)
      · refine List.Pairwise.cons (fun x hx => ?_) fa
        have := bd x hx
        show x.1 < (st + 1 + u) * scale
        omega
      · intro x hx
        rcases List.mem_cons.mp hx with rfl | hx
        · refine ⟨?_, Int.le_refl _, ?_, ?_⟩
          · show 1 ≤ (st + 1 + u) * scale
            have : 0 ≤ st * scale := Int.mul_nonneg st0 (by omega)
            omega
          · show 1 ≤ 1 + g
            omega
          · show 1 + g ≤ 8
            have : 0 ≤ longs ps := by omega
            omega
        · have := bd x hx
          exact ⟨this.1, by omega, this.2.2⟩
      · rw [longs_cons, List.length_cons]
        show ((ps.length + 1 : Nat) : Int) ≤ 1 + g + longs ps
        omega
      · rw [List.length_cons]
        omega
    · have e : ¬ pl > 0 := of_decide_eq_false (Bool.eq_false_iff.mpr e)
      have epl : pl = 0 := by omega
      subst epl
      refine ⟨_, rfl, p, 2, rfl, hp', wdiv (by omega) (by omega), fun so H2 so0 so1 hp2 k2 => ?_⟩
      refine ⟨_, rfl, (by show 2 ≤ sizeLine; decide), fun W nW => ?_⟩
      have kn := Tups.new (o := .tup [.int so, .ref A]) nW
      have t2 := (k2.tupsB hp')
      have hst : st * scale ≤ 24 * 10 ^ 30 := Int.le_trans (Int.mul_le_mul_of_nonneg_right (show st ≤ 24 by omega) (by omega)) (Int.mul_le_mul_of_nonneg_left c2 (by decide))
      refine q _ W so ps (hp2.new nW) ((k'.trans k2).new nW) ⟨A, as, upd_same, kn _ _ (t2 _ _ eA), (tu.mono t2).mono kn⟩ so0 (by omega) ⟨?_, by omega, fun x hx => ?_⟩ fa (by omega) ?_
      · cases ps with
        | nil =>
          have hpl : (0 : Int) + 0 = 1 + d := hpl
          omega
        | cons x r => exact Nat.succ_le_succ (Nat.zero_le _)
      · have := bd x hx
        exact ⟨this.1, by omega, this.2.2.1, by omega⟩
      · exact k'.freeB hp' (k2.freeB hp2 nW)
theorem ok__law_set {f fT fW : Addr} {fd fdT fdW : FuncData} (F : Fun K "_law_set" "_law_set" s__law_set f fd) (bi : Bi mg) (C__law_take : Cal P w K mg base "_law_take" P__law_take 1 spTakeB fT fdT) (C__law_wisp : Cal P w K mg base "_law_wisp" P__law_wisp 2 spWispB fW fdW) : FnOk P w K mg base CX0 3 f fd P__law_set spSetB := by
  refine F.ok sc__law_set (fun vs H Q E h => ?_) (fun cdv A outer s H vs Q E hr h => ?_)
  · obtain ⟨p, rfl, _⟩ := h
    rfl
  · obtain ⟨p, rfl, hp, q⟩ := h
    refine ⟨_, (pss_cons (ps_par3 (i := 1) (j := 2) (l := 3) rfl sc__law_set.nd rfl rfl rfl (by decide) (by decide) (by decide) rfl rfl rfl (pa_cons (pe_op op_add pe_int (pe_call (C__law_take.G.mono (by decide)) hr (by rfl) C__law_take.g C__law_take.kp C__law_take.b .nil pass0 (pa_cons (pv 0) (pa_cons pe_int pa_nil)))) (pa_cons (pe_ix ix_list (pe_lst (pa_cons pe_int (pa_cons pe_int (pa_cons (pe_op op_pow pe_int pe_int) pa_nil)))) (pe_call (C__law_take.G.mono (by decide)) hr (by rfl) C__law_take.g C__law_take.kp C__law_take.b .nil pass0 (pa_cons (pv 0) (pa_cons pe_int pa_nil))) (fun _ _ => rfl)) (pa_cons (pe_op op_add pe_int (pe_call (C__law_take.G.mono (by decide)) hr (by rfl) C__law_take.g C__law_take.kp C__law_take.b .nil pass0 (pa_cons (pv 0) (pa_cons pe_int pa_nil)))) pa_nil))) rfl)
    (pss_cons (ps_par (i := 4) (j := 5) rfl sc__law_set.nd rfl rfl (by decide) rfl rfl (pa_cons (pe_ix ix_list (pe_ix ix_list (pe_lst (pa_cons (pe_lst (pa_cons pe_int (pa_cons pe_int (pa_cons pe_int (pa_cons pe_int pa_nil))))) (pa_cons (pe_lst (pa_cons pe_int (pa_cons pe_int (pa_cons pe_int (pa_cons pe_int pa_nil))))) (pa_cons (pe_lst (pa_cons pe_int (pa_cons pe_int (pa_cons pe_int (pa_cons pe_int pa_nil))))) pa_nil)))) (pe_op op_sub (pv 1) pe_int) (fun _ _ => rfl)) (pe_op op_sub (pv 3) pe_int) (fun _ _ => rfl)) (pa_cons (pe_lst pa_nil) pa_nil)) rfl)
    (pss_cons (ps_for PassesOwn.never rfl (pi_range1 rfl bi.m_range (pa_cons (pv 3) pa_nil)) (pg_name (i := 6) sc__law_set.nd rfl (.inl rfl))
      (pss_cons (ps_set (i := 7) sc__law_set.nd rfl (.inl rfl) (pe_ix ix_list (pe_lst (pa_cons pe_non (pa_cons (pe_call (C__law_take.G.mono (by decide)) hr (by rfl) C__law_take.g C__law_take.kp C__law_take.b .nil pass0 (pa_cons (pv 0) (pa_cons pe_int pa_nil))) (pa_cons (pe_op op_add pe_int (pe_call (C__law_take.G.mono (by decide)) hr (by rfl) C__law_take.g C__law_take.kp C__law_take.b .nil pass0 (pa_cons (pv 0) (pa_cons pe_int pa_nil)))) pa_nil)))) (pe_call (C__law_take.G.mono (by decide)) hr (by rfl) C__law_take.g C__law_take.kp C__law_take.b .nil pass0 (pa_cons (pv 0) (pa_cons pe_int pa_nil))) (fun _ _ => rfl)))
        (pss_one (ps_expr (pe_bm PySem.F.plainAttrs_list PySem.F.slot_list_append PySem.F.type_list_append mt_append (pv 5) (pa_cons (pe_tup (pa_cons (pe_call (C__law_wisp.G.mono (by decide)) hr (by rfl) C__law_wisp.g C__law_wisp.kp C__law_wisp.b .nil pass0 (pa_cons (pv 0) (pa_cons (pv 4) (pa_cons (pv 2) pa_nil)))) (pa_cons (pv 7) pa_nil))) pa_nil))))))
    (C8.pss_cut (ps_if (pw_and (pt_cmpR op_gt (pv 3) pe_int (nomark _)) (pw_and1 (pt_cmpR op_eq (pe_call (C__law_take.G.mono (by decide)) hr (by rfl) C__law_take.g C__law_take.kp C__law_take.b .nil pass0 (pa_cons (pv 0) (pa_cons pe_int pa_nil))) pe_int (nomark _)))).pt
      (pss_one (ps_asg (pe_tup (pa_cons (pe_ix ix_tup (pe_ix ix_list (pv 5) pe_int (fun _ _ => rfl)) pe_int (fun _ _ => rfl)) (pa_cons (pe_ix ix_tup (pe_ix ix_list (pv 5) (pe_un un_neg pe_int) (fun _ _ => rfl)) pe_int (fun _ _ => rfl)) pa_nil))) (pg_sub (pv 5) (pe_un un_neg pe_int) set_list)))
      pss_nil)
    (pss_cons (ps_set (i := 8) sc__law_set.nd rfl (.inl rfl) (pe_op op_add pe_int (pe_call (C__law_take.G.mono (by decide)) hr (by rfl) C__law_take.g C__law_take.kp C__law_take.b .nil pass0 (pa_cons (pv 0) (pa_cons pe_int pa_nil)))))
    (pss_cons (ps_set (i := 9) sc__law_set.nd rfl (.inl rfl) (pe_op op_add (pv 8) (pe_call (C__law_take.G.mono (by decide)) hr (by rfl) C__law_take.g C__law_take.kp C__law_take.b .nil pass0 (pa_cons (pv 0) (pa_cons pe_int pa_nil)))))
    (pss_cons (ps_set (i := 8) sc__law_set.nd rfl (.inl rfl) (pe_op op_sub (pe_op op_mulW (pv 8) (pv 2)) (pe_ix ix_list (pe_lst (pa_cons pe_int (pa_cons (pe_op op_sub (pv 2) pe_int) pa_nil))) (pe_call (C__law_take.G.mono (by decide)) hr (by rfl) C__law_take.g C__law_take.kp C__law_take.b .nil pass0 (pa_cons (pv 0) (pa_cons pe_int pa_nil))) (fun _ _ => rfl))))
    (pss_one (ps_ret (pe_tup (pa_cons (pe_callTy call_tuple_of (by rfl) bi.m_tuple (by decide +kernel) (pa_cons (pv 5) pa_nil)) (pa_cons (pe_tup (pa_cons (pv 8) (pa_cons (pe_op op_add (pe_op op_mulW (pv 9) (pv 2)) (pe_ix ix_list (pe_lst (pa_cons pe_int (pa_cons (pe_op op_sub (pv 2) pe_int) pa_nil))) (pe_call (C__law_take.G.mono (by decide)) hr (by rfl) C__law_take.g C__law_take.kp C__law_take.b .nil pass0 (pa_cons (pv 0) (pa_cons pe_int pa_nil))) (fun _ _ => rfl))) (pa_cons (pv 1) pa_nil)))) pa_nil)))))))))))), ?_⟩
    have hq : ∀ b : Int, 0 < b → b ≤ 1000 → CDivW 0 b := fun b h0 h1 => wdiv h0 (by omega)
    refine ⟨_, rfl, p, 3, rfl, hp, hq _ (by omega) (by omega), fun d1 H1 d10 d11 hp1 k1 => ?_⟩
    refine ⟨_, _, rfl, rfl, _, _, rfl, rfl, ⟨by decide, by decide, by decide⟩, (by show 3 ≤ sizeLine; decide), fun Z nZ => ?_⟩
    refine ⟨_, rfl, p, 3, rfl, hp1.new nZ, hq _ (by omega) (by omega), fun d2 H2 d20 d21 hp2 k2 => ?_⟩
    have nZp := hp1.fresh nZ
    have eZ : H2 Z = some (.lst [.int 1, .int 1, .int (10 ^ (30 : Int).toNat)]) := k2 _ _ nZp nZp upd_same
    obtain ⟨sc, sc1, sc2, esc⟩ : ∃ b : Int, 1 ≤ b ∧ b ≤ 10 ^ 30 ∧ atI [V.int 1, V.int 1, V.int (10 ^ (30 : Int).toNat)] d2 = some (.int b) := by
      have hw : d2 = 0 ∨ d2 = 1 ∨ d2 = 2 := by omega
      rcases hw with rfl | rfl | rfl
      · exact ⟨1, by decide, by decide, rfl⟩
      · exact ⟨1, by decide, by decide, rfl⟩
      · exact ⟨10 ^ 30, by decide, by decide, rfl⟩
    refine ⟨Z, _, d2, _, rfl, rfl, SqL.of eZ, esc, ?_⟩
    refine ⟨_, rfl, p, 4, rfl, hp2, hq _ (by omega) (by omega), fun d3 H3 d30 d31 hp3 k3 => ?_⟩
    refine ⟨_, _, rfl, rfl, _, _, _, rfl, ?_⟩
    have k03 : Keep p p H H3 := ((k1.new nZ).trans k2).trans k3
    -- how many places
    refine ⟨(by show 4 ≤ sizeLine; decide), fun Y1 n1 => ⟨(by show 4 ≤ sizeLine; decide), fun Y2 n2 => ⟨(by show 4 ≤ sizeLine; decide), fun Y3 n3 => ⟨(by show 3 ≤ sizeLine; decide), fun Y4 n4 => ?_⟩⟩⟩⟩
    have s1 : Same H3 (upd H3 Y1 (.lst [.int 8, .int 8, .int 8, .int 8])) := same_new (Same.refl _) n1
    have e1 : upd H3 Y1 (.lst [.int 8, .int 8, .int 8, .int 8]) Y1 = some (.lst [.int 8, .int 8, .int 8, .int 8]) := upd_same
    generalize upd H3 Y1 (.lst [.int 8, .int 8, .int 8, .int 8]) = G1 at s1 e1 n2 n3 n4 ⊢
    have s2 : Same G1 (upd G1 Y2 (.lst [.int 8, .int 5, .int 3, .int 3])) := same_new (Same.refl _) n2
    have e2 : upd G1 Y2 (.lst [.int 8, .int 5, .int 3, .int 3]) Y2 = some (.lst [.int 8, .int 5, .int 3, .int 3]) := upd_same
    generalize upd G1 Y2 (.lst [.int 8, .int 5, .int 3, .int 3]) = G2 at s2 e2 n3 n4 ⊢
    have s3 : Same G2 (upd G2 Y3 (.lst [.int 6, .int 4, .int 3, .int 2])) := same_new (Same.refl _) n3
    have e3 : upd G2 Y3 (.lst [.int 6, .int 4, .int 3, .int 2]) Y3 = some (.lst [.int 6, .int 4, .int 3, .int 2]) := upd_same
    generalize upd G2 Y3 (.lst [.int 6, .int 4, .int 3, .int 2]) = G3 at s3 e3 n4 ⊢
    have s4 : Same G3 (upd G3 Y4 (.lst [.ref Y1, .ref Y2, .ref Y3])) := same_new (Same.refl _) n4
    have e4 : upd G3 Y4 (.lst [.ref Y1, .ref Y2, .ref Y3]) Y4 = some (.lst [.ref Y1, .ref Y2, .ref Y3]) := upd_same
    generalize upd G3 Y4 (.lst [.ref Y1, .ref Y2, .ref Y3]) = G4 at s4 e4 ⊢
    obtain ⟨Y, ns, eY, eYL, hns⟩ : ∃ (Y : Addr) (ns : List Int), atI [V.ref Y1, V.ref Y2, V.ref Y3] (1 + d1 - 1) = some (.ref Y) ∧ G4 Y = some (.lst (ns.map V.int)) ∧ ns.length = 4 ∧ ∀ n ∈ ns, 1 ≤ n ∧ n ≤ 8 := by
      have hw : d1 = 0 ∨ d1 = 1 ∨ d1 = 2 := by omega
      rcases hw with rfl | rfl | rfl
      · exact ⟨Y1, [8, 8, 8, 8], rfl, s4 _ _ (s3 _ _ (s2 _ _ e1)), rfl, by decide⟩
      · exact ⟨Y2, [8, 5, 3, 3], rfl, s4 _ _ (s3 _ _ e2), rfl, by decide⟩
      · exact ⟨Y3, [6, 4, 3, 2], rfl, s4 _ _ e3, rfl, by decide⟩
    obtain ⟨j, hj⟩ : ∃ j : Nat, 1 + d3 - 1 = j := ⟨d3.toNat, by omega⟩
    have hjl : j < ns.length := by omega
    have enj : ns[j]? = some ns[j] := List.getElem?_eq_getElem hjl
    have hpl := hns.2 ns[j] (List.getElem_mem hjl)
    generalize ns[j] = places at enj hpl
    refine ⟨_, rfl, _, _, rfl, rfl, Y4, _, _, _, rfl, rfl, SqL.of e4, eY, ?_⟩
    refine ⟨_, rfl, _, _, rfl, rfl, Y, _, _, .int places, rfl, rfl, SqL.of eYL, ?_, ?_⟩
    · rw [hj]
      exact atI_nat (by rw [List.getElem?_map, enj]; rfl)
    refine ⟨Nat.zero_le _, fun R nR => ⟨_, _, rfl, ?_⟩⟩
    have s34 := ((s1.trans s2).trans s3).trans s4
    have hpG := hp3.same s34
    have kG : Keep p p H G4 := k03.trans (Same.keep s34)
    have nRp := hpG.fresh nR
    have nRH : H R = none := kG.freeB hpG nR
    refine ⟨_, rfl, 1 + d3, rfl, by omega, by omega, for_range (n := (1 + d3).toNat) (fun i σ' H' => ∃ (x6 x7 : Option V) (cs : List Addr) (ks : List Kd), σ' = [some (.ref p), some (.int (1 + d1)), some (.int sc), some (.int (1 + d3)), some (.int places), some (.ref R), x6, x7, none, none] ∧ PotB H' p ∧ Keep p p H H' ∧ H' R = some (.lst (cs.map V.ref)) ∧ Each (KdAt H') cs ks ∧ ks.length = i ∧ ∀ k ∈ ks, GoodK k) ⟨_, _, [], [], rfl, hpG.new nR, kG.new nR, upd_same, Each.nil, rfl, (fun k hk => by cases hk)⟩ (fun i σ' H' hi hm => ?_) (fun σ' H' hm => ?_)⟩
    · obtain ⟨x6, x7, cs, ks, rfl, hpi, ki, eR, hE, hkl, hgk⟩ := hm
      refine ⟨_, rfl, p, 3, rfl, hpi, hq _ (by omega) (by omega), fun u H5 u0 u1 hp5 k5 => ?_⟩
      refine ⟨_, rfl, p, 9, rfl, hp5, hq _ (by omega) (by omega), fun v H6 v0 v1 hp6 k6 => ?_⟩
      refine ⟨_, _, rfl, rfl, (by show 3 ≤ sizeLine; decide), fun L nL => ?_⟩
      refine ⟨_, rfl, p, 3, rfl, hp6.new nL, hq _ (by omega) (by omega), fun g H7 g0 g1 hp7 k7 => ?_⟩
      have nLp := hp6.fresh nL
      have eL : H7 L = some (.lst [.non, .int u, .int (1 + v)]) := k7 _ _ nLp nLp upd_same
      obtain ⟨m, em, hmb⟩ : ∃ m : Option Int, atI [V.non, V.int u, V.int (1 + v)] g = some (letV m) ∧ ∀ n, m = some n → 0 ≤ n ∧ n ≤ 9 := by
        have hw : g = 0 ∨ g = 1 ∨ g = 2 := by omega
        rcases hw with rfl | rfl | rfl
        · exact ⟨none, rfl, fun n e => by cases e⟩
        · exact ⟨some u, rfl, fun n e => by cases e; omega⟩
        · exact ⟨some (1 + v), rfl, fun n e => by cases e; omega⟩
      refine ⟨L, _, g, _, rfl, rfl, SqL.of eL, em, ?_⟩
      have k57 := (k5.trans (k6.new nL)).trans k7
      have t57 := k57.tupsB hpi
      have eR7 := k57 _ _ nRp nRp eR
      have hE7 := hE.mono fun a k h => h.mono t57
      refine ⟨_, rfl, .inl ⟨rfl, _, SqL.of eR7⟩, ?_⟩
      refine ⟨_, rfl, _, rfl, _, rfl, p, places, sc, rfl, hp7, hpl.1, hpl.2, sc1, sc2, fun H8 W so ps hp8 k8 hW so0 so1 gW fW lW nW => ?_⟩
      have t8 := k8.tupsB hp7
      have eR8 := k8 _ _ nRp nRp eR7
      refine ⟨_, rfl, (by show 2 ≤ sizeLine; decide), fun t nt => ?_⟩
      have st : Same H8 (upd H8 t (.tup [.ref W, letV m])) := same_new (Same.refl _) nt
      have et : upd H8 t (.tup [.ref W, letV m]) t = some (.tup [.ref W, letV m]) := upd_same
      have kt := (((ki.trans k57).trans k8).new (o := .tup [.ref W, letV m]) nt)
      generalize upd H8 t (.tup [.ref W, letV m]) = H9 at st et kt
      have eR9 := st _ _ eR8
      have tR := Tups.ls (o := .lst (cs.map V.ref ++ [.ref t])) eR9
      have hcl := hE.1
      refine ⟨R, _, _, rfl, rfl, eR9, ?_, ?_⟩
      · rw [List.length_map]
        exact small1000 (by omega)
      refine ⟨_, _, cs ++ [t], ks ++ [⟨so, ps, m⟩], rfl, (hp8.same st).other nRp, kt.mine nRH, ?_, ?_, ?_, fun k hk => ?_⟩
      · rw [upd_same, List.map_append]
        rfl
      · refine (hE7.mono fun a k h => ((h.mono t8).mono (Tups.same st)).mono tR).snoc ?_
        exact KdAt.mono ⟨W, et, hW.mono (Tups.same st)⟩ tR
      · rw [List.length_append, hkl]
        rfl
      · rcases List.mem_append.mp hk with h | h
        · exact hgk k h
        · rw [List.mem_singleton.mp h]
          exact ⟨gW, so0, so1, fW, by show longs ps ≤ 8; omega, hmb⟩
    obtain ⟨x6, x7, cs, ks, rfl, hpi, ki, eR, hE, hkl, hgk⟩ := hm
    refine ⟨fun σ' H2 => ∃ (cs : List Addr) (ks : List Kd), σ' = [some (.ref p), some (.int (1 + d1)), some (.int sc), some (.int (1 + d3)), some (.int places), some (.ref R), x6, x7, none, none] ∧ PotB H2 p ∧ Keep p p H H2 ∧ H2 R = some (.lst (cs.map V.ref)) ∧ Each (KdAt H2) cs ks ∧ ks.length = (1 + d3).toNat ∧ ∀ k ∈ ks, GoodK k, ?_, fun σ' H2 hm => ?_⟩
    · refine ⟨_, rfl, _, _, rfl, rfl, _, rfl, ite2 (fun e => ?_) (fun _ => ⟨cs, ks, rfl, hpi, ki, eR, hE, hkl, hgk⟩)⟩
      have e : 1 + d3 > 1 := of_decide_eq_true e
      refine ⟨_, rfl, p, 6, rfl, hpi, hq _ (by omega) (by omega), fun u H5 u0 u1 hp5 k5 => ?_⟩
      have t5 := k5.tupsB hpi
      have eR5 := k5 _ _ nRp nRp eR
      have hE5 := hE.mono fun a k h => h.mono t5
      refine ⟨rfl, _, rfl, ite2 (fun _ => ?_) (fun _ => ⟨cs, ks, rfl, hp5, ki.trans k5, eR5, hE5, hkl, hgk⟩)⟩
      have hcl := hE.1
      obtain ⟨c0, e0⟩ : ∃ c0, cs[0]? = some c0 := ⟨_, List.getElem?_eq_getElem (by omega)⟩
      have hkl2 : cs.length = (cs.length - 1) + 1 := by omega
      obtain ⟨cz, ez⟩ : ∃ cz, cs[cs.length - 1]? = some cz := ⟨_, List.getElem?_eq_getElem (by omega)⟩
      obtain ⟨k0, ek0⟩ : ∃ k0, ks[0]? = some k0 := ⟨_, List.getElem?_eq_getElem (by omega)⟩
      obtain ⟨kz, ekz⟩ : ∃ kz, ks[cs.length - 1]? = some kz := ⟨_, List.getElem?_eq_getElem (by omega)⟩
      obtain ⟨w0, e1', hw0⟩ := hE5.2 0 c0 k0 e0 ek0
      obtain ⟨wz, e2', hwz⟩ := hE5.2 _ cz kz ez ekz
      have ixz : ixN (cs.map V.ref).length (-1) = some (cs.length - 1) := by
        unfold ixN
        rw [List.length_map, if_neg (by decide), if_pos (by omega)]
        congr 1
        omega
      have atz : atI (cs.map V.ref) (-1) = some (.ref cz) := by
        unfold atI
        rw [ixz]
        show (cs.map V.ref)[cs.length - 1]? = some (.ref cz)
        rw [List.getElem?_map, ez]
        rfl
      refine ⟨_, rfl, R, _, 0, _, rfl, rfl, SqL.of eR5, atI_nat (j := 0) (by rw [List.getElem?_map, e0]; rfl), c0, _, 0, _, rfl, rfl, SqT.of e1', atI_nat (j := 0) rfl, ?_⟩
      refine ⟨_, rfl, 1, rfl, R, _, -1, _, rfl, rfl, SqL.of eR5, atz, cz, _, 1, _, rfl, rfl, SqT.of e2', atI_nat (j := 1) rfl, ?_⟩
      refine ⟨(by show 2 ≤ sizeLine; decide), fun t nt => ?_⟩
      have st : Same H5 (upd H5 t (.tup [.ref w0, letV kz.many])) := same_new (Same.refl _) nt
      have et : upd H5 t (.tup [.ref w0, letV kz.many]) t = some (.tup [.ref w0, letV kz.many]) := upd_same
      have kt := ((ki.trans k5).new (o := .tup [.ref w0, letV kz.many]) nt)
      generalize upd H5 t (.tup [.ref w0, letV kz.many]) = H9 at st et kt
      have eR9 := st _ _ eR5
      have tR := Tups.ls (o := .lst ((cs.map V.ref).set (cs.length - 1) (.ref t))) eR9
      refine ⟨_, rfl, 1, rfl, R, _, -1, cs.length - 1, rfl, rfl, eR9, ixz, ?_⟩
      refine ⟨cs.set (cs.length - 1) t, ks.set (cs.length - 1) ⟨k0.so, k0.ps, kz.many⟩, rfl, (hp5.same st).other nRp, kt.mine nRH, ?_, ?_, ?_, fun k hk => ?_⟩
      · rw [upd_same, List.map_set]
      · refine (hE5.mono fun a k h => (h.mono (Tups.same st)).mono tR).set ?_ _
        exact KdAt.mono ⟨w0, et, hw0.mono (Tups.same st)⟩ tR
      · rw [List.length_set, hkl]
      · rcases List.mem_or_eq_of_mem_set hk with h | h
        · exact hgk k h
        · rw [h]
          have g0 := hgk k0 (List.mem_of_getElem? ek0)
          have gz := hgk kz (List.mem_of_getElem? ekz)
          exact ⟨g0.1, g0.2.1, g0.2.2.1, g0.2.2.2.1, g0.2.2.2.2.1, gz.2.2.2.2.2⟩
    obtain ⟨cs, ks, rfl, hpi, ki, eR, hE, hkl, hgk⟩ := hm
    refine ⟨_, rfl, p, 5, rfl, hpi, hq _ (by omega) (by omega), fun u H5 u0 u1 hp5 k5 => ⟨_, _, rfl, rfl, ?_⟩⟩
    refine ⟨_, rfl, _, rfl, p, 4, rfl, hp5, hq _ (by omega) (by omega), fun v H6 v0 v1 hp6 k6 => ⟨_, _, rfl, rfl, ?_⟩⟩
    have hlo : 1 * sc ≤ (1 + u) * sc ∧ (1 + u) * sc ≤ 5 * 10 ^ 30 := ⟨Int.mul_le_mul_of_nonneg_right (by omega) (by omega), Int.le_trans (Int.mul_le_mul_of_nonneg_right (show 1 + u ≤ 5 by omega) (by omega)) (Int.mul_le_mul_of_nonneg_left sc2 (by decide))⟩
    have hhi : (1 + u) * sc ≤ (1 + u + v) * sc ∧ (1 + u + v) * sc ≤ 9 * 10 ^ 30 := ⟨Int.mul_le_mul_of_nonneg_right (by omega) (by omega), Int.le_trans (Int.mul_le_mul_of_nonneg_right (show 1 + u + v ≤ 9 by omega) (by omega)) (Int.mul_le_mul_of_nonneg_left sc2 (by decide))⟩
    rw [Int.one_mul] at hlo
    have pick : ∀ g : Int, 0 ≤ g → g < 2 → ∃ b : Int, 0 ≤ b ∧ b ≤ sc - 1 ∧ atI [V.int 0, V.int (sc - 1)] g = some (.int b) := fun g g0 g1 => by
      have hw : g = 0 ∨ g = 1 := by omega
      rcases hw with rfl | rfl
      · exact ⟨0, by omega, by omega, rfl⟩
      · exact ⟨sc - 1, by omega, by omega, rfl⟩
    refine ⟨_, rfl, _, rfl, _, _, rfl, rfl, wmul (by omega) (by omega) (by omega) (by omega), _, rfl, _, _, rfl, rfl, (by show 2 ≤ sizeLine; decide), fun L nL => ?_⟩
    refine ⟨_, rfl, p, 2, rfl, hp6.new nL, hq _ (by omega) (by omega), fun g H7 g0 g1 hp7 k7 => ?_⟩
    have nLp := hp6.fresh nL
    obtain ⟨b1, b10, b11, eb1⟩ := pick g g0 g1
    have eL : H7 L = some (.lst [.int 0, .int (sc - 1)]) := k7 _ _ nLp nLp upd_same
    refine ⟨L, _, g, _, rfl, rfl, SqL.of eL, eb1, _, _, rfl, rfl, ?_⟩
    have k57 := ((k5.trans k6).trans (Keep.refl.new nL)).trans k7
    have t57 := k57.tupsB hpi
    have eR7 := k57 _ _ nRp nRp eR
    have hE7 := hE.mono fun a k h => h.mono t57
    refine ⟨_, rfl, R, _, rfl, .inl ⟨SqL.of eR7, fun b nb => ?_⟩⟩
    have sb : Same H7 (upd H7 b (.tup (cs.map V.ref))) := same_new (Same.refl _) nb
    have eb : upd H7 b (.tup (cs.map V.ref)) b = some (.tup (cs.map V.ref)) := upd_same
    have kb := ((ki.trans k57).new (o := .tup (cs.map V.ref)) nb)
    have hp8 := hp7.same sb
    generalize upd H7 b (.tup (cs.map V.ref)) = H8 at sb eb kb hp8
    refine ⟨_, rfl, _, rfl, _, rfl, _, _, rfl, rfl, wmul (by omega) (by omega) (by omega) (by omega), _, rfl, _, _, rfl, rfl, (by show 2 ≤ sizeLine; decide), fun L2 nL2 => ?_⟩
    refine ⟨_, rfl, p, 2, rfl, hp8.new nL2, hq _ (by omega) (by omega), fun g' H9 g0' g1' hp9 k9 => ?_⟩
    have nLp2 := hp8.fresh nL2
    obtain ⟨b2, b20, b21, eb2⟩ := pick g' g0' g1'
    have eL2 : H9 L2 = some (.lst [.int 0, .int (sc - 1)]) := k9 _ _ nLp2 nLp2 upd_same
    refine ⟨L2, _, g', _, rfl, rfl, SqL.of eL2, eb2, _, _, rfl, rfl, _, rfl, (by show 3 ≤ sizeLine; decide), fun f nf => ?_⟩
    have k89 := (Keep.refl.new nL2).trans k9
    have t89 := k89.tupsB hp8
    have sf : Same H9 (upd H9 f (.tup [.int ((1 + u) * sc - b1), .int ((1 + u + v) * sc + b2), .int (1 + d1)])) := same_new (Same.refl _) nf
    have ef : upd H9 f (.tup [.int ((1 + u) * sc - b1), .int ((1 + u + v) * sc + b2), .int (1 + d1)]) f = some (.tup [.int ((1 + u) * sc - b1), .int ((1 + u + v) * sc + b2), .int (1 + d1)]) := upd_same
    have kf := ((kb.trans k89).new (o := .tup [.int ((1 + u) * sc - b1), .int ((1 + u + v) * sc + b2), .int (1 + d1)]) nf)
    have hpf := hp9.same sf
    generalize upd H9 f (.tup [.int ((1 + u) * sc - b1), .int ((1 + u + v) * sc + b2), .int (1 + d1)]) = H10 at sf ef kf hpf
    refine ⟨(by show 2 ≤ sizeLine; decide), fun r nr => ?_⟩
    have sr := same_new (o := .tup [.ref b, .ref f]) (Same.refl _) nr
    have t8r : Tups H8 (upd H10 r (.tup [.ref b, .ref f])) := t89.trans (Tups.same (sf.trans sr))
    refine q _ r b f ks _ _ _ (hpf.same sr) (kf.trans (Same.keep sr)) upd_same ⟨cs, t8r _ _ eb, hE7.mono fun a k h => (h.mono (Tups.same sb)).mono t8r⟩ (by omega) (by omega) hgk (sr _ _ ef) (by omega) (by omega) (by omega) (by omega) (by omega)
theorem ok__law_bent {fB f : Addr} {fdB fd : FuncData} (F : Fun K "_law_bent" "_law_bent" s__law_bent f fd) (gs : mg "_law_bent" = some (.ref f)) (bs : Binds K fd P__law_bent []) (bi : Bi mg) (C__law_take : Cal P w K mg base "_law_take" P__law_take 1 spTakeB fB fdB) : ∀ N : Nat, FnOk P w K mg base CX0 (N + 2) f fd P__law_bent (spBentB N)
  | 0 => ⟨fun vs H Q E h => by
      obtain ⟨p, B, v, b, n, rfl, _⟩ := h
      rfl, fun A outer s H args us vs Q E _ _ _ _ h => by
      obtain ⟨p, B, v, b, n, rfl, _, _, _, _, _, h0, _⟩ := h
      exact absurd h0 (Nat.not_lt_zero _)⟩
  | N + 1 => by
    have C__law_bent : Cal P w K mg base "_law_bent" P__law_bent (N + 2) (spBentB N) f fd := ⟨ok__law_bent F gs bs bi C__law_take N, gs, F.kp, bs⟩
    refine F.ok sc__law_bent (fun vs H Q E h => ?_) (fun cdv A outer s H vs Q E hr h => ?_)
    · obtain ⟨p, B, v, b, n, rfl, _⟩ := h
      rfl
    · obtain ⟨p, B, v, b, n, rfl, hp, hB9, hB, hv, hb, hn, q⟩ := h
      have hu64 := hr.units
      refine ⟨_, (C8.pss_cut (ps_if (pw_and (pt_val (pe_callB call_isi (by rfl) bi.m_isinstance (by decide +kernel) (pa_cons (pv 1) (pa_cons (pe_bltn (v := .ty "tuple") (by rfl) bi.m_tuple (by decide +kernel) rfl) pa_nil)))) (pw_and (pt_cmpR (op_neE hu64) (pv 1) (pe_tup pa_nil) (nomark _)) (pw_and1 (pt_cmpR op_gt (pe_call (C__law_take.G.mono (by omega)) hr (by rfl) C__law_take.g C__law_take.kp C__law_take.b .nil pass0 (pa_cons (pv 0) (pa_cons pe_int pa_nil))) pe_int (nomark _))))).pt
      (pss_cons (ps_set (i := 2) sc__law_bent.nd rfl (.inl rfl) (pe_call (C__law_take.G.mono (by omega)) hr (by rfl) C__law_take.g C__law_take.kp C__law_take.b .nil pass0 (pa_cons (pv 0) (pa_cons (pe_callB call_len_seq (by rfl) bi.m_len (by decide +kernel) (pa_cons (pv 1) pa_nil)) pa_nil))))
        (pss_one (ps_ret (pe_op op_catA (pe_op op_catA (pe_slice sl_tupA (pv 1) po_none (po_some (pv 2))) (pe_tup (pa_cons (pe_call (C__law_bent.G.mono (by omega)) hr (by rfl) C__law_bent.g C__law_bent.kp C__law_bent.b .nil pass0 (pa_cons (pv 0) (pa_cons (pe_ix ix_tup (pv 1) (pv 2) (fun _ _ => rfl)) pa_nil))) pa_nil))) (pe_slice sl_tupA (pv 1) (po_some (pe_op op_add (pv 2) pe_int)) po_none)))))
      pss_nil)
    (pss_cons (ps_set (i := 3) sc__law_bent.nd rfl (.inl rfl) (pe_lst (pa_cons pe_non (pa_cons pe_bl (pa_cons pe_bl (pa_cons pe_str (pa_cons (pe_tup pa_nil) (pa_cons (pe_un un_neg pe_int) (pa_cons pe_int (pa_cons pe_int (pa_cons pe_int (pa_cons pe_int (pa_cons (pe_tup (pa_cons pe_int pa_nil)) (pa_cons (pe_lst (pa_cons (pv 1) pa_nil)) (pa_cons (pe_tup (pa_cons (pv 1) pa_nil)) (pa_cons pe_dnewK pa_nil))))))))))))))))
    (C8.pss_cut (ps_if (pt_val (pe_callB call_isi (by rfl) bi.m_isinstance (by decide +kernel) (pa_cons (pv 1) (pa_cons (pe_bltn (v := .ty "tuple") (by rfl) bi.m_tuple (by decide +kernel) rfl) pa_nil))))
      (pss_cons (ps_set (i := 2) sc__law_bent.nd rfl (.inl rfl) (pe_call (C__law_take.G.mono (by omega)) hr (by rfl) C__law_take.g C__law_take.kp C__law_take.b .nil pass0 (pa_cons (pv 0) (pa_cons (pe_op op_add (pe_callB call_len_seq (by rfl) bi.m_len (by decide +kernel) (pa_cons (pv 1) pa_nil)) pe_int) pa_nil))))
        (pss_cons (ps_set (i := 3) sc__law_bent.nd rfl (.inl rfl) (pe_op op_cat (pv 3) (pe_lst (pa_cons (pe_callTy call_list_of (by rfl) bi.m_list (by decide +kernel) (pa_cons (pv 1) pa_nil)) (pa_cons (pe_slice sl_tupA (pv 1) (po_some pe_int) po_none) (pa_cons (pe_slice sl_tupA (pv 1) po_none (po_some (pe_un un_neg pe_int))) (pa_cons (pe_revT (pv 1)) pa_nil)))))))
        (pss_cons (ps_set (i := 3) sc__law_bent.nd rfl (.inl rfl) (pe_op op_cat (pv 3) (pe_lst (pa_cons (pe_op op_catA (pv 1) (pe_tup (pa_cons pe_int pa_nil))) (pa_cons (pe_op op_catA (pe_tup (pa_cons pe_int pa_nil)) (pv 1)) (pa_cons (pe_op op_repTA (pv 1) pe_int) pa_nil))))))
        (pss_cons (ps_expr (pe_bm PySem.F.plainAttrs_list PySem.F.slot_list_append PySem.F.type_list_append mt_append (pv 3) (pa_cons (pe_op op_catA (pe_slice sl_tupA (pv 1) (po_some (pv 2)) po_none) (pe_slice sl_tupA (pv 1) po_none (po_some (pv 2)))) pa_nil)))
        (pss_cons (ps_set (i := 4) sc__law_bent.nd rfl (.inl rfl) (pe_slice sl_tupA (pv 1) (po_some (pv 2)) (po_some (pe_op op_add (pv 2) pe_int))))
        (pss_cons (ps_expr (pe_bm PySem.F.plainAttrs_list PySem.F.slot_list_append PySem.F.type_list_append mt_append (pv 3) (pa_cons (pe_op op_catA (pe_op op_catA (pe_slice sl_tupA (pv 1) po_none (po_some (pv 2))) (pv 4)) (pe_slice sl_tupA (pv 1) (po_some (pv 2)) po_none)) pa_nil)))
        (pss_one (ps_expr (pe_bm PySem.F.plainAttrs_list PySem.F.slot_list_append PySem.F.type_list_append mt_append (pv 3) (pa_cons (pe_op op_catA (pe_slice sl_tupA (pv 1) po_none (po_some (pv 2))) (pe_slice sl_tupA (pv 1) (po_some (pe_op op_add (pv 2) pe_int)) po_none)) pa_nil))))))))))
      (pss_one (ps_if (pt_val (pe_callB call_isi (by rfl) bi.m_isinstance (by decide +kernel) (pa_cons (pv 1) (pa_cons (pe_bltn (v := .ty "int") (by rfl) bi.m_int (by decide +kernel) rfl) pa_nil))))
          (pss_cons (ps_set (i := 3) sc__law_bent.nd rfl (.inl rfl) (pe_op op_cat (pv 3) (pe_lst (pa_cons (pe_op op_addN (pv 1) pe_int) (pa_cons (pe_op op_subN (pv 1) pe_int) (pa_cons (pe_op op_subR pe_int (pv 1)) (pa_cons (pe_callTy call_str_num (by rfl) bi.m_str (by decide +kernel) (pa_cons (pv 1) pa_nil)) pa_nil)))))))
            (pss_one (ps_set (i := 3) sc__law_bent.nd rfl (.inl rfl) (pe_op op_cat (pv 3) (pe_lst (pa_cons (pe_callTy call_bool1 (by rfl) bi.m_bool (by decide +kernel) (pa_cons (pv 1) pa_nil)) (pa_cons (pe_op op_addN (pv 1) pe_int) (pa_cons (pe_op op_subN (pv 1) pe_int) pa_nil))))))))
          pss_nil)))
    (pss_one (ps_ret (pe_ix ix_list (pv 3) (pe_call (C__law_take.G.mono (by omega)) hr (by rfl) C__law_take.g C__law_take.kp C__law_take.b .nil pass0 (pa_cons (pv 0) (pa_cons (pe_callB call_len_seq (by rfl) bi.m_len (by decide +kernel) (pa_cons (pv 3) pa_nil)) pa_nil))) (fun _ _ => rfl))))))), ?_⟩
      have q1 : ∀ H' u b' n', PotB H' p → Keep p p H H' → DV (B + 1) p p [] H' u b' n' → b' ≤ 3 * b + 400 → n' ≤ n + 1 → Q u H' := fun H' u b' n' h1 h2 h3 h4 h5 => q H' u h1 h2 (h3.up (Int.le_refl _) h4 h5)
      -- within
      refine ⟨fun σ' H' => σ' = [some (.ref p), some v, none, none, none] ∧ PotB H' p ∧ Keep p p H H', ?_, fun σ' H' hm => ?_⟩
      · obtain ⟨d, dd, hdb, hdn⟩ := hv
        obtain ⟨T1, h1, e1⟩ := isi_tup (K := K) dd.th
        refine ⟨_, rfl, _, _, _, _, _, rfl, ClsV.ty "tuple", h1, e1, _, rfl, ?_⟩
        by_cases ht : (thD d).isT = true
        rotate_left
        · rw [Bool.eq_false_iff.mpr ht]
          exact iteF ⟨rfl, hp, Keep.refl⟩
        rw [ht]
        refine iteT ?_
        obtain ⟨ds, rfl⟩ := thD_tup ht
        obtain ⟨a, vs, m, rfl, na, _, hnm, hds, hseq⟩ := dd.seq hdb hdn rfl
        have ea : H a = some (.tup vs) := by
          rcases hseq with h | h
          · exact h.2
          · exact absurd (show true = false from h.1) (by decide)
        refine ⟨_, rfl, Nat.zero_le _, fun Z nZ => ?_⟩
        have sZ : Same H (upd H Z (.tup [])) := same_new (Same.refl _) nZ
        have eZ : upd H Z (.tup []) Z = some (.tup []) := upd_same
        have hpZ := hp.same sZ
        generalize upd H Z (.tup []) = H1 at sZ eZ hpZ
        refine ⟨a, Z, vs, rfl, rfl, SqT.of (sZ _ _ ea), SqT.of eZ, _, rfl, ?_⟩
        cases vs with
        | nil => exact iteF ⟨rfl, hpZ, Same.keep sZ⟩
        | cons x0 r0 =>
          refine iteT ?_
          refine ⟨_, rfl, p, 4, rfl, hpZ, wdiv (by omega) (by omega), fun d4 H2 d40 d41 hp2 k2 => ?_⟩
          have k02 := (Same.keep (p := p) (l := p) sZ).trans k2
          refine ⟨_, _, rfl, rfl, _, rfl, ite2 (fun _ => ?_) (fun _ => ⟨rfl, hp2, k02⟩)⟩
          have hvl := hds.len
          have hvl0 : 0 < (x0 :: r0).length := Nat.succ_pos _
          have ea2 := k02 _ _ na na ea
          have hds2 := hds.mono k02
          generalize x0 :: r0 = vs at hds hds2 ea ea2 hvl hvl0
          refine ⟨_, rfl, _, rfl, a, vs, rfl, .inr (SqT.of ea2), p, _, rfl, hp2, wdiv (by omega) (by omega), fun dj H3 dj0 dj1 hp3 k3 => ?_⟩
          obtain ⟨j, rfl⟩ : ∃ j : Nat, dj = j := ⟨dj.toNat, by omega⟩
          have hj : j < vs.length := by omega
          have ea3 := k3 _ _ na na ea2
          have hds3 := hds2.mono k3
          have ex := List.getElem?_eq_getElem hj
          generalize vs[j] = x at ex
          refine ⟨_, rfl, _, rfl, _, rfl, slA ea3 fun H4 A1 s4 eA1 => ?_⟩
          rw [cut_take] at eA1
          have hp4 := hp3.same s4
          obtain ⟨c, hc1, hc2, hc3⟩ := hds3.set (b' := 3 * b + 400) (n' := m + 1) ex
          refine ⟨_, rfl, _, rfl, _, rfl, a, _, (j : Int), x, rfl, rfl, SqT.of (s4 _ _ ea3), atI_nat ex, ?_⟩
          refine ⟨p, B, x, c, m, rfl, hp4, hB9, hB, hc1.mono (Same.keep s4), by omega, by omega, fun H5 u hp5 k5 du => ?_⟩
          refine ⟨(by show 1 ≤ sizeLine; decide), fun t nt => ?_⟩
          have st : Same H5 (upd H5 t (.tup [u])) := same_new (Same.refl _) nt
          have et : upd H5 t (.tup [u]) t = some (.tup [u]) := upd_same
          have hp6 := hp5.same st
          generalize upd H5 t (.tup [u]) = H6 at st et hp6
          have nA1 := hp4.notP eA1
          refine catA (st _ _ (k5 _ _ nA1 nA1 eA1)) et (Nat.le_of_lt (small2000 ?_)) fun H7 A2 s7 eA2 => ?_
          · rw [List.length_take]
            show min j vs.length + 1 ≤ 5000
            omega
          have k47 := (k5.trans (Same.keep st)).trans (Same.keep s7)
          have ea7 := k47 _ _ na na (s4 _ _ ea3)
          refine ⟨_, rfl, _, rfl, _, _, rfl, rfl, _, rfl, ?_⟩
          dsimp only [tNoPart]
          refine slA ea7 fun H8 A3 s8 eA3 => ?_
          have eA3 : H8 A3 = some (.tup (cutV vs (some ((j : Int) + 1)) none)) := eA3
          rw [show (j : Int) + 1 = ((j + 1 : Nat) : Int) by omega, cut_drop _ _ (by omega)] at eA3
          refine catA (s8 _ _ eA2) eA3 (Nat.le_of_lt (small2000 ?_)) fun H9 R s9 eR => ?_
          · rw [List.length_append, List.length_take, List.length_drop]
            show min j vs.length + 1 + (vs.length - (j + 1)) ≤ 5000
            omega
          have hset : vs.take j ++ [u] ++ vs.drop (j + 1) = vs.set j u := by
            rw [List.set_eq_take_append_cons_drop, if_pos hj, List.append_assoc]
            rfl
          rw [hset] at eR
          have s69 := s7.trans (s8.trans s9)
          have hp9 := hp6.same s69
          have k39 : Keep p p H3 H9 := (((Same.keep s4).trans k5).trans (Same.keep st)).trans (Same.keep s69)
          have hfin := hc3 (B + 1) H9 u (by omega) k39 (Nat.le_succ _) (du.mono ((Same.keep st).trans (Same.keep s69))) (Nat.le_refl _)
          have nR := hp9.notP eR
          exact q1 H9 (.ref R) _ _ hp9 ((k02.trans k3).trans k39) (hfin.tup nR nR List.not_mem_nil eR) (Nat.le_refl _) (by omega)
      obtain ⟨rfl, hp0, k0⟩ := hm
      have hv0 := hv.mono k0
      -- what is there at hand
      refine ⟨Nat.zero_le _, fun a1 n1 => ?_⟩
      have t1 : DV (B + 1) p p [] (upd H' a1 (.tup [])) (.ref a1) 0 1 := DVs.nil.tup (hp0.fresh n1) (hp0.fresh n1) List.not_mem_nil upd_same
      have s1' : Same H' (upd H' a1 (.tup [])) := same_new (Same.refl _) n1
      have hp1 := hp0.same s1'
      generalize upd H' a1 (.tup []) = H1 at t1 s1' hp1
      refine ⟨_, rfl, (by show 1 ≤ sizeLine; decide), fun a2 n2 => ?_⟩
      have t2 : DV (B + 1) p p [] (upd H1 a2 (.tup [.int 0])) (.ref a2) 1 1 := (DVs.one (DV.int (b := 0) (k := 0) (by omega) (by omega))).tup (hp1.fresh n2) (hp1.fresh n2) List.not_mem_nil upd_same
      have s2' : Same H1 (upd H1 a2 (.tup [.int 0])) := same_new (Same.refl _) n2
      have hp2 := hp1.same s2'
      generalize upd H1 a2 (.tup [.int 0]) = H2 at t2 s2' hp2
      have hv2 := (hv0.mono (Same.keep s1')).mono (Same.keep s2')
      refine ⟨_, rfl, (by show 1 ≤ sizeLine; decide), fun a3 n3 => ?_⟩
      have t3 : DV B p p [] (upd H2 a3 (.lst [v])) (.ref a3) (b + 1) (n + 1) := (DVs.one (hv2.mono (Keep.refl.new n3))).lst (hp2.fresh n3) (hp2.fresh n3) List.not_mem_nil upd_same
      have s3' : Same H2 (upd H2 a3 (.lst [v])) := same_new (Same.refl _) n3
      have hp3 := hp2.same s3'
      generalize upd H2 a3 (.lst [v]) = H3 at t3 s3' hp3
      have hv3 := hv2.mono (Same.keep s3')
      refine ⟨_, rfl, (by show 1 ≤ sizeLine; decide), fun a4 n4 => ?_⟩
      have t4 : DV B p p [] (upd H3 a4 (.tup [v])) (.ref a4) (b + 1) (n + 1) := (DVs.one (hv3.mono (Keep.refl.new n4))).tup (hp3.fresh n4) (hp3.fresh n4) List.not_mem_nil upd_same
      have s4' : Same H3 (upd H3 a4 (.tup [v])) := same_new (Same.refl _) n4
      have hp4 := hp3.same s4'
      generalize upd H3 a4 (.tup [v]) = H4 at t4 s4' hp4
      refine fun a5 n5 => ?_
      have t5 : DV (B + 1) p p [] (upd H4 a5 (.dK [])) (.ref a5) 0 1 := ⟨.dict [], .dic0 (hp4.fresh n5) (hp4.fresh n5) List.not_mem_nil upd_same, Nat.le_refl _, by decide⟩
      have s5' : Same H4 (upd H4 a5 (.dK [])) := same_new (Same.refl _) n5
      have hp5 := hp4.same s5'
      refine ⟨(by show 14 ≤ sizeLine; decide), fun S nS => ?_⟩
      have s45 := s4'.trans s5'
      have s35 := s3'.trans s45
      have s25 := s2'.trans s35
      have hlot : Lot (B + 1) p [] (upd (upd H4 a5 (.dK [])) S (.lst [.non, .bl true, .bl false, .str (Str.ofString "0"), .ref a1, .int (-1), .int 0, .int 1, .int 2, .int 10, .ref a2, .ref a3, .ref a4, .ref a5])) S [.non, .bl true, .bl false, .str (Str.ofString "0"), .ref a1, .int (-1), .int 0, .int 1, .int 2, .int 10, .ref a2, .ref a3, .ref a4, .ref a5] (3 * b + 400) (n + 1) := by
        refine ⟨upd_same, hp5.fresh nS, fun w hw => DV.mono ?_ (Keep.refl.new nS)⟩
        simp only [List.mem_cons, List.not_mem_nil, or_false] at hw
        rcases hw with rfl | rfl | rfl | rfl | rfl | rfl | rfl | rfl | rfl | rfl | rfl | rfl | rfl | rfl
        · exact DV.non
        · exact DV.bl
        · exact DV.bl
        · exact DV.str (by decide) (Nat.le_trans (show ("0" : String).length ≤ 1 by decide) (by omega))
        · exact (t1.mono (Same.keep s25)).up (Int.le_refl _) (by omega) (by omega)
        · exact DV.int (by omega) (by omega)
        · exact DV.int (by omega) (by omega)
        · exact DV.int (by omega) (by omega)
        · exact DV.int (by omega) (by omega)
        · exact DV.int (by omega) (by omega)
        · exact (t2.mono (Same.keep s35)).up (Int.le_refl _) (by omega) (by omega)
        · exact (t3.mono (Same.keep s45)).up (by omega) (by omega) (Nat.le_refl _)
        · exact (t4.mono (Same.keep s5')).up (by omega) (by omega) (Nat.le_refl _)
        · exact (t5).up (Int.le_refl _) (by omega) (by omega)
      have nSH : H S = none := k0.freeB hp0 ((s1'.trans s25).free nS)
      have k06 : Keep p p H (upd (upd H4 a5 (.dK [])) S (.lst [.non, .bl true, .bl false, .str (Str.ofString "0"), .ref a1, .int (-1), .int 0, .int 1, .int 2, .int 10, .ref a2, .ref a3, .ref a4, .ref a5])) := (k0.trans (Same.keep (s1'.trans s25))).new nS
      have hp6 : PotB (upd (upd H4 a5 (.dK [])) S (.lst [.non, .bl true, .bl false, .str (Str.ofString "0"), .ref a1, .int (-1), .int 0, .int 1, .int 2, .int 10, .ref a2, .ref a3, .ref a4, .ref a5])) p := hp5.new nS
      obtain ⟨ws, ews, hwl⟩ : ∃ ws, [V.non, .bl true, .bl false, .str (Str.ofString "0"), .ref a1, .int (-1), .int 0, .int 1, .int 2, .int 10, .ref a2, .ref a3, .ref a4, .ref a5] = ws ∧ ws.length = 14 := ⟨_, rfl, rfl⟩
      rw [ews] at hlot k06 hp6
      show C8.tCut _ _ _ _ (upd (upd H4 a5 (.dK [])) S (.lst [V.non, .bl true, .bl false, .str (Str.ofString "0"), .ref a1, .int (-1), .int 0, .int 1, .int 2, .int 10, .ref a2, .ref a3, .ref a4, .ref a5]))
      rw [ews]
      generalize upd (upd H4 a5 (.dK [])) S (.lst ws) = H6 at hlot k06 hp6
      clear t1 t2 t3 t4 t5
      -- more of them
      refine ⟨fun σ' H' => ∃ (x2 x4 : Option V) (S : Addr) (ws : List V), σ' = [some (.ref p), some v, x2, some (.ref S), x4] ∧ PotB H' p ∧ Keep p p H H' ∧ Lot (B + 1) p [] H' S ws (3 * b + 400) (n + 1) ∧ 1 ≤ ws.length ∧ ws.length ≤ 40, ?_, fun σ' H' hm => ?_⟩
      rotate_left
      · obtain ⟨x2, x4, S, ws, rfl, hpF, kF, hL, hl1, hl2⟩ := hm
        refine ⟨_, rfl, _, rfl, _, rfl, S, ws, rfl, .inl (SqL.of hL.1), p, _, rfl, hpF, wdiv (by omega) (by omega), fun g H7 g0 g1 hp7 k7 => ?_⟩
        obtain ⟨j, rfl⟩ : ∃ j : Nat, g = j := ⟨g.toNat, by omega⟩
        have hj : j < ws.length := by omega
        have hL7 := hL.keep k7
        refine ⟨S, ws, _, ws[j], rfl, rfl, SqL.of hL7.1, atI_nat (List.getElem?_eq_getElem hj), ?_⟩
        exact q H7 _ hp7 (kF.trans k7) (hL7.2.2 _ (List.getElem_mem hj))
      have hv6 := hv.mono k06
      obtain ⟨d, dd, hdb, hdn⟩ := hv6
      have dd0 := dd
      obtain ⟨T1, h1, e1⟩ := isi_tup (K := K) dd.th
      refine ⟨_, rfl, _, _, _, _, _, rfl, ClsV.ty "tuple", h1, e1, _, rfl, ?_⟩
      by_cases ht : (thD d).isT = true
      rotate_left
      · rw [Bool.eq_false_iff.mpr ht]
        refine iteF ?_
        obtain ⟨Ti, hi, ki⟩ := isi_int (K := K) dd.th
        refine ⟨_, rfl, _, _, _, _, _, rfl, ClsV.ty "int", hi, ki, _, rfl, ?_⟩
        have num : (thD d).isI = true → ∃ i z, nv v = some i ∧ -B ≤ i ∧ i ≤ B ∧ (((∃ i : Int, [v] = [.int i] ∧ i.natAbs.log2 < 1920 ∧ z = toString i) ∨ ∃ b : Bool, [v] = [.bl b] ∧ z = (if b then "True" else "False"))) ∧ z.length ≤ 260 ∧ ((∃ i : Int, v = .int i) ∨ ∃ k : Bool, v = .bl k) := fun h => by
          cases dd with
          | int m u1 u2 =>
            have hl := log_small (m := m) (by omega) (by omega)
            have hl2 : m.natAbs.log2 < 250 := by
              by_cases c : m.natAbs = 0
              · rw [c]
                decide
              · rw [Nat.log2_lt c]
                omega
            exact ⟨m, toString m, rfl, u1, u2, .inl ⟨m, rfl, by omega, rfl⟩, Nat.le_trans (int_text_length_le (by decide) hl2) (by decide), .inl ⟨m, rfl⟩⟩
          | bl c => exact ⟨_, _, rfl, by split <;> omega, by split <;> omega, .inr ⟨c, rfl, rfl⟩, by cases c <;> decide, .inr ⟨c, rfl⟩⟩
          | non => cases h
          | str z hz => cases h
          | dic0 a b y c => cases h
          | dic1 a b y c => cases h
          | lst a b y c e f => cases h
          | tup a b y c e f => cases h
        refine ite2 (fun e => ?_) (fun _ => ⟨_, _, S, ws, rfl, hp6, k06, hlot, by omega, by omega⟩)
        obtain ⟨i, zt, hnv, iB0, iB1, hz, hzl, hcb⟩ := num e
        refine ⟨_, rfl, _, rfl, i, 1, hnv, rfl, _, rfl, i, 1, hnv, rfl, _, rfl, 0, i, rfl, hnv, _, rfl, zt, hz, (by show 4 ≤ sizeLine; decide), fun L1 nL1 => ?_⟩
        have sL1 : Same H6 (upd H6 L1 (.lst [.int (i + 1), .int (i - 1), .int (0 - i), .str (Str.ofString zt)])) := same_new (Same.refl _) nL1
        have eL1 : upd H6 L1 (.lst [.int (i + 1), .int (i - 1), .int (0 - i), .str (Str.ofString zt)]) L1 = some (.lst [.int (i + 1), .int (i - 1), .int (0 - i), .str (Str.ofString zt)]) := upd_same
        have hp7 := hp6.same sL1
        have hl7 := hlot.same sL1
        generalize upd H6 L1 (.lst [.int (i + 1), .int (i - 1), .int (0 - i), .str (Str.ofString zt)]) = H7 at sL1 eL1 hp7 hl7
        refine ⟨S, L1, _, _, rfl, rfl, hl7.1, eL1, Nat.le_of_lt (small1000 (by rw [hwl]; show 14 + 4 ≤ 1000; decide)), fun S2 nS2 => ?_⟩
        have sS2 : Same H7 (upd H7 S2 (.lst (ws ++ [.int (i + 1), .int (i - 1), .int (0 - i), .str (Str.ofString zt)]))) := same_new (Same.refl _) nS2
        have eS2 : upd H7 S2 (.lst (ws ++ [.int (i + 1), .int (i - 1), .int (0 - i), .str (Str.ofString zt)])) S2 = some (.lst (ws ++ [.int (i + 1), .int (i - 1), .int (0 - i), .str (Str.ofString zt)])) := upd_same
        have hp8 := hp7.same sS2
        generalize upd H7 S2 (.lst (ws ++ [.int (i + 1), .int (i - 1), .int (0 - i), .str (Str.ofString zt)])) = H8 at sS2 eS2 hp8
        refine ⟨_, rfl, _, rfl, ?_⟩
        rcases hcb with ⟨i', hv1⟩ | ⟨cb, hv1⟩
        · refine .inl ⟨i', by rw [hv1], ?_⟩
          generalize (i' != 0) = cb
          refine ⟨_, rfl, i, 1, hnv, rfl, _, rfl, i, 1, hnv, rfl, (by show 3 ≤ sizeLine; decide), fun L2 nL2 => ?_⟩
          have sL2 : Same H8 (upd H8 L2 (.lst [.bl cb, .int (i + 1), .int (i - 1)])) := same_new (Same.refl _) nL2
          have eL2 : upd H8 L2 (.lst [.bl cb, .int (i + 1), .int (i - 1)]) L2 = some (.lst [.bl cb, .int (i + 1), .int (i - 1)]) := upd_same
          have hp9 := hp8.same sL2
          generalize upd H8 L2 (.lst [.bl cb, .int (i + 1), .int (i - 1)]) = H9 at sL2 eL2 hp9
          refine ⟨S2, L2, _, _, rfl, rfl, sL2 _ _ eS2, eL2, Nat.le_of_lt (small1000 (by rw [List.length_append, hwl]; show 14 + 4 + 3 ≤ 1000; decide)), fun S3 nS3 => ?_⟩
          have s69 := (sL1.trans sS2).trans sL2
          have sS3 : Same H9 (upd H9 S3 (.lst (ws ++ [.int (i + 1), .int (i - 1), .int (0 - i), .str (Str.ofString zt)] ++ [.bl cb, .int (i + 1), .int (i - 1)]))) := same_new (Same.refl _) nS3
          refine ⟨_, _, S3, ws ++ [.int (i + 1), .int (i - 1), .int (0 - i), .str (Str.ofString zt)] ++ [.bl cb, .int (i + 1), .int (i - 1)], rfl, hp9.same sS3, (k06.trans (Same.keep s69)).trans (Same.keep sS3), ⟨upd_same, hp9.fresh nS3, fun w hw => ?_⟩, ?_, ?_⟩
          · rcases List.mem_append.mp hw with hw | hw
            · rcases List.mem_append.mp hw with hw | hw
              · exact ((hlot.2.2 w hw).mono (Same.keep s69)).mono (Same.keep sS3)
              · simp only [List.mem_cons, List.not_mem_nil, or_false] at hw
                rcases hw with rfl | rfl | rfl | rfl
                · exact DV.int (by omega) (by omega)
                · exact DV.int (by omega) (by omega)
                · exact DV.int (by omega) (by omega)
                · exact DV.str hzl (by omega)
            · simp only [List.mem_cons, List.not_mem_nil, or_false] at hw
              rcases hw with rfl | rfl | rfl
              · exact DV.bl
              · exact DV.int (by omega) (by omega)
              · exact DV.int (by omega) (by omega)
          · rw [List.length_append, List.length_append, hwl]
            show 1 ≤ 14 + 4 + 3
            decide
          · rw [List.length_append, List.length_append, hwl]
            show 14 + 4 + 3 ≤ 40
            decide
        · refine .inr ⟨cb, by rw [hv1], ?_⟩
          refine ⟨_, rfl, i, 1, hnv, rfl, _, rfl, i, 1, hnv, rfl, (by show 3 ≤ sizeLine; decide), fun L2 nL2 => ?_⟩
          have sL2 : Same H8 (upd H8 L2 (.lst [.bl cb, .int (i + 1), .int (i - 1)])) := same_new (Same.refl _) nL2
          have eL2 : upd H8 L2 (.lst [.bl cb, .int (i + 1), .int (i - 1)]) L2 = some (.lst [.bl cb, .int (i + 1), .int (i - 1)]) := upd_same
          have hp9 := hp8.same sL2
          generalize upd H8 L2 (.lst [.bl cb, .int (i + 1), .int (i - 1)]) = H9 at sL2 eL2 hp9
          refine ⟨S2, L2, _, _, rfl, rfl, sL2 _ _ eS2, eL2, Nat.le_of_lt (small1000 (by rw [List.length_append, hwl]; show 14 + 4 + 3 ≤ 1000; decide)), fun S3 nS3 => ?_⟩
          have s69 := (sL1.trans sS2).trans sL2
          have sS3 : Same H9 (upd H9 S3 (.lst (ws ++ [.int (i + 1), .int (i - 1), .int (0 - i), .str (Str.ofString zt)] ++ [.bl cb, .int (i + 1), .int (i - 1)]))) := same_new (Same.refl _) nS3
          refine ⟨_, _, S3, ws ++ [.int (i + 1), .int (i - 1), .int (0 - i), .str (Str.ofString zt)] ++ [.bl cb, .int (i + 1), .int (i - 1)], rfl, hp9.same sS3, (k06.trans (Same.keep s69)).trans (Same.keep sS3), ⟨upd_same, hp9.fresh nS3, fun w hw => ?_⟩, ?_, ?_⟩
          · rcases List.mem_append.mp hw with hw | hw
            · rcases List.mem_append.mp hw with hw | hw
              · exact ((hlot.2.2 w hw).mono (Same.keep s69)).mono (Same.keep sS3)
              · simp only [List.mem_cons, List.not_mem_nil, or_false] at hw
                rcases hw with rfl | rfl | rfl | rfl
                · exact DV.int (by omega) (by omega)
                · exact DV.int (by omega) (by omega)
                · exact DV.int (by omega) (by omega)
                · exact DV.str hzl (by omega)
            · simp only [List.mem_cons, List.not_mem_nil, or_false] at hw
              rcases hw with rfl | rfl | rfl
              · exact DV.bl
              · exact DV.int (by omega) (by omega)
              · exact DV.int (by omega) (by omega)
          · rw [List.length_append, List.length_append, hwl]
            show 1 ≤ 14 + 4 + 3
            decide
          · rw [List.length_append, List.length_append, hwl]
            show 14 + 4 + 3 ≤ 40
            decide
      rw [ht]
      refine iteT ?_
      obtain ⟨ds, rfl⟩ := thD_tup ht
      obtain ⟨a, vs, m, rfl, na, _, hnm, hds, hseq⟩ := dd.seq hdb hdn rfl
      have ea : H6 a = some (.tup vs) := by
        rcases hseq with h | h
        · exact h.2
        · exact absurd (show true = false from h.1) (by decide)
      have hvl := hds.len
      refine ⟨_, rfl, _, rfl, a, vs, rfl, .inr (SqT.of ea), _, _, rfl, rfl, p, _, rfl, hp6, wdiv (by omega) (by omega), fun dj H7 dj0 dj1 hp7 k7 => ?_⟩
      obtain ⟨j, rfl⟩ : ∃ j : Nat, dj = j := ⟨dj.toNat, by omega⟩
      have hj : j ≤ vs.length := by omega
      have ea7 := k7 _ _ na na ea
      have hds7 := hds.mono k7
      have hl7 := hlot.keep k7
      have k07 := k06.trans k7
      -- four of them
      refine ⟨_, rfl, _, rfl, a, vs, rfl, .inr (SqT.of ea7), fun l1 nl1 => ?_⟩
      have sl1 : Same H7 (upd H7 l1 (.lst vs)) := same_new (Same.refl _) nl1
      have dl1 : DV B p p [] (upd H7 l1 (.lst vs)) (.ref l1) b (m + 1) := (hds7.mono (Same.keep sl1)).lst (hp7.fresh nl1) (hp7.fresh nl1) List.not_mem_nil upd_same
      have hp8 := hp7.same sl1
      show tCons _ _ _ (upd H7 l1 (.lst vs)) _
      generalize upd H7 l1 (.lst vs) = H8 at sl1 dl1 hp8
      have ea8 := sl1 _ _ ea7
      refine ⟨_, rfl, _, rfl, ?_⟩
      dsimp only [tNoPart]
      refine slA ea8 fun H9 A1 s9 eA1 => ?_
      have hp9 := hp8.same s9
      have s79 := sl1.trans s9
      have dA1 : DV B p p [] H9 (.ref A1) b (m + 1) := ((hds7.mono (Same.keep s79)).cut _ _).tup (hp9.notP eA1) (hp9.notP eA1) List.not_mem_nil eA1
      refine ⟨_, rfl, 1, rfl, _, rfl, slA (s9 _ _ ea8) fun H10 A2 s10 eA2 => ?_⟩
      have hp10 := hp9.same s10
      have s710 := s79.trans s10
      have dA2 : DV B p p [] H10 (.ref A2) b (m + 1) := ((hds7.mono (Same.keep s710)).cut _ _).tup (hp10.notP eA2) (hp10.notP eA2) List.not_mem_nil eA2
      refine ⟨_, rfl, a, vs, rfl, SqT.of (s710 _ _ ea7), fun r1 nr1 => ?_⟩
      have sr1 : Same H10 (upd H10 r1 (.tup vs.reverse)) := same_new (Same.refl _) nr1
      have dr1 : DV B p p [] (upd H10 r1 (.tup vs.reverse)) (.ref r1) b (m + 1) := ((hds7.mono (Same.keep (s710.trans sr1))).rev).tup (hp10.fresh nr1) (hp10.fresh nr1) List.not_mem_nil upd_same
      have hp11 := hp10.same sr1
      generalize upd H10 r1 (.tup vs.reverse) = H11 at sr1 dr1 hp11
      refine ⟨(by show 4 ≤ sizeLine; decide), fun L1 nL1 => ?_⟩
      have sL1 : Same H11 (upd H11 L1 (.lst [.ref l1, .ref A1, .ref A2, .ref r1])) := same_new (Same.refl _) nL1
      have eL1 : upd H11 L1 (.lst [.ref l1, .ref A1, .ref A2, .ref r1]) L1 = some (.lst [.ref l1, .ref A1, .ref A2, .ref r1]) := upd_same
      have hp12 := hp11.same sL1
      generalize upd H11 L1 (.lst [.ref l1, .ref A1, .ref A2, .ref r1]) = H12 at sL1 eL1 hp12
      have s712 := (s710.trans sr1).trans sL1
      refine ⟨S, L1, _, _, rfl, rfl, s712 _ _ hl7.1, eL1, Nat.le_of_lt (small1000 (by rw [hwl]; show 14 + 4 ≤ 1000; decide)), fun S2 nS2 => ?_⟩
      obtain ⟨ws2, ews2⟩ : ∃ ws2, ws ++ [V.ref l1, .ref A1, .ref A2, .ref r1] = ws2 := ⟨_, rfl⟩
      have hw2l : ws2.length = 18 := by
        rw [← ews2, List.length_append, hwl]
        rfl
      have hw2 : ∀ w ∈ ws2, DV (B + 1) p p [] H12 w (3 * b + 400) (n + 1) := fun w hw => by
        rw [← ews2] at hw
        rcases List.mem_append.mp hw with hw | hw
        · exact (hl7.2.2 w hw).mono (Same.keep s712)
        · simp only [List.mem_cons, List.not_mem_nil, or_false] at hw
          rcases hw with rfl | rfl | rfl | rfl
          · exact (dl1.mono (Same.keep (((s9.trans s10).trans sr1).trans sL1))).up (by omega) (by omega) (by omega)
          · exact (dA1.mono (Same.keep ((s10.trans sr1).trans sL1))).up (by omega) (by omega) (by omega)
          · exact (dA2.mono (Same.keep (sr1.trans sL1))).up (by omega) (by omega) (by omega)
          · exact (dr1.mono (Same.keep sL1)).up (by omega) (by omega) (by omega)
      rw [ews2]
      have sS2 : Same H12 (upd H12 S2 (.lst ws2)) := same_new (Same.refl _) nS2
      have eS2 : upd H12 S2 (.lst ws2) S2 = some (.lst ws2) := upd_same
      have hp13 := hp12.same sS2
      have hw2 : ∀ w ∈ ws2, DV (B + 1) p p [] (upd H12 S2 (.lst ws2)) w (3 * b + 400) (n + 1) := fun w hw => (hw2 w hw).mono (Same.keep sS2)
      generalize upd H12 S2 (.lst ws2) = H13 at sS2 eS2 hp13 hw2
      have s713 := s712.trans sS2
      -- three of them
      refine ⟨_, rfl, _, rfl, (by show 1 ≤ sizeLine; decide), fun z1 nz1 => ?_⟩
      have sz1 : Same H13 (upd H13 z1 (.tup [.int 0])) := same_new (Same.refl _) nz1
      have ez1 : upd H13 z1 (.tup [.int 0]) z1 = some (.tup [.int 0]) := upd_same
      generalize upd H13 z1 (.tup [.int 0]) = H14 at sz1 ez1
      have zero : ∀ H', DVs B p p [] H' [.int 0] 1 m := fun H' => DVs.one (DV.int (b := 0) (by omega) (by omega))
      refine catA (sz1 _ _ (s713 _ _ ea7)) ez1 (Nat.le_of_lt (small2000 (by show vs.length + 1 ≤ 5000; omega))) fun H15 B1 s15 eB1 => ?_
      have s715 := (s713.trans sz1).trans s15
      have hp15 := hp7.same s715
      have dB1 : DV B p p [] H15 (.ref B1) (b + 1) (m + 1) := ((hds7.mono (Same.keep s715)).app (zero _)).tup (hp15.notP eB1) (hp15.notP eB1) List.not_mem_nil eB1
      refine ⟨(by show 1 ≤ sizeLine; decide), fun z2 nz2 => ?_⟩
      have sz2 : Same H15 (upd H15 z2 (.tup [.int 0])) := same_new (Same.refl _) nz2
      have ez2 : upd H15 z2 (.tup [.int 0]) z2 = some (.tup [.int 0]) := upd_same
      generalize upd H15 z2 (.tup [.int 0]) = H16 at sz2 ez2
      refine ⟨_, rfl, catA ez2 (sz2 _ _ (s715 _ _ ea7)) (Nat.le_of_lt (small2000 (by show 1 + vs.length ≤ 5000; omega))) fun H17 B2 s17 eB2 => ?_⟩
      have s717 := (s715.trans sz2).trans s17
      have hp17 := hp7.same s717
      have dB2 : DV B p p [] H17 (.ref B2) (1 + b) (m + 1) := ((zero _).app (hds7.mono (Same.keep s717))).tup (hp17.notP eB2) (hp17.notP eB2) List.not_mem_nil eB2
      have dB1 := dB1.mono (Same.keep (sz2.trans s17))
      have s1317 := ((sz1.trans s15).trans sz2).trans s17
      refine ⟨_, rfl, a, 2, vs, rfl, rfl, SqT.of (s717 _ _ ea7), by decide, by decide, by omega, fun _ => ?_, fun _ R nR => ?_⟩
      · have hT : DV B p p [] H17 (.ref a) (2 * b) (m + 1) := ((hds7.mono (Same.keep s717)).tup na na List.not_mem_nil (s717 _ _ ea7)).up (Int.le_refl _) (by omega) (Nat.le_refl _)
        have sT : Same H17 H17 := Same.refl _
        refine ⟨(by show 3 ≤ sizeLine; decide), fun L2 nL2 => ?_⟩
        have sL2 : Same H17 (upd H17 L2 (.lst [.ref B1, .ref B2, .ref a])) := same_new (Same.refl _) nL2
        have eL2 : upd H17 L2 (.lst [.ref B1, .ref B2, .ref a]) L2 = some (.lst [.ref B1, .ref B2, .ref a]) := upd_same
        generalize upd H17 L2 (.lst [.ref B1, .ref B2, .ref a]) = H19 at sL2 eL2
        have s1319 := (s1317.trans sT).trans sL2
        have s719 := (s717.trans sT).trans sL2
        refine ⟨S2, L2, _, _, rfl, rfl, s1319 _ _ eS2, eL2, Nat.le_of_lt (small1000 (by rw [hw2l]; show 18 + 3 ≤ 1000; decide)), fun S3 nS3 => ?_⟩
        obtain ⟨ws3, ews3⟩ : ∃ ws3, ws2 ++ [V.ref B1, .ref B2, .ref a] = ws3 := ⟨_, rfl⟩
        have hw3l : ws3.length = 21 := by
          rw [← ews3, List.length_append, hw2l]
          rfl
        rw [ews3]
        have hw3 : ∀ w ∈ ws3, DV (B + 1) p p [] H19 w (3 * b + 400) (n + 1) := fun w hw => by
          rw [← ews3] at hw
          rcases List.mem_append.mp hw with hw | hw
          · exact (hw2 w hw).mono (Same.keep s1319)
          · simp only [List.mem_cons, List.not_mem_nil, or_false] at hw
            rcases hw with rfl | rfl | rfl
            · exact (dB1.mono (Same.keep (sT.trans sL2))).up (by omega) (by omega) (by omega)
            · exact (dB2.mono (Same.keep (sT.trans sL2))).up (by omega) (by omega) (by omega)
            · exact (hT.mono (Same.keep sL2)).up (by omega) (by omega) (by omega)
        have sS3 : Same H19 (upd H19 S3 (.lst ws3)) := same_new (Same.refl _) nS3
        have hp19 := hp7.same s719
        have hL3 : Lot (B + 1) p [S3] (upd H19 S3 (.lst ws3)) S3 ws3 (3 * b + 400) (n + 1) := ⟨upd_same, hp19.fresh nS3, fun w hw => ((hw3 w hw).off nS3).mono (Same.keep sS3)⟩
        have hdY : DVs B p p [S3] (upd H19 S3 (.lst ws3)) vs b m := ((hds7.mono (Same.keep s719)).off nS3).mono (Same.keep sS3)
        have hp20 := hp19.same sS3
        have nS3p := hp19.fresh nS3
        have nS3H : H S3 = none := (k07.freeB hp7 ((s719).free nS3))
        have s720 := s719.trans sS3
        have k20 := k07.trans (Same.keep s720)
        have ea20 := s720 _ _ ea7
        generalize upd H19 S3 (.lst ws3) = H20 at hL3 hdY hp20 s720 k20 ea20
        -- put to it
        refine ⟨_, rfl, .inl ⟨rfl, _, SqL.of hL3.1⟩, _, rfl, _, rfl, _, rfl, ?_⟩
        dsimp only [tNoPart]
        refine slA ea20 fun H21 C1 s21 eC1 => ⟨_, rfl, _, rfl, _, rfl, slA (s21 _ _ ea20) fun H22 C2 s22 eC2 => ?_⟩
        have hcl1 := ((hdY.cut (some (j : Int)) none).len)
        have hcl2 := ((hdY.cut none (some (j : Int))).len)
        refine catA (s22 _ _ eC1) eC2 (Nat.le_of_lt (small2000 (by omega))) fun H23 C3 s23 eC3 => ?_
        have s2023 := (s21.trans s22).trans s23
        have hL23 := hL3.same s2023
        have hd23 := hdY.mono (Same.keep s2023)
        have hp23 := hp20.same s2023
        have dC3 : DV B p p [S3] H23 (.ref C3) (b + b) (m + 1) := ((hd23.cut _ _).app (hd23.cut _ _)).tup (hp23.notP eC3) (hp23.notP eC3) (tup_ne_lst eC3 hL23.1) eC3
        refine ⟨S3, _, _, rfl, rfl, hL23.1, small1000 (by omega), ?_⟩
        have hL24 := hL23.add (dC3.up (by omega) (by omega) (by omega))
        have hd24 := hd23.putY (o := .lst (ws3 ++ [.ref C3]))
        have hp24 := hp23.other (o := .lst (ws3 ++ [.ref C3])) nS3p
        have k24 := (k20.trans (Same.keep s2023)).mine (o := .lst (ws3 ++ [.ref C3])) nS3H
        have ea24 := Tups.ls (o := .lst (ws3 ++ [.ref C3])) hL23.1 _ _ (s2023 _ _ ea20)
        generalize upd H23 S3 (.lst (ws3 ++ [.ref C3])) = H24 at hL24 hd24 hp24 k24 ea24
        -- twice
        refine ⟨_, rfl, _, rfl, _, rfl, _, rfl, _, _, rfl, rfl, _, rfl, slA ea24 fun H25 E1 s25' eE1 => ?_⟩
        have ea25 := s25' _ _ ea24
        refine ⟨_, rfl, .inl ⟨rfl, _, SqL.of (s25' _ _ hL24.1)⟩, _, rfl, _, rfl, _, rfl, slA ea25 fun H26 F1 s26 eF1 => ?_⟩
        have hcl3 := ((hd24.cut (some (j : Int)) (some ((j : Int) + 1))).len)
        refine ⟨_, rfl, catA eF1 (s26 _ _ eE1) (Nat.le_of_lt (small2000 (by omega))) fun H27 F2 s27 eF2 => ?_⟩
        have ea27 := s27 _ _ (s26 _ _ ea25)
        refine ⟨_, rfl, _, rfl, _, rfl, ?_⟩
        dsimp only [tNoPart]
        refine slA ea27 fun H28 F3 s28 eF3 => catA (s28 _ _ eF2) eF3 (Nat.le_of_lt (small2000 ?_)) fun H29 F4 s29 eF4 => ?_
        · rw [List.length_append]
          omega
        have s2429 := (((s25'.trans s26).trans s27).trans s28).trans s29
        have hL29 := hL24.same s2429
        have hd29 := hd24.mono (Same.keep s2429)
        have hp29 := hp24.same s2429
        have dF4 : DV B p p [S3] H29 (.ref F4) (b + b + b) (m + 1) := (((hd29.cut _ _).app (hd29.cut _ _)).app (hd29.cut _ _)).tup (hp29.notP eF4) (hp29.notP eF4) (tup_ne_lst eF4 hL29.1) eF4
        refine ⟨S3, _, _, rfl, rfl, hL29.1, small1000 (by rw [List.length_append]; show ws3.length + 1 ≤ 1000; omega), ?_⟩
        have hL30 := hL29.add (dF4.up (by omega) (by omega) (by omega))
        have hd30 := hd29.putY (o := .lst (ws3 ++ [.ref C3] ++ [.ref F4]))
        have hp30 := hp29.other (o := .lst (ws3 ++ [.ref C3] ++ [.ref F4])) nS3p
        have k30 := (k24.trans (Same.keep s2429)).mine (o := .lst (ws3 ++ [.ref C3] ++ [.ref F4])) nS3H
        have ea30 := Tups.ls (o := .lst (ws3 ++ [.ref C3] ++ [.ref F4])) hL29.1 _ _ (s2429 _ _ ea24)
        generalize upd H29 S3 (.lst (ws3 ++ [.ref C3] ++ [.ref F4])) = H30 at hL30 hd30 hp30 k30 ea30
        refine ⟨_, rfl, .inl ⟨rfl, _, SqL.of hL30.1⟩, _, rfl, _, rfl, _, rfl, slA ea30 fun H31 G1 s31 eG1 => ?_⟩
        refine ⟨_, rfl, _, rfl, _, _, rfl, rfl, _, rfl, ?_⟩
        dsimp only [tNoPart]
        refine slA (s31 _ _ ea30) fun H32 G2 s32 eG2 => ?_
        have hcl4 := ((hd30.cut (some ((j : Int) + 1)) none).len)
        refine catA (s32 _ _ eG1) eG2 (Nat.le_of_lt (small2000 (by omega))) fun H33 G3 s33 eG3 => ?_
        have s3033 := (s31.trans s32).trans s33
        have hL33 := hL30.same s3033
        have hd33 := hd30.mono (Same.keep s3033)
        have hp33 := hp30.same s3033
        have dG3 : DV B p p [S3] H33 (.ref G3) (b + b) (m + 1) := ((hd33.cut _ _).app (hd33.cut _ _)).tup (hp33.notP eG3) (hp33.notP eG3) (tup_ne_lst eG3 hL33.1) eG3
        refine ⟨S3, _, _, rfl, rfl, hL33.1, small1000 (by rw [List.length_append, List.length_append]; show ws3.length + 1 + 1 ≤ 1000; omega), ?_⟩
        have hL34 := hL33.add (dG3.up (by omega) (by omega) (by omega))
        refine ⟨_, _, S3, _, rfl, hp33.other nS3p, (k30.trans (Same.keep s3033)).mine nS3H, ⟨hL34.1, hL34.2.1, fun w hw => (hL34.2.2 w hw).dropY⟩, ?_, ?_⟩
        · rw [List.length_append, List.length_append, List.length_append, hw3l]
          show 1 ≤ 21 + 1 + 1 + 1
          decide
        · rw [List.length_append, List.length_append, List.length_append, hw3l]
          show 21 + 1 + 1 + 1 ≤ 40
          decide
      · have sT : Same H17 (upd H17 R (.tup (List.replicate (2 : Int).toNat vs).flatten)) := same_new (Same.refl _) nR
        have hT : DV B p p [] (upd H17 R (.tup (List.replicate (2 : Int).toNat vs).flatten)) (.ref R) (2 * b) (m + 1) := by
          have h1 := hds7.mono (Same.keep (s717.trans sT))
          have h2 := (h1.app h1).tup (n := m) (a := R) (hp17.fresh nR) (hp17.fresh nR) List.not_mem_nil (by rw [upd_same]; show _ = some (HO.tup (vs ++ vs)); rw [show (List.replicate (2 : Int).toNat vs).flatten = vs ++ (vs ++ []) from rfl, List.append_nil])
          exact h2.up (Int.le_refl _) (by omega) (Nat.le_refl _)
        generalize upd H17 R (.tup (List.replicate (2 : Int).toNat vs).flatten) = H18 at sT hT
        refine ⟨(by show 3 ≤ sizeLine; decide), fun L2 nL2 => ?_⟩
        have sL2 : Same H18 (upd H18 L2 (.lst [.ref B1, .ref B2, .ref R])) := same_new (Same.refl _) nL2
        have eL2 : upd H18 L2 (.lst [.ref B1, .ref B2, .ref R]) L2 = some (.lst [.ref B1, .ref B2, .ref R]) := upd_same
        generalize upd H18 L2 (.lst [.ref B1, .ref B2, .ref R]) = H19 at sL2 eL2
        have s1319 := (s1317.trans sT).trans sL2
        have s719 := (s717.trans sT).trans sL2
        refine ⟨S2, L2, _, _, rfl, rfl, s1319 _ _ eS2, eL2, Nat.le_of_lt (small1000 (by rw [hw2l]; show 18 + 3 ≤ 1000; decide)), fun S3 nS3 => ?_⟩
        obtain ⟨ws3, ews3⟩ : ∃ ws3, ws2 ++ [V.ref B1, .ref B2, .ref R] = ws3 := ⟨_, rfl⟩
        have hw3l : ws3.length = 21 := by
          rw [← ews3, List.length_append, hw2l]
          rfl
        rw [ews3]
        have hw3 : ∀ w ∈ ws3, DV (B + 1) p p [] H19 w (3 * b + 400) (n + 1) := fun w hw => by
          rw [← ews3] at hw
          rcases List.mem_append.mp hw with hw | hw
          · exact (hw2 w hw).mono (Same.keep s1319)
          · simp only [List.mem_cons, List.not_mem_nil, or_false] at hw
            rcases hw with rfl | rfl | rfl
            · exact (dB1.mono (Same.keep (sT.trans sL2))).up (by omega) (by omega) (by omega)
            · exact (dB2.mono (Same.keep (sT.trans sL2))).up (by omega) (by omega) (by omega)
            · exact (hT.mono (Same.keep sL2)).up (by omega) (by omega) (by omega)
        have sS3 : Same H19 (upd H19 S3 (.lst ws3)) := same_new (Same.refl _) nS3
        have hp19 := hp7.same s719
        have hL3 : Lot (B + 1) p [S3] (upd H19 S3 (.lst ws3)) S3 ws3 (3 * b + 400) (n + 1) := ⟨upd_same, hp19.fresh nS3, fun w hw => ((hw3 w hw).off nS3).mono (Same.keep sS3)⟩
        have hdY : DVs B p p [S3] (upd H19 S3 (.lst ws3)) vs b m := ((hds7.mono (Same.keep s719)).off nS3).mono (Same.keep sS3)
        have hp20 := hp19.same sS3
        have nS3p := hp19.fresh nS3
        have nS3H : H S3 = none := (k07.freeB hp7 ((s719).free nS3))
        have s720 := s719.trans sS3
        have k20 := k07.trans (Same.keep s720)
        have ea20 := s720 _ _ ea7
        generalize upd H19 S3 (.lst ws3) = H20 at hL3 hdY hp20 s720 k20 ea20
        -- put to it
        refine ⟨_, rfl, .inl ⟨rfl, _, SqL.of hL3.1⟩, _, rfl, _, rfl, _, rfl, ?_⟩
        dsimp only [tNoPart]
        refine slA ea20 fun H21 C1 s21 eC1 => ⟨_, rfl, _, rfl, _, rfl, slA (s21 _ _ ea20) fun H22 C2 s22 eC2 => ?_⟩
        have hcl1 := ((hdY.cut (some (j : Int)) none).len)
        have hcl2 := ((hdY.cut none (some (j : Int))).len)
        refine catA (s22 _ _ eC1) eC2 (Nat.le_of_lt (small2000 (by omega))) fun H23 C3 s23 eC3 => ?_
        have s2023 := (s21.trans s22).trans s23
        have hL23 := hL3.same s2023
        have hd23 := hdY.mono (Same.keep s2023)
        have hp23 := hp20.same s2023
        have dC3 : DV B p p [S3] H23 (.ref C3) (b + b) (m + 1) := ((hd23.cut _ _).app (hd23.cut _ _)).tup (hp23.notP eC3) (hp23.notP eC3) (tup_ne_lst eC3 hL23.1) eC3
        refine ⟨S3, _, _, rfl, rfl, hL23.1, small1000 (by omega), ?_⟩
        have hL24 := hL23.add (dC3.up (by omega) (by omega) (by omega))
        have hd24 := hd23.putY (o := .lst (ws3 ++ [.ref C3]))
        have hp24 := hp23.other (o := .lst (ws3 ++ [.ref C3])) nS3p
        have k24 := (k20.trans (Same.keep s2023)).mine (o := .lst (ws3 ++ [.ref C3])) nS3H
        have ea24 := Tups.ls (o := .lst (ws3 ++ [.ref C3])) hL23.1 _ _ (s2023 _ _ ea20)
        generalize upd H23 S3 (.lst (ws3 ++ [.ref C3])) = H24 at hL24 hd24 hp24 k24 ea24
        -- twice
        refine ⟨_, rfl, _, rfl, _, rfl, _, rfl, _, _, rfl, rfl, _, rfl, slA ea24 fun H25 E1 s25' eE1 => ?_⟩
        have ea25 := s25' _ _ ea24
        refine ⟨_, rfl, .inl ⟨rfl, _, SqL.of (s25' _ _ hL24.1)⟩, _, rfl, _, rfl, _, rfl, slA ea25 fun H26 F1 s26 eF1 => ?_⟩
        have hcl3 := ((hd24.cut (some (j : Int)) (some ((j : Int) + 1))).len)
        refine ⟨_, rfl, catA eF1 (s26 _ _ eE1) (Nat.le_of_lt (small2000 (by omega))) fun H27 F2 s27 eF2 => ?_⟩
        have ea27 := s27 _ _ (s26 _ _ ea25)
        refine ⟨_, rfl, _, rfl, _, rfl, ?_⟩
        dsimp only [tNoPart]
        refine slA ea27 fun H28 F3 s28 eF3 => catA (s28 _ _ eF2) eF3 (Nat.le_of_lt (small2000 ?_)) fun H29 F4 s29 eF4 => ?_
        · rw [List.length_append]
          omega
        have s2429 := (((s25'.trans s26).trans s27).trans s28).trans s29
        have hL29 := hL24.same s2429
        have hd29 := hd24.mono (Same.keep s2429)
        have hp29 := hp24.same s2429
        have dF4 : DV B p p [S3] H29 (.ref F4) (b + b + b) (m + 1) := (((hd29.cut _ _).app (hd29.cut _ _)).app (hd29.cut _ _)).tup (hp29.notP eF4) (hp29.notP eF4) (tup_ne_lst eF4 hL29.1) eF4
        refine ⟨S3, _, _, rfl, rfl, hL29.1, small1000 (by rw [List.length_append]; show ws3.length + 1 ≤ 1000; omega), ?_⟩
        have hL30 := hL29.add (dF4.up (by omega) (by omega) (by omega))
        have hd30 := hd29.putY (o := .lst (ws3 ++ [.ref C3] ++ [.ref F4]))
        have hp30 := hp29.other (o := .lst (ws3 ++ [.ref C3] ++ [.ref F4])) nS3p
        have k30 := (k24.trans (Same.keep s2429)).mine (o := .lst (ws3 ++ [.ref C3] ++ [.ref F4])) nS3H
        have ea30 := Tups.ls (o := .lst (ws3 ++ [.ref C3] ++ [.ref F4])) hL29.1 _ _ (s2429 _ _ ea24)
        generalize upd H29 S3 (.lst (ws3 ++ [.ref C3] ++ [.ref F4])) = H30 at hL30 hd30 hp30 k30 ea30
        refine ⟨_, rfl, .inl ⟨rfl, _, SqL.of hL30.1⟩, _, rfl, _, rfl, _, rfl, slA ea30 fun H31 G1 s31 eG1 => ?_⟩
        refine ⟨_, rfl, _, rfl, _, _, rfl, rfl, _, rfl, ?_⟩
        dsimp only [tNoPart]
        refine slA (s31 _ _ ea30) fun H32 G2 s32 eG2 => ?_
        have hcl4 := ((hd30.cut (some ((j : Int) + 1)) none).len)
        refine catA (s32 _ _ eG1) eG2 (Nat.le_of_lt (small2000 (by omega))) fun H33 G3 s33 eG3 => ?_
        have s3033 := (s31.trans s32).trans s33
        have hL33 := hL30.same s3033
        have hd33 := hd30.mono (Same.keep s3033)
        have hp33 := hp30.same s3033
        have dG3 : DV B p p [S3] H33 (.ref G3) (b + b) (m + 1) := ((hd33.cut _ _).app (hd33.cut _ _)).tup (hp33.notP eG3) (hp33.notP eG3) (tup_ne_lst eG3 hL33.1) eG3
        refine ⟨S3, _, _, rfl, rfl, hL33.1, small1000 (by rw [List.length_append, List.length_append]; show ws3.length + 1 + 1 ≤ 1000; omega), ?_⟩
        have hL34 := hL33.add (dG3.up (by omega) (by omega) (by omega))
        refine ⟨_, _, S3, _, rfl, hp33.other nS3p, (k30.trans (Same.keep s3033)).mine nS3H, ⟨hL34.1, hL34.2.1, fun w hw => (hL34.2.2 w hw).dropY⟩, ?_, ?_⟩
        · rw [List.length_append, List.length_append, List.length_append, hw3l]
          show 1 ≤ 21 + 1 + 1 + 1
          decide
        · rw [List.length_append, List.length_append, List.length_append, hw3l]
          show 21 + 1 + 1 + 1 ≤ 40
          decide
theorem ok__law_whole {f : Addr} {fd : FuncData} {k : Nat} (F : Fun K "_law_whole" "_law_whole" s__law_whole f fd) (bi : Bi mg) : FnOk P w K mg base CX0 (k + 1) f fd P__law_whole spWholeT := by
  refine F.ok sc__law_whole (fun vs H Q E h => ?_) (fun cdv A outer s H vs Q E hr h => ?_)
  · obtain ⟨v, t, n, rfl, _⟩ := h
    rfl
  · obtain ⟨v, t, n, rfl, hv, q⟩ := h
    refine ⟨_, (pss_one (ps_ret (pe_and (pe_callB call_isi (by rfl) bi.m_isinstance (by decide +kernel) (pa_cons (pv 0) (pa_cons (pe_bltn (v := .ty "int") (by rfl) bi.m_int (by decide +kernel) rfl) pa_nil))) (pe_and (pe_not (pe_callB call_isi (by rfl) bi.m_isinstance (by decide +kernel) (pa_cons (pv 0) (pa_cons (pe_bltn (v := .ty "bool") (by rfl) bi.m_bool (by decide +kernel) rfl) pa_nil)))) (pe_one (pe_cmpR op_ge (pv 0) (pv 1) (nomark _))))))), ?_⟩
    obtain ⟨Tint, hint, kint⟩ := isi_int (K := K) hv
    refine ⟨_, rfl, _, _, _, _, _, rfl, ClsV.ty "int", hint, kint, _, rfl, ?_⟩
    cases t with
    | int m =>
      refine iteT ?_
      obtain ⟨Tbl, hbl, kbl⟩ := isi_bl (K := K) hv
      refine ⟨_, rfl, _, _, _, _, _, rfl, ClsV.ty "bool", hbl, kbl, _, rfl, _, rfl, ?_⟩
      refine iteT ?_
      cases hv
      exact ⟨_, rfl, _, rfl, _, _, rfl, rfl, q⟩
    | bl b =>
      refine iteT ?_
      obtain ⟨Tbl, hbl, kbl⟩ := isi_bl (K := K) hv
      refine ⟨_, rfl, _, _, _, _, _, rfl, ClsV.ty "bool", hbl, kbl, _, rfl, _, rfl, ?_⟩
      exact iteF q
    | oth => exact iteF q
    | tup ts => exact iteF q
theorem ok__law_is_short {fW f : Addr} {fdW fd : FuncData} (F : Fun K "_law_is_short" "_law_is_short" s__law_is_short f fd) (bi : Bi mg) (C__law_whole : Cal P w K mg base "_law_whole" P__law_whole 1 spWholeT fW fdW) : FnOk P w K mg base CX0 2 f fd P__law_is_short spShortT := by
  refine F.ok sc__law_is_short (fun vs H Q E h => ?_) (fun cdv A outer s H vs Q E hr h => ?_)
  · obtain ⟨v, t, rfl, _⟩ := h
    rfl
  · obtain ⟨v, t, rfl, hv, q⟩ := h
    refine ⟨_, (pss_cons (ps_if (pw_or (pt_not (pt_val (pe_callB call_isi (by rfl) bi.m_isinstance (by decide +kernel) (pa_cons (pv 0) (pa_cons (pe_bltn (v := .ty "tuple") (by rfl) bi.m_tuple (by decide +kernel) rfl) pa_nil))))) (pw_or (pt_cmpR op_ne (pe_callB call_len_seq (by rfl) bi.m_len (by decide +kernel) (pa_cons (pv 0) pa_nil)) pe_int (nomark _)) (pw_or (pt_not (pt_val (pe_call (C__law_whole.G.mono (by decide)) hr (by rfl) C__law_whole.g C__law_whole.kp C__law_whole.b .nil pass0 (pa_cons (pe_ix ix_tup (pv 0) pe_int (fun _ _ => rfl)) (pa_cons pe_int pa_nil))))) (pw_or1 (pt_cmpR op_gt (pe_ix ix_tup (pv 0) pe_int (fun _ _ => rfl)) pe_int (nomark _)))))).pt
      (pss_one (ps_ret pe_bl))
      pss_nil)
    (pss_cons (ps_if (pw_or (pt_not (pt_val (pe_callB call_isi (by rfl) bi.m_isinstance (by decide +kernel) (pa_cons (pe_ix ix_tup (pv 0) pe_int (fun _ _ => rfl)) (pa_cons (pe_bltn (v := .ty "tuple") (by rfl) bi.m_tuple (by decide +kernel) rfl) pa_nil))))) (pw_or1 (pt_not (pt_chain op_le op_le pe_int (pe_callB call_len_seq (by rfl) bi.m_len (by decide +kernel) (pa_cons (pe_ix ix_tup (pv 0) pe_int (fun _ _ => rfl)) pa_nil)) pe_int)))).pt
      (pss_one (ps_ret pe_bl))
      pss_nil)
    (pss_cons (ps_asg (pe_tup (pa_cons pe_int (pa_cons pe_non pa_nil))) (pg_tup rfl (pgs_cons (pg_name (i := 1) sc__law_is_short.nd rfl (.inl rfl)) (pgs_cons (pg_name (i := 2) sc__law_is_short.nd rfl (.inl rfl)) pgs_nil))))
    (pss_cons (ps_for PassesOwn.never rfl (pi_tup (pe_ix ix_tup (pv 0) pe_int (fun _ _ => rfl))) (pg_name (i := 3) sc__law_is_short.nd rfl (.inl rfl))
      (pss_cons (ps_if (pw_or (pt_not (pt_val (pe_callB call_isi (by rfl) bi.m_isinstance (by decide +kernel) (pa_cons (pv 3) (pa_cons (pe_bltn (v := .ty "tuple") (by rfl) bi.m_tuple (by decide +kernel) rfl) pa_nil))))) (pw_or (pt_cmpR op_ne (pe_callB call_len_seq (by rfl) bi.m_len (by decide +kernel) (pa_cons (pv 3) pa_nil)) pe_int (nomark _)) (pw_or (pt_not (pt_val (pe_call (C__law_whole.G.mono (by decide)) hr (by rfl) C__law_whole.g C__law_whole.kp C__law_whole.b .nil pass0 (pa_cons (pe_ix ix_tup (pv 3) pe_int (fun _ _ => rfl)) (pa_cons pe_int pa_nil))))) (pw_or1 (pt_not (pt_val (pe_call (C__law_whole.G.mono (by decide)) hr (by rfl) C__law_whole.g C__law_whole.kp C__law_whole.b .nil pass0 (pa_cons (pe_ix ix_tup (pv 3) pe_int (fun _ _ => rfl)) (pa_cons pe_int pa_nil))))))))).pt
          (pss_one (ps_ret pe_bl))
          pss_nil)
        (pss_cons (ps_if (pw_and (pt_cmpR op_notN (pv 2) pe_non (nomark _)) (pw_and1 (pt_cmpR op_ge (pe_ix ix_tup (pv 3) pe_int (fun _ _ => rfl)) (pv 2) (nomark _)))).pt
          (pss_one (ps_ret pe_bl))
          pss_nil)
        (pss_one (ps_par (i := 1) (j := 2) rfl sc__law_is_short.nd rfl rfl (by decide) rfl rfl (pa_cons (pe_op op_add (pv 1) (pe_ix ix_tup (pv 3) pe_int (fun _ _ => rfl))) (pa_cons (pe_ix ix_tup (pv 3) pe_int (fun _ _ => rfl)) pa_nil)) rfl)))))
    (pss_one (ps_ret (pe_cmpR op_le (pv 1) pe_int (nomark _)))))))), ?_⟩
    obtain ⟨Ttup, htup, ktup⟩ := isi_tup (K := K) hv
    refine ⟨_, rfl, _, _, _, _, _, rfl, ClsV.ty "tuple", htup, ktup, _, rfl, ?_⟩
    cases t with
    | int m => exact iteNF (q _ (Same.refl _))
    | bl b => exact iteNF (q _ (Same.refl _))
    | oth => exact iteNF (q _ (Same.refl _))
    | tup us =>
      refine iteNT ?_
      obtain ⟨b, ws, rfl, eb, hwl, hw⟩ := hv.tupE
      refine ⟨_, rfl, b, ws, rfl, .inr (SqT.of eb), rfl, _, rfl, ?_⟩
      match us, ws, eb, hwl, hw, q with
      | [], [], eb, _, hw, q => exact ite2 (fun _ => q _ (Same.refl _)) (fun e => by simp at e)
      | [_], [_], eb, _, hw, q => exact ite2 (fun _ => q _ (Same.refl _)) (fun e => by simp at e)
      | x :: y :: z :: r, u :: v :: w' :: r', eb, _, hw, q =>
        refine ite2 (fun _ => q _ (Same.refl _)) (fun e => ?_)
        refine absurd ?_ e
        rw [decide_eq_false, Bool.not_false]
        intro h
        have := V.int.inj h
        have h3 : ((r'.length + 1 + 1 + 1 : Nat) : Int) = 2 := this
        omega
      | [x, y], [u, v], eb, _, hw, q =>
        refine ite2 (fun e => by simp at e) (fun _ => ?_)
        have q : ∀ H', Same H H' → Q (.bl ((whT x 0 && decide (numT x ≤ 1) && areSteps y) && decide (longsT (.tup [x, y]) ≤ 8))) H' := q
        refine ⟨_, rfl, b, _, 0, _, rfl, rfl, SqT.of eb, atI_nat (j := 0) rfl, u, x, 0, rfl, hw 0 u x rfl rfl, _, rfl, ?_⟩
        cases h1 : whT x 0 with
        | false =>
          rw [h1] at q
          exact iteNF (q _ (Same.refl _))
        | true =>
          refine iteNT ?_
          obtain ⟨m, rfl, m0⟩ := wh_of h1
          have e1 := (hw 0 u _ rfl rfl).intE
          subst e1
          rw [h1, Bool.true_and] at q
          have q : ∀ H', Same H H' → Q (.bl ((decide (m ≤ 1) && areSteps y) && decide (longsT (.tup [.int m, y]) ≤ 8))) H' := q
          refine ⟨_, rfl, b, _, 0, _, rfl, rfl, SqT.of eb, atI_nat (j := 0) rfl, _, _, rfl, rfl, _, rfl, ite2 (fun e => ?_) (fun e => ?_)⟩
          · have e : m > 1 := of_decide_eq_true e
            rw [decide_eq_false (show ¬ m ≤ 1 by omega), Bool.false_and, Bool.false_and] at q
            exact q _ (Same.refl _)
          have e : ¬ m > 1 := of_decide_eq_false (Bool.eq_false_iff.mpr e)
          rw [decide_eq_true (show m ≤ 1 by omega), Bool.true_and] at q
          have hy := hw 1 v y rfl rfl
          obtain ⟨T2, h2, k2⟩ := isi_tup (K := K) hy
          refine ⟨_, rfl, b, _, 1, _, rfl, rfl, SqT.of eb, atI_nat (j := 1) rfl, _, _, _, _, _, rfl, ClsV.ty "tuple", h2, k2, _, rfl, ?_⟩
          cases y with
          | int m => exact iteNF (q _ (Same.refl _))
          | bl b => exact iteNF (q _ (Same.refl _))
          | oth => exact iteNF (q _ (Same.refl _))
          | tup ts =>
            refine iteNT ?_
            obtain ⟨a, vs, rfl, ea, hl, hh⟩ := hy.tupE
            have q : ∀ H', Same H H' → Q (.bl ((decide (1 ≤ ts.length) && decide (ts.length ≤ 8) && ts.all isStep && fallsT (ts.map firstT)) && decide ((ts.map secondT).sum ≤ 8))) H' := q
            refine ⟨_, rfl, b, _, 1, _, rfl, rfl, SqT.of eb, atI_nat (j := 1) rfl, a, vs, rfl, .inr (SqT.of ea), _, _, rfl, rfl, _, rfl, ite2 (fun e => ?_) (fun e => ?_)⟩
            rotate_left
            · have e : ¬ (1 : Int) ≤ (vs.length : Int) := of_decide_eq_false (Bool.eq_false_iff.mpr e)
              rw [decide_eq_false (show ¬ 1 ≤ ts.length by omega)] at q
              exact ⟨_, rfl, iteNF (q _ (Same.refl _))⟩
            have e : (1 : Int) ≤ (vs.length : Int) := of_decide_eq_true e
            rw [decide_eq_true (show 1 ≤ ts.length by omega), Bool.true_and] at q
            refine ⟨_, _, rfl, rfl, _, rfl, ?_⟩
            by_cases c8 : ts.length ≤ 8
            rotate_left
            · rw [decide_eq_false c8] at q
              rw [decide_eq_false (show ¬ (vs.length : Int) ≤ 8 by omega)]
              exact iteNF (q _ (Same.refl _))
            rw [decide_eq_true c8, Bool.true_and, ← fall_all] at q
            rw [decide_eq_true (show (vs.length : Int) ≤ 8 by omega)]
            refine iteNT ?_
            refine ⟨(by show 2 ≤ sizeLine; decide), fun tz ntz => ?_⟩
            have sz : Same H (upd H tz (.tup [.int 0, .non])) := same_new (Same.refl _) ntz
            have ez : upd H tz (.tup [.int 0, .non]) tz = some (.tup [.int 0, .non]) := upd_same
            generalize upd H tz (.tup [.int 0, .non]) = H0 at sz ez
            refine ⟨tz, _, rfl, SqT.of ez, rfl, _, _, rfl, _, _, rfl, rfl, ?_⟩
            have q : ∀ H', Same H0 H' → Q (.bl (goFall none ts && decide ((ts.map secondT).sum ≤ 8))) H' := fun H' s => q H' (sz.trans s)
            have hh : ∀ (i : Nat) (v : V) (t : Th), vs[i]? = some v → ts[i]? = some t → ThAt topB H0 v t := fun i v t e1 e2 => (hh i v t e1 e2).mono (Kinds.same sz)
            have ea := sz _ _ ea
            have eb := sz _ _ eb
            refine ⟨_, rfl, b, _, 1, _, rfl, rfl, SqT.of eb, atI_nat (j := 1) rfl, ?_⟩
            refine ⟨a, rfl, ⟨_, SqT.of ea⟩, for_tup (xs := vs) (fun i σ' H' => H' = H0 ∧ ∃ (x3 : Option V) (last : Option Int), σ' = [some (.ref b), some (.int ((ts.take i).map secondT).sum), some (lastV last), x3] ∧ goFall none ts = goFall last (ts.drop i)) ⟨rfl, _, none, rfl, rfl⟩ (fun i σ' H' hi hm => ?_) (fun i x σ' H' hx hm => ?_) (fun σ' H' hm => ?_)⟩
            · obtain ⟨rfl, _⟩ := hm
              exact SqT.of ea
            · obtain ⟨rfl, x3, last, rfl, hg⟩ := hm
              have hi : i < vs.length := (List.getElem?_eq_some_iff.mp hx).1
              have hit : i < ts.length := by omega
              have et : ts[i]? = some (ts[i]'hit) := List.getElem?_eq_getElem hit
              rw [List.drop_eq_getElem_cons hit] at hg
              generalize ts[i]'hit = t at et hg
              have hxt := hh i x t hx et
              rw [hg] at q
              have hgo : goFall last (t :: ts.drop (i + 1)) = (isStep t && fitsT last (firstT t) && goFall (some (firstT t)) (ts.drop (i + 1))) := rfl
              rw [hgo] at q hg
              have no : isStep t = false → Q (.bl false) H' := fun hf => by
                have q := q _ (Same.refl _)
                rw [hf] at q
                exact q
              obtain ⟨T3, h3, k3⟩ := isi_tup (K := K) hxt
              refine ⟨_, rfl, _, _, _, _, _, rfl, ClsV.ty "tuple", h3, k3, _, rfl, ?_⟩
              cases t with
              | int m => exact iteNF (no rfl)
              | bl b => exact iteNF (no rfl)
              | oth => exact iteNF (no rfl)
              | tup us =>
                refine iteNT ?_
                obtain ⟨c, ws, rfl, ec, hwl, hw'⟩ := hxt.tupE
                refine ⟨_, rfl, c, ws, rfl, .inr (SqT.of ec), rfl, _, rfl, ?_⟩
                match us, ws, ec, hwl, hw', no, q, hg, et with
                | [], [], ec, _, hw', no, q, hg, et => exact ite2 (fun _ => no rfl) (fun e => by simp at e)
                | [_], [_], ec, _, hw', no, q, hg, et => exact ite2 (fun _ => no rfl) (fun e => by simp at e)
                | x :: y :: z :: r, u :: v :: w' :: r', ec, _, hw', no, q, hg, et =>
                  refine ite2 (fun _ => no rfl) (fun e => ?_)
                  refine absurd ?_ e
                  rw [decide_eq_false, Bool.not_false]
                  intro h
                  have := V.int.inj h
                  have h3 : ((r'.length + 1 + 1 + 1 : Nat) : Int) = 2 := this
                  omega
                | [x, y], [u, v], ec, _, hw', no, q, hg, et =>
                  refine ite2 (fun e => by simp at e) (fun _ => ?_)
                  have nb : isStep (.tup [x, y]) = (whT x 1 && whT y 1) := rfl
                  rw [nb] at no q hg
                  refine ⟨_, rfl, c, _, 0, _, rfl, rfl, SqT.of ec, atI_nat (j := 0) rfl, u, x, 1, rfl, hw' 0 u x rfl rfl, _, rfl, ?_⟩
                  cases h1 : whT x 1 with
                  | false =>
                    rw [h1] at no
                    exact iteNF (no rfl)
                  | true =>
                    refine iteNT ?_
                    refine ⟨_, rfl, c, _, 1, _, rfl, rfl, SqT.of ec, atI_nat (j := 1) rfl, v, y, 1, rfl, hw' 1 v y rfl rfl, _, rfl, ?_⟩
                    cases h2 : whT y 1 with
                    | false =>
                      rw [h2, Bool.and_false] at no
                      exact iteNF (no rfl)
                    | true =>
                      refine iteNT ?_
                      rw [h1, h2, Bool.true_and, Bool.true_and] at q hg
                      obtain ⟨m, rfl, _⟩ := wh_of h1
                      obtain ⟨k, rfl, _⟩ := wh_of h2
                      have e1 := (hw' 0 u _ rfl rfl).intE
                      have e2 := (hw' 1 v _ rfl rfl).intE
                      subst e1
                      subst e2
                      have hg : goFall none ts = (fitsT last m && goFall (some m) (ts.drop (i + 1))) := hg
                      have q : ∀ H1, Same H' H1 → Q (.bl ((fitsT last m && goFall (some m) (ts.drop (i + 1))) && decide ((ts.map secondT).sum ≤ 8))) H1 := q
                      have hsum : ((ts.take (i + 1)).map secondT).sum = ((ts.take i).map secondT).sum + k := by
                        rw [List.take_add_one, et]
                        show ((ts.take i ++ [Th.tup [.int m, .int k]]).map secondT).sum = _
                        rw [List.map_append, List.sum_append]
                        show _ + (k + 0) = _
                        rw [Int.add_zero]
                      have fin : goFall none ts = goFall (some m) (ts.drop (i + 1)) → ∀ σ2 : List (Option V), σ2 = [some (.ref b), some (.int (((ts.take i).map secondT).sum + k)), some (.int m), some (.ref c)] → H' = H' ∧ ∃ (x3 : Option V) (last : Option Int), σ2 = [some (.ref b), some (.int ((ts.take (i + 1)).map secondT).sum), some (lastV last), x3] ∧ goFall none ts = goFall last (ts.drop (i + 1)) := fun h σ2 e => ⟨rfl, _, some m, by rw [hsum]; exact e, h⟩
                      cases last with
                      | none =>
                        refine ⟨_, rfl, rfl, _, rfl, iteF ?_⟩
                        exact ⟨_, rfl, _, rfl, c, _, 1, _, rfl, rfl, SqT.of ec, atI_nat (j := 1) rfl, _, _, rfl, rfl, _, rfl, c, _, 0, _, rfl, rfl, SqT.of ec, atI_nat (j := 0) rfl, _, _, rfl, fin hg _ rfl⟩
                      | some l =>
                        have q : ∀ H1, Same H' H1 → Q (.bl ((decide (m < l) && goFall (some m) (ts.drop (i + 1))) && decide ((ts.map secondT).sum ≤ 8))) H1 := q
                        have hg : goFall none ts = (decide (m < l) && goFall (some m) (ts.drop (i + 1))) := hg
                        refine ⟨_, rfl, rfl, _, rfl, iteT ?_⟩
                        refine ⟨_, rfl, c, _, 0, _, rfl, rfl, SqT.of ec, atI_nat (j := 0) rfl, _, rfl, _, _, rfl, rfl, _, rfl, ?_⟩
                        by_cases e : m < l
                        · rw [decide_eq_true e, Bool.true_and] at hg
                          rw [decide_eq_false (show ¬ l ≤ m by omega)]
                          refine iteF ?_
                          exact ⟨_, rfl, _, rfl, c, _, 1, _, rfl, rfl, SqT.of ec, atI_nat (j := 1) rfl, _, _, rfl, rfl, _, rfl, c, _, 0, _, rfl, rfl, SqT.of ec, atI_nat (j := 0) rfl, _, _, rfl, fin hg _ rfl⟩
                        · rw [decide_eq_false e] at q
                          rw [decide_eq_true (show l ≤ m by omega)]
                          exact iteT (q _ (Same.refl _))
            · obtain ⟨rfl, x3, last, rfl, hg⟩ := hm
              rw [hl, List.drop_length] at hg
              rw [hg, show goFall last [] = true from by cases last <;> rfl, Bool.true_and] at q
              refine ⟨_, rfl, _, _, rfl, rfl, ?_⟩
              rw [hl, List.take_length]
              exact q _ (Same.refl _)
theorem ok__law_is_basket {fW fS f : Addr} {fdW fdS fd : FuncData} (F : Fun K "_law_is_basket" "_law_is_basket" s__law_is_basket f fd) (bi : Bi mg) (C__law_whole : Cal P w K mg base "_law_whole" P__law_whole 1 spWholeT fW fdW) (C__law_is_short : Cal P w K mg base "_law_is_short" P__law_is_short 2 spShortT fS fdS) : FnOk P w K mg base CX0 3 f fd P__law_is_basket (spIsD isBasketD) := by
  refine F.ok sc__law_is_basket (fun vs H Q E h => ?_) (fun cdv A outer s H vs Q E hr h => ?_)
  · obtain ⟨B, p, l, Y, v, d, rfl, _⟩ := h
    rfl
  · obtain ⟨B, p, l, Y, v, d, rfl, dd, hB, q⟩ := h
    refine ⟨_, (pss_cons (ps_if (pw_or (pt_not (pt_val (pe_callB call_isi (by rfl) bi.m_isinstance (by decide +kernel) (pa_cons (pv 0) (pa_cons (pe_bltn (v := .ty "tuple") (by rfl) bi.m_tuple (by decide +kernel) rfl) pa_nil))))) (pw_or1 (pt_not (pt_chain op_le op_le pe_int (pe_callB call_len_seq (by rfl) bi.m_len (by decide +kernel) (pa_cons (pv 0) pa_nil)) pe_int)))).pt
      (pss_one (ps_ret pe_bl))
      pss_nil)
    (pss_cons (ps_for PassesOwn.never rfl (pi_tup (pv 0)) (pg_name (i := 1) sc__law_is_basket.nd rfl (.inl rfl))
      (pss_cons (ps_if (pw_or (pt_not (pt_val (pe_callB call_isi (by rfl) bi.m_isinstance (by decide +kernel) (pa_cons (pv 1) (pa_cons (pe_bltn (v := .ty "tuple") (by rfl) bi.m_tuple (by decide +kernel) rfl) pa_nil))))) (pw_or (pt_cmpR op_ne (pe_callB call_len_seq (by rfl) bi.m_len (by decide +kernel) (pa_cons (pv 1) pa_nil)) pe_int (nomark _)) (pw_or1 (pt_not (pt_val (pe_call (C__law_is_short.G.mono (by decide)) hr (by rfl) C__law_is_short.g C__law_is_short.kp C__law_is_short.b .nil pass0 (pa_cons (pe_ix ix_tup (pv 1) pe_int (fun _ _ => rfl)) pa_nil))))))).pt
          (pss_one (ps_ret pe_bl))
          pss_nil)
        (pss_one (ps_if (pw_and (pt_cmpR op_notN (pe_ix ix_tup (pv 1) pe_int (fun _ _ => rfl)) pe_non (nomark _)) (pw_and1 (pw_or (pt_not (pt_val (pe_call (C__law_whole.G.mono (by decide)) hr (by rfl) C__law_whole.g C__law_whole.kp C__law_whole.b .nil pass0 (pa_cons (pe_ix ix_tup (pv 1) pe_int (fun _ _ => rfl)) (pa_cons pe_int pa_nil))))) (pw_or1 (pt_cmpR op_gt (pe_ix ix_tup (pv 1) pe_int (fun _ _ => rfl)) pe_int (nomark _)))).pt)).pt
          (pss_one (ps_ret pe_bl))
          pss_nil))))
    (pss_one (ps_ret pe_bl)))), ?_⟩
    obtain ⟨Ttup, htup, ktup⟩ := isi_tup (K := K) (dd.up hB).th
    refine ⟨_, rfl, _, _, _, _, _, rfl, ClsV.ty "tuple", htup, ktup, _, rfl, ?_⟩
    by_cases ht : (thD d).isT = true
    rotate_left
    · have ht : (thD d).isT = false := Bool.eq_false_iff.mpr ht
      rw [(dd.no41 ht).2.1] at q
      rw [ht]
      exact iteNF (q _ (Same.refl _))
    rw [ht]
    refine iteNT ?_
    obtain ⟨ds, rfl⟩ := thD_tup ht
    obtain ⟨a, vs, rfl, ea, hl, hh⟩ := dd.tupE
    have q : ∀ H', Same H H' → Q (.bl ((decide (1 ≤ ds.length) && decide (ds.length ≤ 4)) && ds.all isKindD)) H' := q
    refine ⟨_, rfl, a, vs, rfl, .inr (SqT.of ea), _, _, rfl, rfl, _, rfl, ite2 (fun e => ?_) (fun e => ?_)⟩
    rotate_left
    · have e : ¬ (1 : Int) ≤ (vs.length : Int) := of_decide_eq_false (Bool.eq_false_iff.mpr e)
      rw [decide_eq_false (show ¬ 1 ≤ ds.length by omega)] at q
      exact ⟨_, rfl, iteNF (q _ (Same.refl _))⟩
    have e : (1 : Int) ≤ (vs.length : Int) := of_decide_eq_true e
    rw [decide_eq_true (show 1 ≤ ds.length by omega), Bool.true_and] at q
    refine ⟨_, _, rfl, rfl, _, rfl, ?_⟩
    by_cases c8 : ds.length ≤ 4
    rotate_left
    · rw [decide_eq_false c8] at q
      rw [decide_eq_false (show ¬ (vs.length : Int) ≤ 4 by omega)]
      exact iteNF (q _ (Same.refl _))
    rw [decide_eq_true c8, Bool.true_and] at q
    rw [decide_eq_true (show (vs.length : Int) ≤ 4 by omega)]
    refine iteNT ?_
    refine ⟨_, rfl, a, rfl, ⟨_, SqT.of ea⟩, for_tup (xs := vs) (fun i σ' H' => Same H H' ∧ ∃ (x1 : Option V), σ' = [some (.ref a), x1] ∧ ds.all isKindD = (ds.drop i).all isKindD) ⟨Same.refl _, _, rfl, rfl⟩ (fun i σ' H' hi hm => ?_) (fun i x σ' H' hx hm => ?_) (fun σ' H' hm => ?_)⟩
    · obtain ⟨sm, _⟩ := hm
      exact SqT.of (sm _ _ ea)
    · obtain ⟨sm, x1, rfl, hg⟩ := hm
      have hi : i < vs.length := (List.getElem?_eq_some_iff.mp hx).1
      have hit : i < ds.length := by omega
      have et : ds[i]? = some (ds[i]'hit) := List.getElem?_eq_getElem hit
      rw [List.drop_eq_getElem_cons hit] at hg
      generalize ds[i]'hit = t at et hg
      have hxt := (hh i x t hx et).mono (Same.keep sm)
      have hg : ds.all isKindD = (isKindD t && (ds.drop (i + 1)).all isKindD) := hg
      rw [hg] at q
      have no : isKindD t = false → ∀ H2, Same H' H2 → Q (.bl false) H2 := fun hf H2 s2 => by
        have q := q _ (sm.trans s2)
        rw [hf] at q
        exact q
      obtain ⟨T3, h3, k3⟩ := isi_tup (K := K) (hxt.up hB).th
      refine ⟨_, rfl, _, _, _, _, _, rfl, ClsV.ty "tuple", h3, k3, _, rfl, ?_⟩
      by_cases ht2 : (thD t).isT = true
      rotate_left
      · have ht2 : (thD t).isT = false := Bool.eq_false_iff.mpr ht2
        rw [ht2]
        exact iteNF (no (hxt.no41 ht2).1 _ (Same.refl _))
      rw [ht2]
      refine iteNT ?_
      obtain ⟨es, rfl⟩ := thD_tup ht2
      obtain ⟨c, ws, rfl, ec, hwl, hw⟩ := hxt.tupE
      refine ⟨_, rfl, c, ws, rfl, .inr (SqT.of ec), rfl, _, rfl, ?_⟩
      by_cases hc : es.length = 2
      rotate_left
      · refine ite2 (fun _ => no (isKindD_len hc) _ (Same.refl _)) (fun e => ?_)
        exfalso
        apply e
        show (!decide (V.int (ws.length : Int) = V.int 2)) = true
        rw [hwl, decide_eq_false (fun h => hc (by injection h with h; omega))]
        rfl
      rw [hc] at hwl
      match es, ws, hc, hwl, hw, ec, no, q, hg with
      | [dw, dm], [u, y], _, _, hw, ec, no, q, hg =>
        refine ite2 (fun e => by simp at e) (fun _ => ?_)
        have h0 := hw 0 u dw rfl rfl
        have h1 := hw 1 y dm rfl rfl
        have hk : isKindD (.tuple [dw, dm]) = (isWispT (thD dw) && (decide (longsT (thD dw) ≤ 8) && isManyD dm)) := rfl
        rw [hk, ← Bool.and_assoc] at no hg q
        refine ⟨_, rfl, c, _, 0, _, rfl, rfl, SqT.of ec, atI_nat (j := 0) rfl, u, thD dw, rfl, (h0.up hB).th, fun H2 s2 => ⟨_, rfl, ?_⟩⟩
        cases e : (isWispT (thD dw) && decide (longsT (thD dw) ≤ 8)) with
        | false =>
          rw [e, Bool.false_and] at no
          exact iteNF (no rfl _ s2)
        | true =>
          rw [e, Bool.true_and] at no hg q
          refine iteNT ?_
          have sm2 := sm.trans s2
          have ec2 := s2 _ _ ec
          have h1 := h1.mono (Same.keep s2)
          have go : isManyD dm = true → Same H H2 ∧ ∃ (x1 : Option V), [some (V.ref a), some (.ref c)] = [some (V.ref a), x1] ∧ ds.all isKindD = (ds.drop (i + 1)).all isKindD := fun h => by
            rw [h, Bool.true_and] at hg
            exact ⟨sm2, _, rfl, hg⟩
          have hm : isManyD dm = (isNoneD dm || (whT (thD dm) 0 && decide (numT (thD dm) ≤ 9))) := rfl
          rw [hm] at no go
          refine ⟨_, rfl, c, _, 1, _, rfl, rfl, SqT.of ec2, atI_nat (j := 1) rfl, rfl, _, rfl, ?_⟩
          rw [h1.isN]
          cases eN : isNoneD dm with
          | true =>
            rw [eN] at go
            exact iteF (go rfl)
          | false =>
            rw [eN, Bool.false_or] at no go
            refine iteT ?_
            refine ⟨_, rfl, c, _, 1, _, rfl, rfl, SqT.of ec2, atI_nat (j := 1) rfl, y, thD dm, 0, rfl, (h1.up hB).th, _, rfl, ?_⟩
            cases eW : whT (thD dm) 0 with
            | false =>
              rw [eW] at no
              exact iteNF (no rfl _ s2)
            | true =>
              rw [eW, Bool.true_and] at no go
              refine iteNT ?_
              obtain ⟨k, ek, _⟩ := wh_of eW
              have e1 := (h1.up hB).th
              rw [ek] at e1 no go
              have e1 := e1.intE
              subst e1
              have no : decide (k ≤ 9) = false → ∀ H2, Same H' H2 → Q (.bl false) H2 := no
              refine ⟨_, rfl, c, _, 1, _, rfl, rfl, SqT.of ec2, atI_nat (j := 1) rfl, _, _, rfl, rfl, _, rfl, ite2 (fun e => ?_) (fun e => ?_)⟩
              · have e : k > 9 := of_decide_eq_true e
                exact no (decide_eq_false (by omega)) _ s2
              · have e : ¬ k > 9 := of_decide_eq_false (Bool.eq_false_iff.mpr e)
                exact go (decide_eq_true (show k ≤ 9 by omega))
    · obtain ⟨sm, x1, rfl, hg⟩ := hm
      rw [hl, List.drop_length] at hg
      rw [hg] at q
      exact q _ sm
theorem ok__law_is_frame {fW f : Addr} {fdW fd : FuncData} (F : Fun K "_law_is_frame" "_law_is_frame" s__law_is_frame f fd) (bi : Bi mg) (C__law_whole : Cal P w K mg base "_law_whole" P__law_whole 1 spWholeT fW fdW) : FnOk P w K mg base CX0 2 f fd P__law_is_frame (spIsD isFrameD) := by
  refine F.ok sc__law_is_frame (fun vs H Q E h => ?_) (fun cdv A outer s H vs Q E hr h => ?_)
  · obtain ⟨B, p, l, Y, v, d, rfl, _⟩ := h
    rfl
  · obtain ⟨B, p, l, Y, v, d, rfl, dd, hB, q⟩ := h
    refine ⟨_, (pss_cons (ps_if (pw_or (pt_not (pt_val (pe_callB call_isi (by rfl) bi.m_isinstance (by decide +kernel) (pa_cons (pv 0) (pa_cons (pe_bltn (v := .ty "tuple") (by rfl) bi.m_tuple (by decide +kernel) rfl) pa_nil))))) (pw_or (pt_cmpR op_ne (pe_callB call_len_seq (by rfl) bi.m_len (by decide +kernel) (pa_cons (pv 0) pa_nil)) pe_int (nomark _)) (pw_or1 (pt_not (pt_val (pe_callB (cr_all rfl) (by rfl) bi.m_all (by decide +kernel) (pa_cons (pe_lc (own := [("_law_part", 1)]) (g := (gName 1)) (tt := tYes) rfl sc__law_is_frame.nd (pi_tup (pv 0)) (blkOk_by (N := N__law_is_frame) (sc := defScope s__law_is_frame) (by decide +kernel)) (fun _ _ _ _ _ => (pg_name (i := 1) sc__law_is_frame.nd rfl (.inl rfl) (.inr rfl))) (fun _ _ _ _ _ => pts_nil) (fun _ _ _ _ _ => (pe_call (C__law_whole.G.mono (by decide)) hr (by rfl) C__law_whole.g C__law_whole.kp C__law_whole.b .nil pass0 (pa_cons (pv 1) (pa_cons pe_int pa_nil))))) pa_nil))))))).pt
      (pss_one (ps_ret pe_bl))
      pss_nil)
    (pss_one (ps_ret (pe_and (pe_cmpR op_le (pe_ix ix_tup (pv 0) pe_int (fun _ _ => rfl)) (pe_ix ix_tup (pv 0) pe_int (fun _ _ => rfl)) (nomark _)) (pe_one (pe_cmpR op_lt (pe_ix ix_tup (pv 0) pe_int (fun _ _ => rfl)) pe_int (nomark _))))))), ?_⟩
    obtain ⟨Ttup, htup, ktup⟩ := isi_tup (K := K) (dd.up hB).th
    refine ⟨_, rfl, _, _, _, _, _, rfl, ClsV.ty "tuple", htup, ktup, _, rfl, ?_⟩
    by_cases ht : (thD d).isT = true
    rotate_left
    · have ht : (thD d).isT = false := Bool.eq_false_iff.mpr ht
      rw [(dd.no41 ht).2.2] at q
      rw [ht]
      exact iteNF (q _ (Same.refl _))
    rw [ht]
    refine iteNT ?_
    obtain ⟨ds, rfl⟩ := thD_tup ht
    obtain ⟨a, vs, rfl, ea, hl, hh⟩ := dd.tupE
    refine ⟨_, rfl, a, vs, rfl, .inr (SqT.of ea), rfl, _, rfl, ?_⟩
    by_cases hc : ds.length = 3
    rotate_left
    · rw [isFrameD_len hc] at q
      refine ite2 (fun _ => q _ (Same.refl _)) (fun e => ?_)
      exfalso
      apply e
      show (!decide (V.int (vs.length : Int) = V.int 3)) = true
      rw [hl, decide_eq_false (fun h => hc (by injection h with h; omega))]
      rfl
    rw [hc] at hl
    match ds, vs, hc, hl, hh, ea, q with
    | [da, db, dc], [u, x, y], _, _, hh, ea, q =>
      refine ite2 (fun e => by simp at e) (fun _ => ?_)
      have q : ∀ H', Same H H' → Q (.bl (whT (thD da) 1 && (whT (thD db) (numT (thD da)) && (whT (thD dc) 1 && decide (numT (thD dc) ≤ 3))))) H' := q
      have h0 := ((hh 0 u da rfl rfl).up hB).th
      have h1 := ((hh 1 x db rfl rfl).up hB).th
      have h2 := ((hh 2 y dc rfl rfl).up hB).th
      refine ⟨_, rfl, a, rfl, ⟨_, SqT.of ea⟩, fun D nD => ?_⟩
      refine lc_tup (xs := [u, x, y]) (fun i H' => Same H H' ∧ H' D = some (.lst ((([thD da, thD db, thD dc].take i).map fun t => whT t 1).map V.bl))) ⟨same_new (Same.refl _) nD, upd_same⟩ (fun i H' hi hm => SqT.of (hm.1 _ _ ea)) (fun i z H' hx hm => ?_) (fun H' hm => ?_)
      · obtain ⟨sm, eD⟩ := hm
        have hi : i < 3 := (List.getElem?_eq_some_iff.mp hx).1
        obtain ⟨t, et, ht⟩ : ∃ t, [thD da, thD db, thD dc][i]? = some t ∧ ThAt topB H z t := by
          have hw : i = 0 ∨ i = 1 ∨ i = 2 := by omega
          rcases hw with rfl | rfl | rfl
          · cases hx
            exact ⟨_, rfl, h0⟩
          · cases hx
            exact ⟨_, rfl, h1⟩
          · cases hx
            exact ⟨_, rfl, h2⟩
        refine ⟨rfl, yesIte ?_⟩
        refine ⟨_, rfl, z, t, 1, rfl, ht.mono (Kinds.same sm), _, eD, ?_, same_mine sm nD, ?_⟩
        · rw [List.length_map, List.length_map, List.length_take]
          exact small1000 (by show min i 3 ≤ 1000; omega)
        · rw [upd_same, List.take_add_one, et]
          show _ = some (HO.lst ((([thD da, thD db, thD dc].take i ++ [t]).map fun t => whT t 1).map V.bl))
          rw [List.map_append, List.map_append]
          rfl
      obtain ⟨s1', eD⟩ := hm
      have eD : H' D = some (.lst ([whT (thD da) 1, whT (thD db) 1, whT (thD dc) 1].map V.bl)) := eD
      refine ⟨D, _, rfl, SqL.of eD, _, rfl, ?_⟩
      show if (!(whT (thD da) 1 && (whT (thD db) 1 && (whT (thD dc) 1 && true)))) = true then _ else _
      have ea1 := s1' _ _ ea
      cases ea' : whT (thD da) 1 with
      | false =>
        rw [ea', Bool.false_and] at q
        exact iteNF (q _ s1')
      | true =>
        obtain ⟨m, em, hm1⟩ := wh_of ea'
        rw [em] at h0
        have e1 := h0.intE
        subst e1
        rw [ea', em, Bool.true_and] at q
        have q : ∀ H', Same H H' → Q (.bl (whT (thD db) m && (whT (thD dc) 1 && decide (numT (thD dc) ≤ 3)))) H' := q
        cases eb' : whT (thD db) 1 with
        | false =>
          have hz : whT (thD db) m = false := by
            cases hb : whT (thD db) m with
            | false => rfl
            | true =>
              obtain ⟨k, ek, hk⟩ := wh_of hb
              rw [ek] at eb'
              have : decide (1 ≤ k) = false := eb'
              exact absurd (of_decide_eq_false this) (by omega)
          rw [hz, Bool.false_and] at q
          exact iteNF (q _ s1')
        | true =>
          obtain ⟨k, ek, hk1⟩ := wh_of eb'
          rw [ek] at h1 q
          have e1 := h1.intE
          subst e1
          cases ec' : whT (thD dc) 1 with
          | false =>
            rw [ec', Bool.false_and, Bool.and_false] at q
            exact iteNF (q _ s1')
          | true =>
            obtain ⟨r, er, hr1⟩ := wh_of ec'
            rw [er] at h2 q
            have e1 := h2.intE
            subst e1
            have q : ∀ H', Same H H' → Q (.bl (decide (m ≤ k) && (decide (1 ≤ r) && decide (r ≤ 3)))) H' := q
            rw [decide_eq_true hr1, Bool.true_and] at q
            refine iteNT ?_
            refine ⟨_, rfl, a, _, 0, _, rfl, rfl, SqT.of ea1, atI_nat (j := 0) rfl, _, rfl, a, _, 1, _, rfl, rfl, SqT.of ea1, atI_nat (j := 1) rfl, _, _, rfl, rfl, _, rfl, ite2 (fun e => ?_) (fun e => ?_)⟩
            · rw [e, Bool.true_and] at q
              refine ⟨_, rfl, a, _, 2, _, rfl, rfl, SqT.of ea1, atI_nat (j := 2) rfl, _, _, rfl, rfl, ?_⟩
              have e4 : decide (r < 4) = decide (r ≤ 3) := decide_eq_decide.mpr (by omega)
              have q := q _ s1'
              rw [← e4] at q
              exact q
            · rw [Bool.eq_false_iff.mpr e, Bool.false_and] at q
              exact q _ s1'
theorem ok__law_right {fB fF fX fY f : Addr} {fdB fdF fdX fdY fd : FuncData} (F : Fun K "_law_right" "_law_right" s__law_right f fd) (bi : Bi mg) (C_is_basket : Cal P w K mg base "is_basket" P_is_basket 6 (spIsD isBasketD) fB fdB) (C_is_frame : Cal P w K mg base "is_frame" P_is_frame 2 (spIsD isFrameD) fF fdF)
    (C__law_is_basket : Cal P w K mg base "_law_is_basket" P__law_is_basket 3 (spIsD isBasketD) fX fdX) (C__law_is_frame : Cal P w K mg base "_law_is_frame" P__law_is_frame 2 (spIsD isFrameD) fY fdY) : FnOk P w K mg base CX0 7 f fd P__law_right (spIsD fun _ => true) := by
  refine F.ok sc__law_right (fun vs H Q E h => ?_) (fun cdv A outer s H vs Q E hr h => ?_)
  · obtain ⟨B, p, l, Y, v, d, rfl, _⟩ := h
    rfl
  · obtain ⟨B, p, l, Y, v, d, rfl, dd, hB, q⟩ := h
    have hu64 := hr.units
    refine ⟨_, (pss_cons (ps_for PassesOwn.never rfl (pi_range1 rfl bi.m_range (pa_cons pe_int pa_nil)) (pg_name (i := 1) sc__law_right.nd rfl (.inl rfl))
      (pss_cons (ps_set (i := 2) sc__law_right.nd rfl (.inl rfl) (pe_lst (pa_cons (pe_call (C_is_basket.G.mono (by decide)) hr (by rfl) C_is_basket.g C_is_basket.kp C_is_basket.b .nil pass0 (pa_cons (pv 0) pa_nil)) (pa_cons (pe_call (C_is_frame.G.mono (by decide)) hr (by rfl) C_is_frame.g C_is_frame.kp C_is_frame.b .nil pass0 (pa_cons (pv 0) pa_nil)) pa_nil))))
        (pss_cons (ps_if (pt_not (pt_val (pe_callB (cr_all rfl) (by rfl) bi.m_all (by decide +kernel) (pa_cons (pe_lc (own := [("_law_one", 3)]) (g := (gName 3)) (tt := tYes) (te := (tCB (rIsi K) (tCons (tVar 3) (tCons (tC (.ty "bool")) tNil)))) rfl sc__law_right.nd (pi_list (pv 2)) (blkOk_by (N := N__law_right) (sc := defScope s__law_right) (by decide +kernel)) (fun _ _ _ _ _ => (pg_name (i := 3) sc__law_right.nd rfl (.inl rfl) (.inr rfl))) (fun _ _ _ _ _ => pts_nil) (fun _ _ _ _ _ => (pe_callB call_isi (by rfl) bi.m_isinstance (by decide +kernel) (pa_cons (pv 3) (pa_cons (pe_bltn (v := .ty "bool") (by rfl) bi.m_bool (by decide +kernel) rfl) pa_nil))))) pa_nil))))
          (pss_one (ps_ret pe_bl))
          pss_nil)
        (pss_one (ps_if (pt_cmpR (op_neD hu64) (pv 2) (pe_lst (pa_cons (pe_call (C__law_is_basket.G.mono (by decide)) hr (by rfl) C__law_is_basket.g C__law_is_basket.kp C__law_is_basket.b .nil pass0 (pa_cons (pv 0) pa_nil)) (pa_cons (pe_call (C__law_is_frame.G.mono (by decide)) hr (by rfl) C__law_is_frame.g C__law_is_frame.kp C__law_is_frame.b .nil pass0 (pa_cons (pv 0) pa_nil)) pa_nil))) (nomark _))
          (pss_one (ps_ret pe_bl))
          pss_nil)))))
    (pss_one (ps_ret pe_bl))), ?_⟩
    refine ⟨2, rfl, by decide, by decide, for_range (n := 2) (fun i σ' H' => Same H H' ∧ ∃ (x1 x2 x3 : Option V), σ' = [some v, x1, x2, x3]) ⟨Same.refl _, _, _, _, rfl⟩ (fun i σ' H' hi hm => ?_) (fun σ' H' hm => q _ hm.1)⟩
    obtain ⟨sm, x1, x2, x3, rfl⟩ := hm
    have d0 := dd.mono (Same.keep sm)
    refine ⟨_, rfl, B, p, l, Y, v, d, rfl, d0, hB, fun H1 s1' => ?_⟩
    have d1 := d0.mono (Same.keep s1')
    refine ⟨_, rfl, B, p, l, Y, v, d, rfl, d1, hB, fun H2 s2' => ⟨(by show 2 ≤ sizeLine; decide), fun L nL => ?_⟩⟩
    have sL : Same H2 (upd H2 L (.lst [.bl (isBasketD d), .bl (isFrameD d)])) := same_new (Same.refl _) nL
    have eL : upd H2 L (.lst [.bl (isBasketD d), .bl (isFrameD d)]) L = some (.lst [.bl (isBasketD d), .bl (isFrameD d)]) := upd_same
    generalize upd H2 L (.lst [.bl (isBasketD d), .bl (isFrameD d)]) = H3 at sL eL
    have d3 := d1.mono (Same.keep (s2'.trans sL))
    refine ⟨_, rfl, L, rfl, ⟨_, SqL.of eL⟩, fun D nD => ?_⟩
    refine lc_list (xs := [.bl (isBasketD d), .bl (isFrameD d)]) (fun i H' => Same H3 H' ∧ H' D = some (.lst ((List.replicate i true).map V.bl))) ⟨same_new (Same.refl _) nD, upd_same⟩ (fun i H' hi hm => SqL.of (hm.1 _ _ eL)) (fun i z H' hx hm => ?_) (fun H' hm => ?_)
    · obtain ⟨sm2, eD⟩ := hm
      have hi2 : i < 2 := (List.getElem?_eq_some_iff.mp hx).1
      obtain ⟨c, rfl⟩ : ∃ c, z = .bl c := by
        have := List.mem_of_getElem? hx
        simp only [List.mem_cons, List.not_mem_nil, or_false] at this
        rcases this with h | h
        · exact ⟨_, h⟩
        · exact ⟨_, h⟩
      refine ⟨rfl, yesIte ?_⟩
      refine ⟨_, rfl, _, _, _, _, _, rfl, ClsV.ty "bool", .base (.bl _), kit_ty (show kitB "bool" "bool" = some true by decide +kernel), _, eD, ?_, same_mine sm2 nD, ?_⟩
      · rw [List.length_map, List.length_replicate]
        exact small1000 (by omega)
      · rw [upd_same, show List.replicate (i + 1) true = List.replicate i true ++ [true] by rw [List.replicate_succ'], List.map_append]
        rfl
    obtain ⟨sm2, eD⟩ := hm
    refine ⟨D, _, rfl, SqL.of eD, _, rfl, ?_⟩
    show if (!(true && (true && true))) = true then _ else _
    refine iteNT ?_
    have d4 := d3.mono (Same.keep sm2)
    refine ⟨_, rfl, _, rfl, B, p, l, Y, v, d, rfl, d4, hB, fun H5 s5 => ?_⟩
    refine ⟨_, rfl, B, p, l, Y, v, d, rfl, d4.mono (Same.keep s5), hB, fun H6 s6 => ⟨(by show 2 ≤ sizeLine; decide), fun L2 nL2 => ?_⟩⟩
    have sL2 : Same H6 (upd H6 L2 (.lst [.bl (isBasketD d), .bl (isFrameD d)])) := same_new (Same.refl _) nL2
    have eL2 : upd H6 L2 (.lst [.bl (isBasketD d), .bl (isFrameD d)]) L2 = some (.lst [.bl (isBasketD d), .bl (isFrameD d)]) := upd_same
    have s36 := ((sm2.trans s5).trans s6).trans sL2
    refine ⟨.list [.bool (isBasketD d), .bool (isFrameD d)], .list [.bool (isBasketD d), .bool (isFrameD d)], .lst (SqL.of (s36 _ _ eL)) (.cons (.bl _) (.cons (.bl _) .nil)), .lst (SqL.of eL2) (.cons (.bl _) (.cons (.bl _) .nil)), rfl, rfl, _, rfl, ?_⟩
    have e : PyData.eqv (.list [.bool (isBasketD d), .bool (isFrameD d)]) (.list [.bool (isBasketD d), .bool (isFrameD d)]) = true := by
      cases isBasketD d <;> cases isFrameD d <;> rfl
    rw [e]
    refine iteNT ?_
    exact ⟨((sm.trans s1').trans s2').trans (sL.trans s36), _, _, _, rfl⟩
theorem ok__law_edges {f : Addr} {fd : FuncData} {k : Nat} (F : Fun K "_law_edges" "_law_edges" s__law_edges f fd) (bi : Bi mg) : FnOk P w K mg base CX0 (k + 1) f fd P__law_edges spEdges41 := by
  refine F.ok sc__law_edges (fun vs H Q E h => ?_) (fun cdv A outer s H vs Q E hr h => ?_)
  · obtain ⟨rfl, _⟩ := h
    rfl
  · obtain ⟨rfl, q⟩ := h
    refine ⟨_, (pss_cons (ps_set (i := 0) sc__law_edges.nd rfl (.inl rfl) (pe_tup (pa_cons pe_int (pa_cons (pe_tup (pa_cons (pe_tup (pa_cons pe_int (pa_cons pe_int pa_nil))) (pa_cons (pe_tup (pa_cons pe_int (pa_cons pe_int pa_nil))) pa_nil))) pa_nil))))
    (pss_cons (ps_set (i := 1) sc__law_edges.nd rfl (.inl rfl) (pe_callTy call_tuple_of (by rfl) bi.m_tuple (by decide +kernel) (pa_cons (pe_lc (own := [("_law_k", 3)]) (g := (gName 3)) (tt := tYes) rfl sc__law_edges.nd (pi_range1 rfl bi.m_range (pa_cons pe_int pa_nil)) (blkOk_by (N := N__law_edges) (sc := defScope s__law_edges) (by decide +kernel)) (fun _ _ _ _ _ => (pg_name (i := 3) sc__law_edges.nd rfl (.inl rfl) (.inr rfl))) (fun _ _ _ _ _ => pts_nil) (fun _ _ _ _ _ => (pe_tup (pa_cons (pe_op op_sub pe_int (pv 3)) (pa_cons pe_int pa_nil))))) pa_nil)))
    (pss_cons (ps_set (i := 2) sc__law_edges.nd rfl (.inl rfl) (pe_lst (pa_cons (pe_tup (pa_cons (pe_tup (pa_cons (pv 0) (pa_cons pe_int pa_nil))) pa_nil)) (pa_cons (pe_tup (pa_cons (pe_tup (pa_cons (pv 0) (pa_cons pe_int pa_nil))) pa_nil)) (pa_cons (pe_op op_repT (pe_tup (pa_cons (pe_tup (pa_cons (pv 0) (pa_cons pe_non pa_nil))) pa_nil)) pe_int) (pa_cons (pe_op op_repT (pe_tup (pa_cons (pe_tup (pa_cons (pv 0) (pa_cons pe_int pa_nil))) pa_nil)) pe_int) (pa_cons (pe_tup (pa_cons (pe_tup (pa_cons (pe_tup (pa_cons pe_int (pa_cons (pe_tup (pa_cons (pe_tup (pa_cons pe_int (pa_cons pe_int pa_nil))) (pa_cons (pe_tup (pa_cons pe_int (pa_cons pe_int pa_nil))) pa_nil))) pa_nil))) (pa_cons pe_int pa_nil))) pa_nil)) (pa_cons (pe_tup pa_nil) pa_nil))))))))
    (pss_cons (ps_set (i := 2) sc__law_edges.nd rfl (.inl rfl) (pe_op op_cat (pv 2) (pe_lst (pa_cons (pe_tup (pa_cons (pe_tup (pa_cons (pe_tup (pa_cons pe_int (pa_cons (pv 1) pa_nil))) (pa_cons pe_int pa_nil))) pa_nil)) (pa_cons (pe_tup (pa_cons (pe_tup (pa_cons (pe_tup (pa_cons pe_int (pa_cons (pe_op op_catA (pv 1) (pe_tup (pa_cons (pe_tup (pa_cons pe_int (pa_cons pe_int pa_nil))) pa_nil))) pa_nil))) (pa_cons pe_int pa_nil))) pa_nil)) (pa_cons (pe_tup (pa_cons (pe_tup (pa_cons (pe_tup (pa_cons pe_int (pa_cons (pe_tup (pa_cons (pe_tup (pa_cons pe_int (pa_cons pe_int pa_nil))) pa_nil)) pa_nil))) (pa_cons pe_int pa_nil))) pa_nil)) pa_nil))))))
    (pss_cons (ps_set (i := 2) sc__law_edges.nd rfl (.inl rfl) (pe_op op_cat (pv 2) (pe_lst (pa_cons (pe_tup (pa_cons (pe_tup (pa_cons (pe_tup (pa_cons pe_int (pa_cons (pe_tup (pa_cons (pe_tup (pa_cons pe_int (pa_cons pe_int pa_nil))) pa_nil)) pa_nil))) (pa_cons pe_int pa_nil))) pa_nil)) (pa_cons (pe_tup (pa_cons (pe_tup (pa_cons (pe_tup (pa_cons pe_int (pa_cons (pe_tup (pa_cons (pe_tup (pa_cons pe_int (pa_cons pe_int pa_nil))) pa_nil)) pa_nil))) (pa_cons pe_int pa_nil))) pa_nil)) (pa_cons (pe_tup (pa_cons (pe_tup (pa_cons (pe_tup (pa_cons pe_int (pa_cons (pe_tup pa_nil) pa_nil))) (pa_cons pe_int pa_nil))) pa_nil)) pa_nil))))))
    (pss_cons (ps_set (i := 2) sc__law_edges.nd rfl (.inl rfl) (pe_op op_cat (pv 2) (pe_lst (pa_cons (pe_tup (pa_cons (pe_tup (pa_cons (pe_tup (pa_cons pe_int (pa_cons (pe_tup (pa_cons (pe_tup (pa_cons pe_int (pa_cons pe_int pa_nil))) (pa_cons (pe_tup (pa_cons pe_int (pa_cons pe_int pa_nil))) pa_nil))) pa_nil))) (pa_cons pe_int pa_nil))) pa_nil)) (pa_cons (pe_tup (pa_cons (pe_tup (pa_cons (pe_tup (pa_cons pe_int (pa_cons (pe_tup (pa_cons (pe_tup (pa_cons pe_int (pa_cons pe_int pa_nil))) pa_nil)) pa_nil))) (pa_cons pe_int pa_nil))) pa_nil)) pa_nil)))))
    (pss_cons (ps_set (i := 2) sc__law_edges.nd rfl (.inl rfl) (pe_op op_cat (pv 2) (pe_lst (pa_cons (pe_tup (pa_cons pe_int (pa_cons pe_int (pa_cons pe_int pa_nil)))) (pa_cons (pe_tup (pa_cons pe_int (pa_cons pe_int (pa_cons pe_int pa_nil)))) (pa_cons (pe_tup (pa_cons pe_int (pa_cons pe_int (pa_cons pe_int pa_nil)))) (pa_cons (pe_tup (pa_cons pe_int (pa_cons pe_int (pa_cons pe_int pa_nil)))) (pa_cons (pe_tup (pa_cons pe_int (pa_cons pe_int (pa_cons pe_int pa_nil)))) (pa_cons (pe_tup (pa_cons pe_int (pa_cons pe_int (pa_cons pe_int pa_nil)))) (pa_cons (pe_tup (pa_cons pe_int (pa_cons (pe_op op_pow pe_int pe_int) (pa_cons pe_int pa_nil)))) pa_nil))))))))))
    (pss_cons (ps_set (i := 2) sc__law_edges.nd rfl (.inl rfl) (pe_op op_cat (pv 2) (pe_lst (pa_cons (pe_tup (pa_cons pe_int (pa_cons pe_int pa_nil))) (pa_cons (pe_tup (pa_cons pe_int (pa_cons pe_int (pa_cons pe_int (pa_cons pe_int pa_nil))))) (pa_cons pe_non (pa_cons pe_bl (pa_cons pe_int (pa_cons pe_str (pa_cons (pe_lst pa_nil) (pa_cons pe_dnewK (pa_cons (pe_lst (pa_cons (pe_tup (pa_cons (pv 0) (pa_cons pe_int pa_nil))) pa_nil)) (pa_cons (pe_tup (pa_cons (pv 0) (pa_cons pe_int pa_nil))) (pa_cons (pe_tup (pa_cons (pe_tup (pa_cons (pv 0) pa_nil)) pa_nil)) pa_nil))))))))))))))
    (pss_one (ps_ret (pe_op op_cat (pv 2) (pe_lst (pa_cons (pe_tup (pa_cons (pe_tup (pa_cons (pv 0) (pa_cons pe_int (pa_cons pe_int pa_nil)))) pa_nil)) (pa_cons (pe_tup (pa_cons (pe_lst (pa_cons (pv 0) (pa_cons pe_int pa_nil))) pa_nil)) (pa_cons (pe_tup (pa_cons (pe_tup (pa_cons (pv 0) (pa_cons pe_bl pa_nil))) pa_nil)) pa_nil))))))))))))))), ?_⟩
    refine ⟨(by show 2 ≤ sizeLine; decide), fun a1 n1 => ?_⟩
    have s_1 : Same H (upd H a1 (.tup [.int 2, .int 3])) := same_new (Same.refl _) n1
    have e1 : upd H a1 (.tup [.int 2, .int 3]) a1 = some (.tup [.int 2, .int 3]) := upd_same
    generalize upd H a1 (.tup [.int 2, .int 3]) = H1 at s_1 e1
    refine ⟨(by show 2 ≤ sizeLine; decide), fun a2 n2 => ?_⟩
    have s_2 : Same H1 (upd H1 a2 (.tup [.int 1, .int 5])) := same_new (Same.refl _) n2
    have e2 : upd H1 a2 (.tup [.int 1, .int 5]) a2 = some (.tup [.int 1, .int 5]) := upd_same
    generalize upd H1 a2 (.tup [.int 1, .int 5]) = H2 at s_2 e2
    refine ⟨(by show 2 ≤ sizeLine; decide), fun a3 n3 => ?_⟩
    have s_3 : Same H2 (upd H2 a3 (.tup [.ref a1, .ref a2])) := same_new (Same.refl _) n3
    have e3 : upd H2 a3 (.tup [.ref a1, .ref a2]) a3 = some (.tup [.ref a1, .ref a2]) := upd_same
    generalize upd H2 a3 (.tup [.ref a1, .ref a2]) = H3 at s_3 e3
    refine ⟨(by show 2 ≤ sizeLine; decide), fun one n4 => ?_⟩
    have s_4 : Same H3 (upd H3 one (.tup [.int 0, .ref a3])) := same_new (Same.refl _) n4
    have e4 : upd H3 one (.tup [.int 0, .ref a3]) one = some (.tup [.int 0, .ref a3]) := upd_same
    generalize upd H3 one (.tup [.int 0, .ref a3]) = H4 at s_4 e4
    refine ⟨8, rfl, by decide, by decide, fun D nD => ?_⟩
    refine lc_it (walk_range (lo := 0) (n := 8)) (fun i H' => Same H4 H' ∧ ∃ cs ps, H' D = some (.lst (cs.map V.ref)) ∧ TupsAt H' cs (ps.map stepV) ∧ ps.length = i ∧ ∀ x ∈ ps, -2 ^ 140 ≤ x.1 ∧ x.1 ≤ 2 ^ 140 ∧ -2 ^ 140 ≤ x.2 ∧ x.2 ≤ 2 ^ 140) ⟨same_new (Same.refl _) nD, [], [], upd_same, TupsAt.nil, rfl, fun x hx => by cases hx⟩ (fun i H' hi hm => trivial) (fun i x H5 H' hlt hm hy => ?_) (fun H' hm => ?_)
    · obtain ⟨sm, cs, ps, eD, hcs, hpl, hbd⟩ := hm
      obtain ⟨rfl, rfl⟩ := hy
      refine ⟨rfl, yesIte ?_⟩
      refine ⟨_, rfl, _, _, rfl, rfl, (by show 2 ≤ sizeLine; decide), fun z nz => ?_⟩
      have sz : Same H' (upd H' z (.tup [.int (9 - (0 + (i : Int))), .int 1])) := same_new (Same.refl _) nz
      have ez : upd H' z (.tup [.int (9 - (0 + (i : Int))), .int 1]) z = some (.tup [.int (9 - (0 + (i : Int))), .int 1]) := upd_same
      have eD2 := sz _ _ eD
      have hcl := hcs.1
      rw [List.length_map] at hcl
      refine ⟨_, eD2, small1000 (by rw [List.length_map]; omega), same_mine (sm.trans sz) nD, cs ++ [z], ps ++ [(9 - (0 + (i : Int)), 1)], ?_, ?_, ?_, fun x hx => ?_⟩
      · rw [upd_same, List.map_append]
        rfl
      · rw [List.map_append]
        exact ((hcs.mono (Tups.same sz)).snoc ez).mono (Tups.ls eD2)
      · rw [List.length_append, hpl]
        rfl
      · rcases List.mem_append.mp hx with hx | hx
        · exact hbd x hx
        · rw [List.mem_singleton.mp hx]
          refine ⟨?_, ?_, ?_, ?_⟩
          · show -2 ^ 140 ≤ 9 - (0 + (i : Int))
            omega
          · show 9 - (0 + (i : Int)) ≤ 2 ^ 140
            omega
          · show (-2 ^ 140 : Int) ≤ 1
            decide
          · show (1 : Int) ≤ 2 ^ 140
            decide
    obtain ⟨sm, cs, ps, eD, hcs, hpl, hbd⟩ := hm
    refine ⟨D, _, rfl, .inl ⟨SqL.of eD, fun stairs nst => ?_⟩⟩
    have sG : Same H' (upd H' stairs (.tup (cs.map V.ref))) := same_new (Same.refl _) nst
    have est : upd H' stairs (.tup (cs.map V.ref)) stairs = some (.tup (cs.map V.ref)) := upd_same
    generalize upd H' stairs (.tup (cs.map V.ref)) = G0 at sG est
    have s4G := sm.trans sG
    have sG0 : Same H G0 := (((s_1.trans s_2).trans s_3).trans s_4).trans s4G
    have hpl_G0 := sG _ _ eD
    have hstl : cs.length = 8 := by
      have := hcs.1
      rw [List.length_map] at this
      omega
    have nt : ∀ a xs, G0 a = some (.tup xs) → a ≠ D ∧ a ≠ D := fun a xs e => by
      have : a ≠ D := fun h => by
        rw [h, hpl_G0] at e
        cases e
      exact ⟨this, this⟩
    have dst : DVs (2 ^ 140) D D [] G0 (cs.map V.ref) 24 1 := by
      refine ⟨_, stepG_dd nt (hcs.mono (Tups.same sG)) hbd, ?_, fun d hd => ?_⟩
      · have := bulkAll_le (c := 2) (ds := ps.map fun p => PyData.tuple [.int p.1, .int p.2]) fun d hd => by
          obtain ⟨x, _, rfl⟩ := List.mem_map.mp hd
          exact Nat.le_refl _
        rw [List.length_map] at this
        omega
      · obtain ⟨x, _, rfl⟩ := List.mem_map.mp hd
        exact Nat.le_refl _
    have fst : DV (2 ^ 140) D D [] G0 (.ref stairs) 24 2 := dst.tup (nt _ _ est).1 (nt _ _ est).1 List.not_mem_nil est
    have e1G := s4G _ _ (s_4 _ _ (s_3 _ _ (s_2 _ _ e1)))
    have e2G := s4G _ _ (s_4 _ _ (s_3 _ _ e2))
    have e3G := s4G _ _ (s_4 _ _ e3)
    have e4G := s4G _ _ e4
    have int0 : ∀ n : Int, -2 ^ 140 ≤ n → n ≤ 2 ^ 140 → ∀ k, DV (2 ^ 140) D D [] G0 (.int n) 0 k := fun n h1 h2 k => DV.int h1 h2
    have d1 : DV (2 ^ 140) D D [] G0 (.ref a1) 2 1 := (DVs.cons (int0 2 (by decide) (by decide) 0) (DVs.one (int0 3 (by decide) (by decide) 0))).tup (nt _ _ e1G).1 (nt _ _ e1G).1 List.not_mem_nil e1G
    have d2 : DV (2 ^ 140) D D [] G0 (.ref a2) 2 1 := (DVs.cons (int0 1 (by decide) (by decide) 0) (DVs.one (int0 5 (by decide) (by decide) 0))).tup (nt _ _ e2G).1 (nt _ _ e2G).1 List.not_mem_nil e2G
    have d3 : DV (2 ^ 140) D D [] G0 (.ref a3) 6 2 := (DVs.cons d1 (DVs.one d2)).tup (nt _ _ e3G).1 (nt _ _ e3G).1 List.not_mem_nil e3G
    have fone : DV (2 ^ 140) D D [] G0 (.ref one) 8 3 := (DVs.cons (int0 0 (by decide) (by decide) 2) (DVs.one d3)).tup (nt _ _ e4G).1 (nt _ _ e4G).1 List.not_mem_nil e4G
    clear e1G e2G e3G e4G d1 d2 d3 int0
    refine ⟨_, rfl, (by show 2 ≤ sizeLine; decide), fun a11 n11 => ?_⟩
    have s_G11 : Same G0 (upd G0 a11 (.tup [.ref one, .int 9])) := same_new (Same.refl _) n11
    have f11 : DV (2 ^ 140) D D [] (upd G0 a11 (.tup [.ref one, .int 9])) (.ref a11) 10 4 := (DVs.mono (DVs.cons (DV.up fone (Int.le_refl _) (Nat.le_refl _) (show 3 ≤ 3 by decide)) (DVs.cons (DV.up (DV.int (B := 2 ^ 140) (b := 0) (k := 0) (by decide) (by decide)) (Int.le_refl _) (Nat.le_refl _) (show 0 ≤ 3 by decide)) (DVs.nil (n := 3)))) (Same.keep s_G11)).tup (ne_of_none hpl_G0 n11).symm (ne_of_none hpl_G0 n11).symm List.not_mem_nil upd_same
    have e11 : upd G0 a11 (.tup [.ref one, .int 9]) a11 = some (.tup [.ref one, .int 9]) := upd_same
    generalize upd G0 a11 (.tup [.ref one, .int 9]) = G11 at s_G11 f11 e11
    have hpl_G11 := s_G11 _ _ hpl_G0
    refine ⟨(by show 1 ≤ sizeLine; decide), fun a12 n12 => ?_⟩
    have s_G12 : Same G11 (upd G11 a12 (.tup [.ref a11])) := same_new (Same.refl _) n12
    have f12 : DV (2 ^ 140) D D [] (upd G11 a12 (.tup [.ref a11])) (.ref a12) 11 5 := (DVs.mono (DVs.cons (DV.up f11 (Int.le_refl _) (Nat.le_refl _) (show 4 ≤ 4 by decide)) (DVs.nil (n := 4))) (Same.keep s_G12)).tup (ne_of_none hpl_G11 n12).symm (ne_of_none hpl_G11 n12).symm List.not_mem_nil upd_same
    have e12 : upd G11 a12 (.tup [.ref a11]) a12 = some (.tup [.ref a11]) := upd_same
    generalize upd G11 a12 (.tup [.ref a11]) = G12 at s_G12 f12 e12
    have hpl_G12 := s_G12 _ _ hpl_G11
    refine ⟨_, rfl, (by show 2 ≤ sizeLine; decide), fun a13 n13 => ?_⟩
    have s_G13 : Same G12 (upd G12 a13 (.tup [.ref one, .int 10])) := same_new (Same.refl _) n13
    have f13 : DV (2 ^ 140) D D [] (upd G12 a13 (.tup [.ref one, .int 10])) (.ref a13) 10 4 := (DVs.mono (DVs.cons (DV.up (fone.mono (Same.keep (s_G11.trans s_G12))) (Int.le_refl _) (Nat.le_refl _) (show 3 ≤ 3 by decide)) (DVs.cons (DV.up (DV.int (B := 2 ^ 140) (b := 0) (k := 0) (by decide) (by decide)) (Int.le_refl _) (Nat.le_refl _) (show 0 ≤ 3 by decide)) (DVs.nil (n := 3)))) (Same.keep s_G13)).tup (ne_of_none hpl_G12 n13).symm (ne_of_none hpl_G12 n13).symm List.not_mem_nil upd_same
    have e13 : upd G12 a13 (.tup [.ref one, .int 10]) a13 = some (.tup [.ref one, .int 10]) := upd_same
    generalize upd G12 a13 (.tup [.ref one, .int 10]) = G13 at s_G13 f13 e13
    have hpl_G13 := s_G13 _ _ hpl_G12
    refine ⟨(by show 1 ≤ sizeLine; decide), fun a14 n14 => ?_⟩
    have s_G14 : Same G13 (upd G13 a14 (.tup [.ref a13])) := same_new (Same.refl _) n14
    have f14 : DV (2 ^ 140) D D [] (upd G13 a14 (.tup [.ref a13])) (.ref a14) 11 5 := (DVs.mono (DVs.cons (DV.up f13 (Int.le_refl _) (Nat.le_refl _) (show 4 ≤ 4 by decide)) (DVs.nil (n := 4))) (Same.keep s_G14)).tup (ne_of_none hpl_G13 n14).symm (ne_of_none hpl_G13 n14).symm List.not_mem_nil upd_same
    have e14 : upd G13 a14 (.tup [.ref a13]) a14 = some (.tup [.ref a13]) := upd_same
    generalize upd G13 a14 (.tup [.ref a13]) = G14 at s_G14 f14 e14
    have hpl_G14 := s_G14 _ _ hpl_G13
    refine ⟨_, rfl, (by show 2 ≤ sizeLine; decide), fun a15 n15 => ?_⟩
    have s_G15 : Same G14 (upd G14 a15 (.tup [.ref one, .non])) := same_new (Same.refl _) n15
    have f15 : DV (2 ^ 140) D D [] (upd G14 a15 (.tup [.ref one, .non])) (.ref a15) 10 4 := (DVs.mono (DVs.cons (DV.up (fone.mono (Same.keep (((s_G11.trans s_G12).trans s_G13).trans s_G14))) (Int.le_refl _) (Nat.le_refl _) (show 3 ≤ 3 by decide)) (DVs.cons (DV.up (DV.non (b := 0) (k := 0)) (Int.le_refl _) (Nat.le_refl _) (show 0 ≤ 3 by decide)) (DVs.nil (n := 3)))) (Same.keep s_G15)).tup (ne_of_none hpl_G14 n15).symm (ne_of_none hpl_G14 n15).symm List.not_mem_nil upd_same
    have e15 : upd G14 a15 (.tup [.ref one, .non]) a15 = some (.tup [.ref one, .non]) := upd_same
    generalize upd G14 a15 (.tup [.ref one, .non]) = G15 at s_G15 f15 e15
    have hpl_G15 := s_G15 _ _ hpl_G14
    refine ⟨(by show 1 ≤ sizeLine; decide), fun a16 n16 => ?_⟩
    have s_G16 : Same G15 (upd G15 a16 (.tup [.ref a15])) := same_new (Same.refl _) n16
    have f16 : DV (2 ^ 140) D D [] (upd G15 a16 (.tup [.ref a15])) (.ref a16) 11 5 := (DVs.mono (DVs.cons (DV.up f15 (Int.le_refl _) (Nat.le_refl _) (show 4 ≤ 4 by decide)) (DVs.nil (n := 4))) (Same.keep s_G16)).tup (ne_of_none hpl_G15 n16).symm (ne_of_none hpl_G15 n16).symm List.not_mem_nil upd_same
    have e16 : upd G15 a16 (.tup [.ref a15]) a16 = some (.tup [.ref a15]) := upd_same
    generalize upd G15 a16 (.tup [.ref a15]) = G16 at s_G16 f16 e16
    have hpl_G16 := s_G16 _ _ hpl_G15
    refine ⟨a16, 4, _, rfl, rfl, SqT.of e16, (fun h => by cases h), by decide, by decide, (by show 1 ≤ 1000; decide), fun a17 n17 => ?_⟩
    have s_G17 : Same G16 (upd G16 a17 (.tup [.ref a15, .ref a15, .ref a15, .ref a15])) := same_new (Same.refl _) n17
    have f17 : DV (2 ^ 140) D D [] (upd G16 a17 (.tup [.ref a15, .ref a15, .ref a15, .ref a15])) (.ref a17) 44 5 := (DVs.mono (DVs.cons (DV.up (f15.mono (Same.keep s_G16)) (Int.le_refl _) (Nat.le_refl _) (show 4 ≤ 4 by decide)) (DVs.cons (DV.up (f15.mono (Same.keep s_G16)) (Int.le_refl _) (Nat.le_refl _) (show 4 ≤ 4 by decide)) (DVs.cons (DV.up (f15.mono (Same.keep s_G16)) (Int.le_refl _) (Nat.le_refl _) (show 4 ≤ 4 by decide)) (DVs.cons (DV.up (f15.mono (Same.keep s_G16)) (Int.le_refl _) (Nat.le_refl _) (show 4 ≤ 4 by decide)) (DVs.nil (n := 4)))))) (Same.keep s_G17)).tup (ne_of_none hpl_G16 n17).symm (ne_of_none hpl_G16 n17).symm List.not_mem_nil upd_same
    show tCons _ _ _ (upd G16 a17 (.tup [.ref a15, .ref a15, .ref a15, .ref a15])) _
    generalize upd G16 a17 (.tup [.ref a15, .ref a15, .ref a15, .ref a15]) = G17 at s_G17 f17
    have hpl_G17 := s_G17 _ _ hpl_G16
    refine ⟨_, rfl, (by show 2 ≤ sizeLine; decide), fun a18 n18 => ?_⟩
    have s_G18 : Same G17 (upd G17 a18 (.tup [.ref one, .int 0])) := same_new (Same.refl _) n18
    have f18 : DV (2 ^ 140) D D [] (upd G17 a18 (.tup [.ref one, .int 0])) (.ref a18) 10 4 := (DVs.mono (DVs.cons (DV.up (fone.mono (Same.keep ((((((s_G11.trans s_G12).trans s_G13).trans s_G14).trans s_G15).trans s_G16).trans s_G17))) (Int.le_refl _) (Nat.le_refl _) (show 3 ≤ 3 by decide)) (DVs.cons (DV.up (DV.int (B := 2 ^ 140) (b := 0) (k := 0) (by decide) (by decide)) (Int.le_refl _) (Nat.le_refl _) (show 0 ≤ 3 by decide)) (DVs.nil (n := 3)))) (Same.keep s_G18)).tup (ne_of_none hpl_G17 n18).symm (ne_of_none hpl_G17 n18).symm List.not_mem_nil upd_same
    have e18 : upd G17 a18 (.tup [.ref one, .int 0]) a18 = some (.tup [.ref one, .int 0]) := upd_same
    generalize upd G17 a18 (.tup [.ref one, .int 0]) = G18 at s_G18 f18 e18
    have hpl_G18 := s_G18 _ _ hpl_G17
    refine ⟨(by show 1 ≤ sizeLine; decide), fun a19 n19 => ?_⟩
    have s_G19 : Same G18 (upd G18 a19 (.tup [.ref a18])) := same_new (Same.refl _) n19
    have f19 : DV (2 ^ 140) D D [] (upd G18 a19 (.tup [.ref a18])) (.ref a19) 11 5 := (DVs.mono (DVs.cons (DV.up f18 (Int.le_refl _) (Nat.le_refl _) (show 4 ≤ 4 by decide)) (DVs.nil (n := 4))) (Same.keep s_G19)).tup (ne_of_none hpl_G18 n19).symm (ne_of_none hpl_G18 n19).symm List.not_mem_nil upd_same
    have e19 : upd G18 a19 (.tup [.ref a18]) a19 = some (.tup [.ref a18]) := upd_same
    generalize upd G18 a19 (.tup [.ref a18]) = G19 at s_G19 f19 e19
    have hpl_G19 := s_G19 _ _ hpl_G18
    refine ⟨a19, 5, _, rfl, rfl, SqT.of e19, (fun h => by cases h), by decide, by decide, (by show 1 ≤ 1000; decide), fun a20 n20 => ?_⟩
    have s_G20 : Same G19 (upd G19 a20 (.tup [.ref a18, .ref a18, .ref a18, .ref a18, .ref a18])) := same_new (Same.refl _) n20
    have f20 : DV (2 ^ 140) D D [] (upd G19 a20 (.tup [.ref a18, .ref a18, .ref a18, .ref a18, .ref a18])) (.ref a20) 55 5 := (DVs.mono (DVs.cons (DV.up (f18.mono (Same.keep s_G19)) (Int.le_refl _) (Nat.le_refl _) (show 4 ≤ 4 by decide)) (DVs.cons (DV.up (f18.mono (Same.keep s_G19)) (Int.le_refl _) (Nat.le_refl _) (show 4 ≤ 4 by decide)) (DVs.cons (DV.up (f18.mono (Same.keep s_G19)) (Int.le_refl _) (Nat.le_refl _) (show 4 ≤ 4 by decide)) (DVs.cons (DV.up (f18.mono (Same.keep s_G19)) (Int.le_refl _) (Nat.le_refl _) (show 4 ≤ 4 by decide)) (DVs.cons (DV.up (f18.mono (Same.keep s_G19)) (Int.le_refl _) (Nat.le_refl _) (show 4 ≤ 4 by decide)) (DVs.nil (n := 4))))))) (Same.keep s_G20)).tup (ne_of_none hpl_G19 n20).symm (ne_of_none hpl_G19 n20).symm List.not_mem_nil upd_same
    show tCons _ _ _ (upd G19 a20 (.tup [.ref a18, .ref a18, .ref a18, .ref a18, .ref a18])) _
    generalize upd G19 a20 (.tup [.ref a18, .ref a18, .ref a18, .ref a18, .ref a18]) = G20 at s_G20 f20
    have hpl_G20 := s_G20 _ _ hpl_G19
    refine ⟨(by show 2 ≤ sizeLine; decide), fun a21 n21 => ?_⟩
    have s_G21 : Same G20 (upd G20 a21 (.tup [.int 2, .int 3])) := same_new (Same.refl _) n21
    have f21 : DV (2 ^ 140) D D [] (upd G20 a21 (.tup [.int 2, .int 3])) (.ref a21) 2 1 := (DVs.mono (DVs.cons (DV.up (DV.int (B := 2 ^ 140) (b := 0) (k := 0) (by decide) (by decide)) (Int.le_refl _) (Nat.le_refl _) (show 0 ≤ 0 by decide)) (DVs.cons (DV.up (DV.int (B := 2 ^ 140) (b := 0) (k := 0) (by decide) (by decide)) (Int.le_refl _) (Nat.le_refl _) (show 0 ≤ 0 by decide)) (DVs.nil (n := 0)))) (Same.keep s_G21)).tup (ne_of_none hpl_G20 n21).symm (ne_of_none hpl_G20 n21).symm List.not_mem_nil upd_same
    have e21 : upd G20 a21 (.tup [.int 2, .int 3]) a21 = some (.tup [.int 2, .int 3]) := upd_same
    generalize upd G20 a21 (.tup [.int 2, .int 3]) = G21 at s_G21 f21 e21
    have hpl_G21 := s_G21 _ _ hpl_G20
    refine ⟨(by show 2 ≤ sizeLine; decide), fun a22 n22 => ?_⟩
    have s_G22 : Same G21 (upd G21 a22 (.tup [.int 1, .int 6])) := same_new (Same.refl _) n22
    have f22 : DV (2 ^ 140) D D [] (upd G21 a22 (.tup [.int 1, .int 6])) (.ref a22) 2 1 := (DVs.mono (DVs.cons (DV.up (DV.int (B := 2 ^ 140) (b := 0) (k := 0) (by decide) (by decide)) (Int.le_refl _) (Nat.le_refl _) (show 0 ≤ 0 by decide)) (DVs.cons (DV.up (DV.int (B := 2 ^ 140) (b := 0) (k := 0) (by decide) (by decide)) (Int.le_refl _) (Nat.le_refl _) (show 0 ≤ 0 by decide)) (DVs.nil (n := 0)))) (Same.keep s_G22)).tup (ne_of_none hpl_G21 n22).symm (ne_of_none hpl_G21 n22).symm List.not_mem_nil upd_same
    have e22 : upd G21 a22 (.tup [.int 1, .int 6]) a22 = some (.tup [.int 1, .int 6]) := upd_same
    generalize upd G21 a22 (.tup [.int 1, .int 6]) = G22 at s_G22 f22 e22
    have hpl_G22 := s_G22 _ _ hpl_G21
    refine ⟨(by show 2 ≤ sizeLine; decide), fun a23 n23 => ?_⟩
    have s_G23 : Same G22 (upd G22 a23 (.tup [.ref a21, .ref a22])) := same_new (Same.refl _) n23
    have f23 : DV (2 ^ 140) D D [] (upd G22 a23 (.tup [.ref a21, .ref a22])) (.ref a23) 6 2 := (DVs.mono (DVs.cons (DV.up (f21.mono (Same.keep s_G22)) (Int.le_refl _) (Nat.le_refl _) (show 1 ≤ 1 by decide)) (DVs.cons (DV.up f22 (Int.le_refl _) (Nat.le_refl _) (show 1 ≤ 1 by decide)) (DVs.nil (n := 1)))) (Same.keep s_G23)).tup (ne_of_none hpl_G22 n23).symm (ne_of_none hpl_G22 n23).symm List.not_mem_nil upd_same
    have e23 : upd G22 a23 (.tup [.ref a21, .ref a22]) a23 = some (.tup [.ref a21, .ref a22]) := upd_same
    generalize upd G22 a23 (.tup [.ref a21, .ref a22]) = G23 at s_G23 f23 e23
    have hpl_G23 := s_G23 _ _ hpl_G22
    refine ⟨(by show 2 ≤ sizeLine; decide), fun a24 n24 => ?_⟩
    have s_G24 : Same G23 (upd G23 a24 (.tup [.int 1, .ref a23])) := same_new (Same.refl _) n24
    have f24 : DV (2 ^ 140) D D [] (upd G23 a24 (.tup [.int 1, .ref a23])) (.ref a24) 8 3 := (DVs.mono (DVs.cons (DV.up (DV.int (B := 2 ^ 140) (b := 0) (k := 0) (by decide) (by decide)) (Int.le_refl _) (Nat.le_refl _) (show 0 ≤ 2 by decide)) (DVs.cons (DV.up f23 (Int.le_refl _) (Nat.le_refl _) (show 2 ≤ 2 by decide)) (DVs.nil (n := 2)))) (Same.keep s_G24)).tup (ne_of_none hpl_G23 n24).symm (ne_of_none hpl_G23 n24).symm List.not_mem_nil upd_same
    have e24 : upd G23 a24 (.tup [.int 1, .ref a23]) a24 = some (.tup [.int 1, .ref a23]) := upd_same
    generalize upd G23 a24 (.tup [.int 1, .ref a23]) = G24 at s_G24 f24 e24
    have hpl_G24 := s_G24 _ _ hpl_G23
    refine ⟨(by show 2 ≤ sizeLine; decide), fun a25 n25 => ?_⟩
    have s_G25 : Same G24 (upd G24 a25 (.tup [.ref a24, .int 1])) := same_new (Same.refl _) n25
    have f25 : DV (2 ^ 140) D D [] (upd G24 a25 (.tup [.ref a24, .int 1])) (.ref a25) 10 4 := (DVs.mono (DVs.cons (DV.up f24 (Int.le_refl _) (Nat.le_refl _) (show 3 ≤ 3 by decide)) (DVs.cons (DV.up (DV.int (B := 2 ^ 140) (b := 0) (k := 0) (by decide) (by decide)) (Int.le_refl _) (Nat.le_refl _) (show 0 ≤ 3 by decide)) (DVs.nil (n := 3)))) (Same.keep s_G25)).tup (ne_of_none hpl_G24 n25).symm (ne_of_none hpl_G24 n25).symm List.not_mem_nil upd_same
    have e25 : upd G24 a25 (.tup [.ref a24, .int 1]) a25 = some (.tup [.ref a24, .int 1]) := upd_same
    generalize upd G24 a25 (.tup [.ref a24, .int 1]) = G25 at s_G25 f25 e25
    have hpl_G25 := s_G25 _ _ hpl_G24
    refine ⟨(by show 1 ≤ sizeLine; decide), fun a26 n26 => ?_⟩
    have s_G26 : Same G25 (upd G25 a26 (.tup [.ref a25])) := same_new (Same.refl _) n26
    have f26 : DV (2 ^ 140) D D [] (upd G25 a26 (.tup [.ref a25])) (.ref a26) 11 5 := (DVs.mono (DVs.cons (DV.up f25 (Int.le_refl _) (Nat.le_refl _) (show 4 ≤ 4 by decide)) (DVs.nil (n := 4))) (Same.keep s_G26)).tup (ne_of_none hpl_G25 n26).symm (ne_of_none hpl_G25 n26).symm List.not_mem_nil upd_same
    have e26 : upd G25 a26 (.tup [.ref a25]) a26 = some (.tup [.ref a25]) := upd_same
    generalize upd G25 a26 (.tup [.ref a25]) = G26 at s_G26 f26 e26
    have hpl_G26 := s_G26 _ _ hpl_G25
    refine ⟨Nat.zero_le _, fun a27 n27 => ?_⟩
    have s_G27 : Same G26 (upd G26 a27 (.tup [])) := same_new (Same.refl _) n27
    have f27 : DV (2 ^ 140) D D [] (upd G26 a27 (.tup [])) (.ref a27) 0 1 := (DVs.mono (DVs.nil (n := 0)) (Same.keep s_G27)).tup (ne_of_none hpl_G26 n27).symm (ne_of_none hpl_G26 n27).symm List.not_mem_nil upd_same
    have e27 : upd G26 a27 (.tup []) a27 = some (.tup []) := upd_same
    generalize upd G26 a27 (.tup []) = G27 at s_G27 f27 e27
    have hpl_G27 := s_G27 _ _ hpl_G26
    refine ⟨(by show 6 ≤ sizeLine; decide), fun L0 n28 => ?_⟩
    have s_G28 : Same G27 (upd G27 L0 (.lst [.ref a12, .ref a14, .ref a17, .ref a20, .ref a26, .ref a27])) := same_new (Same.refl _) n28
    have e28 : upd G27 L0 (.lst [.ref a12, .ref a14, .ref a17, .ref a20, .ref a26, .ref a27]) L0 = some (.lst [.ref a12, .ref a14, .ref a17, .ref a20, .ref a26, .ref a27]) := upd_same
    have m0 : ∀ w ∈ ([.ref a12, .ref a14, .ref a17, .ref a20, .ref a26, .ref a27] : List V), DV (2 ^ 140) D D [] (upd G27 L0 (.lst [.ref a12, .ref a14, .ref a17, .ref a20, .ref a26, .ref a27])) w 2000 10 := fun w hw => by
      simp only [List.mem_cons, List.not_mem_nil, or_false] at hw
      rcases hw with rfl | rfl | rfl | rfl | rfl | rfl
      · exact (DV.up (f12.mono (Same.keep ((((((((((((((s_G13.trans s_G14).trans s_G15).trans s_G16).trans s_G17).trans s_G18).trans s_G19).trans s_G20).trans s_G21).trans s_G22).trans s_G23).trans s_G24).trans s_G25).trans s_G26).trans s_G27))) (Int.le_refl _) (show 11 ≤ 2000 by decide) (show 5 ≤ 10 by decide)).mono (Same.keep s_G28)
      · exact (DV.up (f14.mono (Same.keep ((((((((((((s_G15.trans s_G16).trans s_G17).trans s_G18).trans s_G19).trans s_G20).trans s_G21).trans s_G22).trans s_G23).trans s_G24).trans s_G25).trans s_G26).trans s_G27))) (Int.le_refl _) (show 11 ≤ 2000 by decide) (show 5 ≤ 10 by decide)).mono (Same.keep s_G28)
      · exact (DV.up (f17.mono (Same.keep (((((((((s_G18.trans s_G19).trans s_G20).trans s_G21).trans s_G22).trans s_G23).trans s_G24).trans s_G25).trans s_G26).trans s_G27))) (Int.le_refl _) (show 44 ≤ 2000 by decide) (show 5 ≤ 10 by decide)).mono (Same.keep s_G28)
      · exact (DV.up (f20.mono (Same.keep ((((((s_G21.trans s_G22).trans s_G23).trans s_G24).trans s_G25).trans s_G26).trans s_G27))) (Int.le_refl _) (show 55 ≤ 2000 by decide) (show 5 ≤ 10 by decide)).mono (Same.keep s_G28)
      · exact (DV.up (f26.mono (Same.keep s_G27)) (Int.le_refl _) (show 11 ≤ 2000 by decide) (show 5 ≤ 10 by decide)).mono (Same.keep s_G28)
      · exact (DV.up f27 (Int.le_refl _) (show 0 ≤ 2000 by decide) (show 1 ≤ 10 by decide)).mono (Same.keep s_G28)
    generalize upd G27 L0 (.lst [.ref a12, .ref a14, .ref a17, .ref a20, .ref a26, .ref a27]) = G28 at s_G28 e28 m0
    have hpl_G28 := s_G28 _ _ hpl_G27
    obtain ⟨ws0, ew0⟩ : ∃ ws0, ([V.ref a12, V.ref a14, V.ref a17, V.ref a20, V.ref a26, V.ref a27] : List V) = ws0 := ⟨_, rfl⟩
    have wl0 : ws0.length = 6 := by rw [← ew0]; rfl
    rw [ew0] at e28 m0
    refine ⟨_, rfl, _, rfl, (by show 2 ≤ sizeLine; decide), fun a29 n29 => ?_⟩
    have s_G29 : Same G28 (upd G28 a29 (.tup [.int 0, .ref stairs])) := same_new (Same.refl _) n29
    have f29 : DV (2 ^ 140) D D [] (upd G28 a29 (.tup [.int 0, .ref stairs])) (.ref a29) 26 3 := (DVs.mono (DVs.cons (DV.up (DV.int (B := 2 ^ 140) (b := 0) (k := 0) (by decide) (by decide)) (Int.le_refl _) (Nat.le_refl _) (show 0 ≤ 2 by decide)) (DVs.cons (DV.up (fst.mono (Same.keep (((((((((((((((((s_G11.trans s_G12).trans s_G13).trans s_G14).trans s_G15).trans s_G16).trans s_G17).trans s_G18).trans s_G19).trans s_G20).trans s_G21).trans s_G22).trans s_G23).trans s_G24).trans s_G25).trans s_G26).trans s_G27).trans s_G28))) (Int.le_refl _) (Nat.le_refl _) (show 2 ≤ 2 by decide)) (DVs.nil (n := 2)))) (Same.keep s_G29)).tup (ne_of_none hpl_G28 n29).symm (ne_of_none hpl_G28 n29).symm List.not_mem_nil upd_same
    have e29 : upd G28 a29 (.tup [.int 0, .ref stairs]) a29 = some (.tup [.int 0, .ref stairs]) := upd_same
    generalize upd G28 a29 (.tup [.int 0, .ref stairs]) = G29 at s_G29 f29 e29
    have hpl_G29 := s_G29 _ _ hpl_G28
    refine ⟨(by show 2 ≤ sizeLine; decide), fun a30 n30 => ?_⟩
    have s_G30 : Same G29 (upd G29 a30 (.tup [.ref a29, .int 1])) := same_new (Same.refl _) n30
    have f30 : DV (2 ^ 140) D D [] (upd G29 a30 (.tup [.ref a29, .int 1])) (.ref a30) 28 4 := (DVs.mono (DVs.cons (DV.up f29 (Int.le_refl _) (Nat.le_refl _) (show 3 ≤ 3 by decide)) (DVs.cons (DV.up (DV.int (B := 2 ^ 140) (b := 0) (k := 0) (by decide) (by decide)) (Int.le_refl _) (Nat.le_refl _) (show 0 ≤ 3 by decide)) (DVs.nil (n := 3)))) (Same.keep s_G30)).tup (ne_of_none hpl_G29 n30).symm (ne_of_none hpl_G29 n30).symm List.not_mem_nil upd_same
    have e30 : upd G29 a30 (.tup [.ref a29, .int 1]) a30 = some (.tup [.ref a29, .int 1]) := upd_same
    generalize upd G29 a30 (.tup [.ref a29, .int 1]) = G30 at s_G30 f30 e30
    have hpl_G30 := s_G30 _ _ hpl_G29
    refine ⟨(by show 1 ≤ sizeLine; decide), fun a31 n31 => ?_⟩
    have s_G31 : Same G30 (upd G30 a31 (.tup [.ref a30])) := same_new (Same.refl _) n31
    have f31 : DV (2 ^ 140) D D [] (upd G30 a31 (.tup [.ref a30])) (.ref a31) 29 5 := (DVs.mono (DVs.cons (DV.up f30 (Int.le_refl _) (Nat.le_refl _) (show 4 ≤ 4 by decide)) (DVs.nil (n := 4))) (Same.keep s_G31)).tup (ne_of_none hpl_G30 n31).symm (ne_of_none hpl_G30 n31).symm List.not_mem_nil upd_same
    have e31 : upd G30 a31 (.tup [.ref a30]) a31 = some (.tup [.ref a30]) := upd_same
    generalize upd G30 a31 (.tup [.ref a30]) = G31 at s_G31 f31 e31
    have hpl_G31 := s_G31 _ _ hpl_G30
    refine ⟨_, rfl, (by show 2 ≤ sizeLine; decide), fun a32 n32 => ?_⟩
    have s_G32 : Same G31 (upd G31 a32 (.tup [.int 1, .int 1])) := same_new (Same.refl _) n32
    have f32 : DV (2 ^ 140) D D [] (upd G31 a32 (.tup [.int 1, .int 1])) (.ref a32) 2 1 := (DVs.mono (DVs.cons (DV.up (DV.int (B := 2 ^ 140) (b := 0) (k := 0) (by decide) (by decide)) (Int.le_refl _) (Nat.le_refl _) (show 0 ≤ 0 by decide)) (DVs.cons (DV.up (DV.int (B := 2 ^ 140) (b := 0) (k := 0) (by decide) (by decide)) (Int.le_refl _) (Nat.le_refl _) (show 0 ≤ 0 by decide)) (DVs.nil (n := 0)))) (Same.keep s_G32)).tup (ne_of_none hpl_G31 n32).symm (ne_of_none hpl_G31 n32).symm List.not_mem_nil upd_same
    have e32 : upd G31 a32 (.tup [.int 1, .int 1]) a32 = some (.tup [.int 1, .int 1]) := upd_same
    generalize upd G31 a32 (.tup [.int 1, .int 1]) = G32 at s_G32 f32 e32
    have hpl_G32 := s_G32 _ _ hpl_G31
    refine ⟨(by show 1 ≤ sizeLine; decide), fun a33 n33 => ?_⟩
    have s_G33 : Same G32 (upd G32 a33 (.tup [.ref a32])) := same_new (Same.refl _) n33
    have f33 : DV (2 ^ 140) D D [] (upd G32 a33 (.tup [.ref a32])) (.ref a33) 3 2 := (DVs.mono (DVs.cons (DV.up f32 (Int.le_refl _) (Nat.le_refl _) (show 1 ≤ 1 by decide)) (DVs.nil (n := 1))) (Same.keep s_G33)).tup (ne_of_none hpl_G32 n33).symm (ne_of_none hpl_G32 n33).symm List.not_mem_nil upd_same
    have e33 : upd G32 a33 (.tup [.ref a32]) a33 = some (.tup [.ref a32]) := upd_same
    generalize upd G32 a33 (.tup [.ref a32]) = G33 at s_G33 f33 e33
    have hpl_G33 := s_G33 _ _ hpl_G32
    refine catA (((((((((((((((((((((((s_G11.trans s_G12).trans s_G13).trans s_G14).trans s_G15).trans s_G16).trans s_G17).trans s_G18).trans s_G19).trans s_G20).trans s_G21).trans s_G22).trans s_G23).trans s_G24).trans s_G25).trans s_G26).trans s_G27).trans s_G28).trans s_G29).trans s_G30).trans s_G31).trans s_G32).trans s_G33) _ _ est) e33 (Nat.le_of_lt (small1000 (by rw [List.length_map, hstl]; show 8 + 1 ≤ 1000; decide))) fun G34 a34 s_G34 e34 => ?_
    have hpl_G34 := s_G34 _ _ hpl_G33
    have np34 : a34 ≠ D := fun h => by rw [h, hpl_G34] at e34; cases e34
    have f34 : DV (2 ^ 140) D D [] G34 (.ref a34) 27 2 := ((DVs.mono dst (Same.keep (((((((((((((((((((((((s_G11.trans s_G12).trans s_G13).trans s_G14).trans s_G15).trans s_G16).trans s_G17).trans s_G18).trans s_G19).trans s_G20).trans s_G21).trans s_G22).trans s_G23).trans s_G24).trans s_G25).trans s_G26).trans s_G27).trans s_G28).trans s_G29).trans s_G30).trans s_G31).trans s_G32).trans s_G33).trans s_G34))).app (DVs.cons (DV.up (f32.mono (Same.keep (s_G33.trans s_G34))) (Int.le_refl _) (Nat.le_refl _) (show 1 ≤ 1 by decide)) (DVs.nil (n := 1)))).tup np34 np34 List.not_mem_nil e34
    refine ⟨(by show 2 ≤ sizeLine; decide), fun a35 n35 => ?_⟩
    have s_G35 : Same G34 (upd G34 a35 (.tup [.int 0, .ref a34])) := same_new (Same.refl _) n35
    have f35 : DV (2 ^ 140) D D [] (upd G34 a35 (.tup [.int 0, .ref a34])) (.ref a35) 29 3 := (DVs.mono (DVs.cons (DV.up (DV.int (B := 2 ^ 140) (b := 0) (k := 0) (by decide) (by decide)) (Int.le_refl _) (Nat.le_refl _) (show 0 ≤ 2 by decide)) (DVs.cons (DV.up f34 (Int.le_refl _) (Nat.le_refl _) (show 2 ≤ 2 by decide)) (DVs.nil (n := 2)))) (Same.keep s_G35)).tup (ne_of_none hpl_G34 n35).symm (ne_of_none hpl_G34 n35).symm List.not_mem_nil upd_same
    have e35 : upd G34 a35 (.tup [.int 0, .ref a34]) a35 = some (.tup [.int 0, .ref a34]) := upd_same
    generalize upd G34 a35 (.tup [.int 0, .ref a34]) = G35 at s_G35 f35 e35
    have hpl_G35 := s_G35 _ _ hpl_G34
    refine ⟨(by show 2 ≤ sizeLine; decide), fun a36 n36 => ?_⟩
    have s_G36 : Same G35 (upd G35 a36 (.tup [.ref a35, .int 1])) := same_new (Same.refl _) n36
    have f36 : DV (2 ^ 140) D D [] (upd G35 a36 (.tup [.ref a35, .int 1])) (.ref a36) 31 4 := (DVs.mono (DVs.cons (DV.up f35 (Int.le_refl _) (Nat.le_refl _) (show 3 ≤ 3 by decide)) (DVs.cons (DV.up (DV.int (B := 2 ^ 140) (b := 0) (k := 0) (by decide) (by decide)) (Int.le_refl _) (Nat.le_refl _) (show 0 ≤ 3 by decide)) (DVs.nil (n := 3)))) (Same.keep s_G36)).tup (ne_of_none hpl_G35 n36).symm (ne_of_none hpl_G35 n36).symm List.not_mem_nil upd_same
    have e36 : upd G35 a36 (.tup [.ref a35, .int 1]) a36 = some (.tup [.ref a35, .int 1]) := upd_same
    generalize upd G35 a36 (.tup [.ref a35, .int 1]) = G36 at s_G36 f36 e36
    have hpl_G36 := s_G36 _ _ hpl_G35
    refine ⟨(by show 1 ≤ sizeLine; decide), fun a37 n37 => ?_⟩
    have s_G37 : Same G36 (upd G36 a37 (.tup [.ref a36])) := same_new (Same.refl _) n37
    have f37 : DV (2 ^ 140) D D [] (upd G36 a37 (.tup [.ref a36])) (.ref a37) 32 5 := (DVs.mono (DVs.cons (DV.up f36 (Int.le_refl _) (Nat.le_refl _) (show 4 ≤ 4 by decide)) (DVs.nil (n := 4))) (Same.keep s_G37)).tup (ne_of_none hpl_G36 n37).symm (ne_of_none hpl_G36 n37).symm List.not_mem_nil upd_same
    have e37 : upd G36 a37 (.tup [.ref a36]) a37 = some (.tup [.ref a36]) := upd_same
    generalize upd G36 a37 (.tup [.ref a36]) = G37 at s_G37 f37 e37
    have hpl_G37 := s_G37 _ _ hpl_G36
    refine ⟨(by show 2 ≤ sizeLine; decide), fun a38 n38 => ?_⟩
    have s_G38 : Same G37 (upd G37 a38 (.tup [.int 1, .int 8])) := same_new (Same.refl _) n38
    have f38 : DV (2 ^ 140) D D [] (upd G37 a38 (.tup [.int 1, .int 8])) (.ref a38) 2 1 := (DVs.mono (DVs.cons (DV.up (DV.int (B := 2 ^ 140) (b := 0) (k := 0) (by decide) (by decide)) (Int.le_refl _) (Nat.le_refl _) (show 0 ≤ 0 by decide)) (DVs.cons (DV.up (DV.int (B := 2 ^ 140) (b := 0) (k := 0) (by decide) (by decide)) (Int.le_refl _) (Nat.le_refl _) (show 0 ≤ 0 by decide)) (DVs.nil (n := 0)))) (Same.keep s_G38)).tup (ne_of_none hpl_G37 n38).symm (ne_of_none hpl_G37 n38).symm List.not_mem_nil upd_same
    have e38 : upd G37 a38 (.tup [.int 1, .int 8]) a38 = some (.tup [.int 1, .int 8]) := upd_same
    generalize upd G37 a38 (.tup [.int 1, .int 8]) = G38 at s_G38 f38 e38
    have hpl_G38 := s_G38 _ _ hpl_G37
    refine ⟨(by show 1 ≤ sizeLine; decide), fun a39 n39 => ?_⟩
    have s_G39 : Same G38 (upd G38 a39 (.tup [.ref a38])) := same_new (Same.refl _) n39
    have f39 : DV (2 ^ 140) D D [] (upd G38 a39 (.tup [.ref a38])) (.ref a39) 3 2 := (DVs.mono (DVs.cons (DV.up f38 (Int.le_refl _) (Nat.le_refl _) (show 1 ≤ 1 by decide)) (DVs.nil (n := 1))) (Same.keep s_G39)).tup (ne_of_none hpl_G38 n39).symm (ne_of_none hpl_G38 n39).symm List.not_mem_nil upd_same
    have e39 : upd G38 a39 (.tup [.ref a38]) a39 = some (.tup [.ref a38]) := upd_same
    generalize upd G38 a39 (.tup [.ref a38]) = G39 at s_G39 f39 e39
    have hpl_G39 := s_G39 _ _ hpl_G38
    refine ⟨(by show 2 ≤ sizeLine; decide), fun a40 n40 => ?_⟩
    have s_G40 : Same G39 (upd G39 a40 (.tup [.int 0, .ref a39])) := same_new (Same.refl _) n40
    have f40 : DV (2 ^ 140) D D [] (upd G39 a40 (.tup [.int 0, .ref a39])) (.ref a40) 5 3 := (DVs.mono (DVs.cons (DV.up (DV.int (B := 2 ^ 140) (b := 0) (k := 0) (by decide) (by decide)) (Int.le_refl _) (Nat.le_refl _) (show 0 ≤ 2 by decide)) (DVs.cons (DV.up f39 (Int.le_refl _) (Nat.le_refl _) (show 2 ≤ 2 by decide)) (DVs.nil (n := 2)))) (Same.keep s_G40)).tup (ne_of_none hpl_G39 n40).symm (ne_of_none hpl_G39 n40).symm List.not_mem_nil upd_same
    have e40 : upd G39 a40 (.tup [.int 0, .ref a39]) a40 = some (.tup [.int 0, .ref a39]) := upd_same
    generalize upd G39 a40 (.tup [.int 0, .ref a39]) = G40 at s_G40 f40 e40
    have hpl_G40 := s_G40 _ _ hpl_G39
    refine ⟨(by show 2 ≤ sizeLine; decide), fun a41 n41 => ?_⟩
    have s_G41 : Same G40 (upd G40 a41 (.tup [.ref a40, .int 1])) := same_new (Same.refl _) n41
    have f41 : DV (2 ^ 140) D D [] (upd G40 a41 (.tup [.ref a40, .int 1])) (.ref a41) 7 4 := (DVs.mono (DVs.cons (DV.up f40 (Int.le_refl _) (Nat.le_refl _) (show 3 ≤ 3 by decide)) (DVs.cons (DV.up (DV.int (B := 2 ^ 140) (b := 0) (k := 0) (by decide) (by decide)) (Int.le_refl _) (Nat.le_refl _) (show 0 ≤ 3 by decide)) (DVs.nil (n := 3)))) (Same.keep s_G41)).tup (ne_of_none hpl_G40 n41).symm (ne_of_none hpl_G40 n41).symm List.not_mem_nil upd_same
    have e41 : upd G40 a41 (.tup [.ref a40, .int 1]) a41 = some (.tup [.ref a40, .int 1]) := upd_same
    generalize upd G40 a41 (.tup [.ref a40, .int 1]) = G41 at s_G41 f41 e41
    have hpl_G41 := s_G41 _ _ hpl_G40
    refine ⟨(by show 1 ≤ sizeLine; decide), fun a42 n42 => ?_⟩
    have s_G42 : Same G41 (upd G41 a42 (.tup [.ref a41])) := same_new (Same.refl _) n42
    have f42 : DV (2 ^ 140) D D [] (upd G41 a42 (.tup [.ref a41])) (.ref a42) 8 5 := (DVs.mono (DVs.cons (DV.up f41 (Int.le_refl _) (Nat.le_refl _) (show 4 ≤ 4 by decide)) (DVs.nil (n := 4))) (Same.keep s_G42)).tup (ne_of_none hpl_G41 n42).symm (ne_of_none hpl_G41 n42).symm List.not_mem_nil upd_same
    have e42 : upd G41 a42 (.tup [.ref a41]) a42 = some (.tup [.ref a41]) := upd_same
    generalize upd G41 a42 (.tup [.ref a41]) = G42 at s_G42 f42 e42
    have hpl_G42 := s_G42 _ _ hpl_G41
    refine ⟨(by show 3 ≤ sizeLine; decide), fun L1 n43 => ?_⟩
    have s_G43 : Same G42 (upd G42 L1 (.lst [.ref a31, .ref a37, .ref a42])) := same_new (Same.refl _) n43
    have e43 : upd G42 L1 (.lst [.ref a31, .ref a37, .ref a42]) L1 = some (.lst [.ref a31, .ref a37, .ref a42]) := upd_same
    have m1 : ∀ w ∈ ([.ref a31, .ref a37, .ref a42] : List V), DV (2 ^ 140) D D [] (upd G42 L1 (.lst [.ref a31, .ref a37, .ref a42])) w 2000 10 := fun w hw => by
      simp only [List.mem_cons, List.not_mem_nil, or_false] at hw
      rcases hw with rfl | rfl | rfl
      · exact (DV.up (f31.mono (Same.keep ((((((((((s_G32.trans s_G33).trans s_G34).trans s_G35).trans s_G36).trans s_G37).trans s_G38).trans s_G39).trans s_G40).trans s_G41).trans s_G42))) (Int.le_refl _) (show 29 ≤ 2000 by decide) (show 5 ≤ 10 by decide)).mono (Same.keep s_G43)
      · exact (DV.up (f37.mono (Same.keep ((((s_G38.trans s_G39).trans s_G40).trans s_G41).trans s_G42))) (Int.le_refl _) (show 32 ≤ 2000 by decide) (show 5 ≤ 10 by decide)).mono (Same.keep s_G43)
      · exact (DV.up f42 (Int.le_refl _) (show 8 ≤ 2000 by decide) (show 5 ≤ 10 by decide)).mono (Same.keep s_G43)
    generalize upd G42 L1 (.lst [.ref a31, .ref a37, .ref a42]) = G43 at s_G43 e43 m1
    have hpl_G43 := s_G43 _ _ hpl_G42
    refine ⟨L0, L1, _, _, rfl, rfl, ((((((((((((((s_G29.trans s_G30).trans s_G31).trans s_G32).trans s_G33).trans s_G34).trans s_G35).trans s_G36).trans s_G37).trans s_G38).trans s_G39).trans s_G40).trans s_G41).trans s_G42).trans s_G43) _ _ e28, e43, Nat.le_of_lt (small1000 (by rw [wl0]; show 6 + 3 ≤ 1000; decide)), fun S1 n44 => ?_⟩
    obtain ⟨ws1, ew1⟩ : ∃ ws1, ws0 ++ ([V.ref a31, V.ref a37, V.ref a42] : List V) = ws1 := ⟨_, rfl⟩
    have wl1 : ws1.length = 9 := by rw [← ew1, List.length_append, wl0]; rfl
    rw [ew1]
    have q1 : ∀ w ∈ ws1, DV (2 ^ 140) D D [] G43 w 2000 10 := fun w hw => by
      rw [← ew1] at hw
      rcases List.mem_append.mp hw with hw | hw
      · exact (m0 w hw).mono (Same.keep ((((((((((((((s_G29.trans s_G30).trans s_G31).trans s_G32).trans s_G33).trans s_G34).trans s_G35).trans s_G36).trans s_G37).trans s_G38).trans s_G39).trans s_G40).trans s_G41).trans s_G42).trans s_G43))
      · exact m1 w hw
    have s_G44 : Same G43 (upd G43 S1 (.lst ws1)) := same_new (Same.refl _) n44
    have e44 : upd G43 S1 (.lst ws1) S1 = some (.lst ws1) := upd_same
    have q1 : ∀ w ∈ ws1, DV (2 ^ 140) D D [] (upd G43 S1 (.lst ws1)) w 2000 10 := fun w hw => (q1 w hw).mono (Same.keep s_G44)
    generalize upd G43 S1 (.lst ws1) = G44 at s_G44 e44 q1
    have hpl_G44 := s_G44 _ _ hpl_G43
    refine ⟨_, rfl, (by show 2 ≤ sizeLine; decide), fun a45 n45 => ?_⟩
    have s_G45 : Same G44 (upd G44 a45 (.tup [.int 1, .int 9])) := same_new (Same.refl _) n45
    have f45 : DV (2 ^ 140) D D [] (upd G44 a45 (.tup [.int 1, .int 9])) (.ref a45) 2 1 := (DVs.mono (DVs.cons (DV.up (DV.int (B := 2 ^ 140) (b := 0) (k := 0) (by decide) (by decide)) (Int.le_refl _) (Nat.le_refl _) (show 0 ≤ 0 by decide)) (DVs.cons (DV.up (DV.int (B := 2 ^ 140) (b := 0) (k := 0) (by decide) (by decide)) (Int.le_refl _) (Nat.le_refl _) (show 0 ≤ 0 by decide)) (DVs.nil (n := 0)))) (Same.keep s_G45)).tup (ne_of_none hpl_G44 n45).symm (ne_of_none hpl_G44 n45).symm List.not_mem_nil upd_same
    have e45 : upd G44 a45 (.tup [.int 1, .int 9]) a45 = some (.tup [.int 1, .int 9]) := upd_same
    generalize upd G44 a45 (.tup [.int 1, .int 9]) = G45 at s_G45 f45 e45
    have hpl_G45 := s_G45 _ _ hpl_G44
    refine ⟨(by show 1 ≤ sizeLine; decide), fun a46 n46 => ?_⟩
    have s_G46 : Same G45 (upd G45 a46 (.tup [.ref a45])) := same_new (Same.refl _) n46
    have f46 : DV (2 ^ 140) D D [] (upd G45 a46 (.tup [.ref a45])) (.ref a46) 3 2 := (DVs.mono (DVs.cons (DV.up f45 (Int.le_refl _) (Nat.le_refl _) (show 1 ≤ 1 by decide)) (DVs.nil (n := 1))) (Same.keep s_G46)).tup (ne_of_none hpl_G45 n46).symm (ne_of_none hpl_G45 n46).symm List.not_mem_nil upd_same
    have e46 : upd G45 a46 (.tup [.ref a45]) a46 = some (.tup [.ref a45]) := upd_same
    generalize upd G45 a46 (.tup [.ref a45]) = G46 at s_G46 f46 e46
    have hpl_G46 := s_G46 _ _ hpl_G45
    refine ⟨(by show 2 ≤ sizeLine; decide), fun a47 n47 => ?_⟩
    have s_G47 : Same G46 (upd G46 a47 (.tup [.int 0, .ref a46])) := same_new (Same.refl _) n47
    have f47 : DV (2 ^ 140) D D [] (upd G46 a47 (.tup [.int 0, .ref a46])) (.ref a47) 5 3 := (DVs.mono (DVs.cons (DV.up (DV.int (B := 2 ^ 140) (b := 0) (k := 0) (by decide) (by decide)) (Int.le_refl _) (Nat.le_refl _) (show 0 ≤ 2 by decide)) (DVs.cons (DV.up f46 (Int.le_refl _) (Nat.le_refl _) (show 2 ≤ 2 by decide)) (DVs.nil (n := 2)))) (Same.keep s_G47)).tup (ne_of_none hpl_G46 n47).symm (ne_of_none hpl_G46 n47).symm List.not_mem_nil upd_same
    have e47 : upd G46 a47 (.tup [.int 0, .ref a46]) a47 = some (.tup [.int 0, .ref a46]) := upd_same
    generalize upd G46 a47 (.tup [.int 0, .ref a46]) = G47 at s_G47 f47 e47
    have hpl_G47 := s_G47 _ _ hpl_G46
    refine ⟨(by show 2 ≤ sizeLine; decide), fun a48 n48 => ?_⟩
    have s_G48 : Same G47 (upd G47 a48 (.tup [.ref a47, .int 1])) := same_new (Same.refl _) n48
    have f48 : DV (2 ^ 140) D D [] (upd G47 a48 (.tup [.ref a47, .int 1])) (.ref a48) 7 4 := (DVs.mono (DVs.cons (DV.up f47 (Int.le_refl _) (Nat.le_refl _) (show 3 ≤ 3 by decide)) (DVs.cons (DV.up (DV.int (B := 2 ^ 140) (b := 0) (k := 0) (by decide) (by decide)) (Int.le_refl _) (Nat.le_refl _) (show 0 ≤ 3 by decide)) (DVs.nil (n := 3)))) (Same.keep s_G48)).tup (ne_of_none hpl_G47 n48).symm (ne_of_none hpl_G47 n48).symm List.not_mem_nil upd_same
    have e48 : upd G47 a48 (.tup [.ref a47, .int 1]) a48 = some (.tup [.ref a47, .int 1]) := upd_same
    generalize upd G47 a48 (.tup [.ref a47, .int 1]) = G48 at s_G48 f48 e48
    have hpl_G48 := s_G48 _ _ hpl_G47
    refine ⟨(by show 1 ≤ sizeLine; decide), fun a49 n49 => ?_⟩
    have s_G49 : Same G48 (upd G48 a49 (.tup [.ref a48])) := same_new (Same.refl _) n49
    have f49 : DV (2 ^ 140) D D [] (upd G48 a49 (.tup [.ref a48])) (.ref a49) 8 5 := (DVs.mono (DVs.cons (DV.up f48 (Int.le_refl _) (Nat.le_refl _) (show 4 ≤ 4 by decide)) (DVs.nil (n := 4))) (Same.keep s_G49)).tup (ne_of_none hpl_G48 n49).symm (ne_of_none hpl_G48 n49).symm List.not_mem_nil upd_same
    have e49 : upd G48 a49 (.tup [.ref a48]) a49 = some (.tup [.ref a48]) := upd_same
    generalize upd G48 a49 (.tup [.ref a48]) = G49 at s_G49 f49 e49
    have hpl_G49 := s_G49 _ _ hpl_G48
    refine ⟨(by show 2 ≤ sizeLine; decide), fun a50 n50 => ?_⟩
    have s_G50 : Same G49 (upd G49 a50 (.tup [.int 1, .int 1])) := same_new (Same.refl _) n50
    have f50 : DV (2 ^ 140) D D [] (upd G49 a50 (.tup [.int 1, .int 1])) (.ref a50) 2 1 := (DVs.mono (DVs.cons (DV.up (DV.int (B := 2 ^ 140) (b := 0) (k := 0) (by decide) (by decide)) (Int.le_refl _) (Nat.le_refl _) (show 0 ≤ 0 by decide)) (DVs.cons (DV.up (DV.int (B := 2 ^ 140) (b := 0) (k := 0) (by decide) (by decide)) (Int.le_refl _) (Nat.le_refl _) (show 0 ≤ 0 by decide)) (DVs.nil (n := 0)))) (Same.keep s_G50)).tup (ne_of_none hpl_G49 n50).symm (ne_of_none hpl_G49 n50).symm List.not_mem_nil upd_same
    have e50 : upd G49 a50 (.tup [.int 1, .int 1]) a50 = some (.tup [.int 1, .int 1]) := upd_same
    generalize upd G49 a50 (.tup [.int 1, .int 1]) = G50 at s_G50 f50 e50
    have hpl_G50 := s_G50 _ _ hpl_G49
    refine ⟨(by show 1 ≤ sizeLine; decide), fun a51 n51 => ?_⟩
    have s_G51 : Same G50 (upd G50 a51 (.tup [.ref a50])) := same_new (Same.refl _) n51
    have f51 : DV (2 ^ 140) D D [] (upd G50 a51 (.tup [.ref a50])) (.ref a51) 3 2 := (DVs.mono (DVs.cons (DV.up f50 (Int.le_refl _) (Nat.le_refl _) (show 1 ≤ 1 by decide)) (DVs.nil (n := 1))) (Same.keep s_G51)).tup (ne_of_none hpl_G50 n51).symm (ne_of_none hpl_G50 n51).symm List.not_mem_nil upd_same
    have e51 : upd G50 a51 (.tup [.ref a50]) a51 = some (.tup [.ref a50]) := upd_same
    generalize upd G50 a51 (.tup [.ref a50]) = G51 at s_G51 f51 e51
    have hpl_G51 := s_G51 _ _ hpl_G50
    refine ⟨(by show 2 ≤ sizeLine; decide), fun a52 n52 => ?_⟩
    have s_G52 : Same G51 (upd G51 a52 (.tup [.int 2, .ref a51])) := same_new (Same.refl _) n52
    have f52 : DV (2 ^ 140) D D [] (upd G51 a52 (.tup [.int 2, .ref a51])) (.ref a52) 5 3 := (DVs.mono (DVs.cons (DV.up (DV.int (B := 2 ^ 140) (b := 0) (k := 0) (by decide) (by decide)) (Int.le_refl _) (Nat.le_refl _) (show 0 ≤ 2 by decide)) (DVs.cons (DV.up f51 (Int.le_refl _) (Nat.le_refl _) (show 2 ≤ 2 by decide)) (DVs.nil (n := 2)))) (Same.keep s_G52)).tup (ne_of_none hpl_G51 n52).symm (ne_of_none hpl_G51 n52).symm List.not_mem_nil upd_same
    have e52 : upd G51 a52 (.tup [.int 2, .ref a51]) a52 = some (.tup [.int 2, .ref a51]) := upd_same
    generalize upd G51 a52 (.tup [.int 2, .ref a51]) = G52 at s_G52 f52 e52
    have hpl_G52 := s_G52 _ _ hpl_G51
    refine ⟨(by show 2 ≤ sizeLine; decide), fun a53 n53 => ?_⟩
    have s_G53 : Same G52 (upd G52 a53 (.tup [.ref a52, .int 1])) := same_new (Same.refl _) n53
    have f53 : DV (2 ^ 140) D D [] (upd G52 a53 (.tup [.ref a52, .int 1])) (.ref a53) 7 4 := (DVs.mono (DVs.cons (DV.up f52 (Int.le_refl _) (Nat.le_refl _) (show 3 ≤ 3 by decide)) (DVs.cons (DV.up (DV.int (B := 2 ^ 140) (b := 0) (k := 0) (by decide) (by decide)) (Int.le_refl _) (Nat.le_refl _) (show 0 ≤ 3 by decide)) (DVs.nil (n := 3)))) (Same.keep s_G53)).tup (ne_of_none hpl_G52 n53).symm (ne_of_none hpl_G52 n53).symm List.not_mem_nil upd_same
    have e53 : upd G52 a53 (.tup [.ref a52, .int 1]) a53 = some (.tup [.ref a52, .int 1]) := upd_same
    generalize upd G52 a53 (.tup [.ref a52, .int 1]) = G53 at s_G53 f53 e53
    have hpl_G53 := s_G53 _ _ hpl_G52
    refine ⟨(by show 1 ≤ sizeLine; decide), fun a54 n54 => ?_⟩
    have s_G54 : Same G53 (upd G53 a54 (.tup [.ref a53])) := same_new (Same.refl _) n54
    have f54 : DV (2 ^ 140) D D [] (upd G53 a54 (.tup [.ref a53])) (.ref a54) 8 5 := (DVs.mono (DVs.cons (DV.up f53 (Int.le_refl _) (Nat.le_refl _) (show 4 ≤ 4 by decide)) (DVs.nil (n := 4))) (Same.keep s_G54)).tup (ne_of_none hpl_G53 n54).symm (ne_of_none hpl_G53 n54).symm List.not_mem_nil upd_same
    have e54 : upd G53 a54 (.tup [.ref a53]) a54 = some (.tup [.ref a53]) := upd_same
    generalize upd G53 a54 (.tup [.ref a53]) = G54 at s_G54 f54 e54
    have hpl_G54 := s_G54 _ _ hpl_G53
    refine ⟨Nat.zero_le _, fun a55 n55 => ?_⟩
    have s_G55 : Same G54 (upd G54 a55 (.tup [])) := same_new (Same.refl _) n55
    have f55 : DV (2 ^ 140) D D [] (upd G54 a55 (.tup [])) (.ref a55) 0 1 := (DVs.mono (DVs.nil (n := 0)) (Same.keep s_G55)).tup (ne_of_none hpl_G54 n55).symm (ne_of_none hpl_G54 n55).symm List.not_mem_nil upd_same
    have e55 : upd G54 a55 (.tup []) a55 = some (.tup []) := upd_same
    generalize upd G54 a55 (.tup []) = G55 at s_G55 f55 e55
    have hpl_G55 := s_G55 _ _ hpl_G54
    refine ⟨(by show 2 ≤ sizeLine; decide), fun a56 n56 => ?_⟩
    have s_G56 : Same G55 (upd G55 a56 (.tup [.int 0, .ref a55])) := same_new (Same.refl _) n56
    have f56 : DV (2 ^ 140) D D [] (upd G55 a56 (.tup [.int 0, .ref a55])) (.ref a56) 2 2 := (DVs.mono (DVs.cons (DV.up (DV.int (B := 2 ^ 140) (b := 0) (k := 0) (by decide) (by decide)) (Int.le_refl _) (Nat.le_refl _) (show 0 ≤ 1 by decide)) (DVs.cons (DV.up f55 (Int.le_refl _) (Nat.le_refl _) (show 1 ≤ 1 by decide)) (DVs.nil (n := 1)))) (Same.keep s_G56)).tup (ne_of_none hpl_G55 n56).symm (ne_of_none hpl_G55 n56).symm List.not_mem_nil upd_same
    have e56 : upd G55 a56 (.tup [.int 0, .ref a55]) a56 = some (.tup [.int 0, .ref a55]) := upd_same
    generalize upd G55 a56 (.tup [.int 0, .ref a55]) = G56 at s_G56 f56 e56
    have hpl_G56 := s_G56 _ _ hpl_G55
    refine ⟨(by show 2 ≤ sizeLine; decide), fun a57 n57 => ?_⟩
    have s_G57 : Same G56 (upd G56 a57 (.tup [.ref a56, .int 1])) := same_new (Same.refl _) n57
    have f57 : DV (2 ^ 140) D D [] (upd G56 a57 (.tup [.ref a56, .int 1])) (.ref a57) 4 3 := (DVs.mono (DVs.cons (DV.up f56 (Int.le_refl _) (Nat.le_refl _) (show 2 ≤ 2 by decide)) (DVs.cons (DV.up (DV.int (B := 2 ^ 140) (b := 0) (k := 0) (by decide) (by decide)) (Int.le_refl _) (Nat.le_refl _) (show 0 ≤ 2 by decide)) (DVs.nil (n := 2)))) (Same.keep s_G57)).tup (ne_of_none hpl_G56 n57).symm (ne_of_none hpl_G56 n57).symm List.not_mem_nil upd_same
    have e57 : upd G56 a57 (.tup [.ref a56, .int 1]) a57 = some (.tup [.ref a56, .int 1]) := upd_same
    generalize upd G56 a57 (.tup [.ref a56, .int 1]) = G57 at s_G57 f57 e57
    have hpl_G57 := s_G57 _ _ hpl_G56
    refine ⟨(by show 1 ≤ sizeLine; decide), fun a58 n58 => ?_⟩
    have s_G58 : Same G57 (upd G57 a58 (.tup [.ref a57])) := same_new (Same.refl _) n58
    have f58 : DV (2 ^ 140) D D [] (upd G57 a58 (.tup [.ref a57])) (.ref a58) 5 4 := (DVs.mono (DVs.cons (DV.up f57 (Int.le_refl _) (Nat.le_refl _) (show 3 ≤ 3 by decide)) (DVs.nil (n := 3))) (Same.keep s_G58)).tup (ne_of_none hpl_G57 n58).symm (ne_of_none hpl_G57 n58).symm List.not_mem_nil upd_same
    have e58 : upd G57 a58 (.tup [.ref a57]) a58 = some (.tup [.ref a57]) := upd_same
    generalize upd G57 a58 (.tup [.ref a57]) = G58 at s_G58 f58 e58
    have hpl_G58 := s_G58 _ _ hpl_G57
    refine ⟨(by show 3 ≤ sizeLine; decide), fun L2 n59 => ?_⟩
    have s_G59 : Same G58 (upd G58 L2 (.lst [.ref a49, .ref a54, .ref a58])) := same_new (Same.refl _) n59
    have e59 : upd G58 L2 (.lst [.ref a49, .ref a54, .ref a58]) L2 = some (.lst [.ref a49, .ref a54, .ref a58]) := upd_same
    have m2 : ∀ w ∈ ([.ref a49, .ref a54, .ref a58] : List V), DV (2 ^ 140) D D [] (upd G58 L2 (.lst [.ref a49, .ref a54, .ref a58])) w 2000 10 := fun w hw => by
      simp only [List.mem_cons, List.not_mem_nil, or_false] at hw
      rcases hw with rfl | rfl | rfl
      · exact (DV.up (f49.mono (Same.keep ((((((((s_G50.trans s_G51).trans s_G52).trans s_G53).trans s_G54).trans s_G55).trans s_G56).trans s_G57).trans s_G58))) (Int.le_refl _) (show 8 ≤ 2000 by decide) (show 5 ≤ 10 by decide)).mono (Same.keep s_G59)
      · exact (DV.up (f54.mono (Same.keep (((s_G55.trans s_G56).trans s_G57).trans s_G58))) (Int.le_refl _) (show 8 ≤ 2000 by decide) (show 5 ≤ 10 by decide)).mono (Same.keep s_G59)
      · exact (DV.up f58 (Int.le_refl _) (show 5 ≤ 2000 by decide) (show 4 ≤ 10 by decide)).mono (Same.keep s_G59)
    generalize upd G58 L2 (.lst [.ref a49, .ref a54, .ref a58]) = G59 at s_G59 e59 m2
    have hpl_G59 := s_G59 _ _ hpl_G58
    refine ⟨S1, L2, _, _, rfl, rfl, ((((((((((((((s_G45.trans s_G46).trans s_G47).trans s_G48).trans s_G49).trans s_G50).trans s_G51).trans s_G52).trans s_G53).trans s_G54).trans s_G55).trans s_G56).trans s_G57).trans s_G58).trans s_G59) _ _ e44, e59, Nat.le_of_lt (small1000 (by rw [wl1]; show 9 + 3 ≤ 1000; decide)), fun S2 n60 => ?_⟩
    obtain ⟨ws2, ew2⟩ : ∃ ws2, ws1 ++ ([V.ref a49, V.ref a54, V.ref a58] : List V) = ws2 := ⟨_, rfl⟩
    have wl2 : ws2.length = 12 := by rw [← ew2, List.length_append, wl1]; rfl
    rw [ew2]
    have q2 : ∀ w ∈ ws2, DV (2 ^ 140) D D [] G59 w 2000 10 := fun w hw => by
      rw [← ew2] at hw
      rcases List.mem_append.mp hw with hw | hw
      · exact (q1 w hw).mono (Same.keep ((((((((((((((s_G45.trans s_G46).trans s_G47).trans s_G48).trans s_G49).trans s_G50).trans s_G51).trans s_G52).trans s_G53).trans s_G54).trans s_G55).trans s_G56).trans s_G57).trans s_G58).trans s_G59))
      · exact m2 w hw
    have s_G60 : Same G59 (upd G59 S2 (.lst ws2)) := same_new (Same.refl _) n60
    have e60 : upd G59 S2 (.lst ws2) S2 = some (.lst ws2) := upd_same
    have q2 : ∀ w ∈ ws2, DV (2 ^ 140) D D [] (upd G59 S2 (.lst ws2)) w 2000 10 := fun w hw => (q2 w hw).mono (Same.keep s_G60)
    generalize upd G59 S2 (.lst ws2) = G60 at s_G60 e60 q2
    have hpl_G60 := s_G60 _ _ hpl_G59
    refine ⟨_, rfl, (by show 2 ≤ sizeLine; decide), fun a61 n61 => ?_⟩
    have s_G61 : Same G60 (upd G60 a61 (.tup [.int 1, .int 1])) := same_new (Same.refl _) n61
    have f61 : DV (2 ^ 140) D D [] (upd G60 a61 (.tup [.int 1, .int 1])) (.ref a61) 2 1 := (DVs.mono (DVs.cons (DV.up (DV.int (B := 2 ^ 140) (b := 0) (k := 0) (by decide) (by decide)) (Int.le_refl _) (Nat.le_refl _) (show 0 ≤ 0 by decide)) (DVs.cons (DV.up (DV.int (B := 2 ^ 140) (b := 0) (k := 0) (by decide) (by decide)) (Int.le_refl _) (Nat.le_refl _) (show 0 ≤ 0 by decide)) (DVs.nil (n := 0)))) (Same.keep s_G61)).tup (ne_of_none hpl_G60 n61).symm (ne_of_none hpl_G60 n61).symm List.not_mem_nil upd_same
    have e61 : upd G60 a61 (.tup [.int 1, .int 1]) a61 = some (.tup [.int 1, .int 1]) := upd_same
    generalize upd G60 a61 (.tup [.int 1, .int 1]) = G61 at s_G61 f61 e61
    have hpl_G61 := s_G61 _ _ hpl_G60
    refine ⟨(by show 2 ≤ sizeLine; decide), fun a62 n62 => ?_⟩
    have s_G62 : Same G61 (upd G61 a62 (.tup [.int 1, .int 1])) := same_new (Same.refl _) n62
    have f62 : DV (2 ^ 140) D D [] (upd G61 a62 (.tup [.int 1, .int 1])) (.ref a62) 2 1 := (DVs.mono (DVs.cons (DV.up (DV.int (B := 2 ^ 140) (b := 0) (k := 0) (by decide) (by decide)) (Int.le_refl _) (Nat.le_refl _) (show 0 ≤ 0 by decide)) (DVs.cons (DV.up (DV.int (B := 2 ^ 140) (b := 0) (k := 0) (by decide) (by decide)) (Int.le_refl _) (Nat.le_refl _) (show 0 ≤ 0 by decide)) (DVs.nil (n := 0)))) (Same.keep s_G62)).tup (ne_of_none hpl_G61 n62).symm (ne_of_none hpl_G61 n62).symm List.not_mem_nil upd_same
    have e62 : upd G61 a62 (.tup [.int 1, .int 1]) a62 = some (.tup [.int 1, .int 1]) := upd_same
    generalize upd G61 a62 (.tup [.int 1, .int 1]) = G62 at s_G62 f62 e62
    have hpl_G62 := s_G62 _ _ hpl_G61
    refine ⟨(by show 2 ≤ sizeLine; decide), fun a63 n63 => ?_⟩
    have s_G63 : Same G62 (upd G62 a63 (.tup [.ref a61, .ref a62])) := same_new (Same.refl _) n63
    have f63 : DV (2 ^ 140) D D [] (upd G62 a63 (.tup [.ref a61, .ref a62])) (.ref a63) 6 2 := (DVs.mono (DVs.cons (DV.up (f61.mono (Same.keep s_G62)) (Int.le_refl _) (Nat.le_refl _) (show 1 ≤ 1 by decide)) (DVs.cons (DV.up f62 (Int.le_refl _) (Nat.le_refl _) (show 1 ≤ 1 by decide)) (DVs.nil (n := 1)))) (Same.keep s_G63)).tup (ne_of_none hpl_G62 n63).symm (ne_of_none hpl_G62 n63).symm List.not_mem_nil upd_same
    have e63 : upd G62 a63 (.tup [.ref a61, .ref a62]) a63 = some (.tup [.ref a61, .ref a62]) := upd_same
    generalize upd G62 a63 (.tup [.ref a61, .ref a62]) = G63 at s_G63 f63 e63
    have hpl_G63 := s_G63 _ _ hpl_G62
    refine ⟨(by show 2 ≤ sizeLine; decide), fun a64 n64 => ?_⟩
    have s_G64 : Same G63 (upd G63 a64 (.tup [.int 0, .ref a63])) := same_new (Same.refl _) n64
    have f64 : DV (2 ^ 140) D D [] (upd G63 a64 (.tup [.int 0, .ref a63])) (.ref a64) 8 3 := (DVs.mono (DVs.cons (DV.up (DV.int (B := 2 ^ 140) (b := 0) (k := 0) (by decide) (by decide)) (Int.le_refl _) (Nat.le_refl _) (show 0 ≤ 2 by decide)) (DVs.cons (DV.up f63 (Int.le_refl _) (Nat.le_refl _) (show 2 ≤ 2 by decide)) (DVs.nil (n := 2)))) (Same.keep s_G64)).tup (ne_of_none hpl_G63 n64).symm (ne_of_none hpl_G63 n64).symm List.not_mem_nil upd_same
    have e64 : upd G63 a64 (.tup [.int 0, .ref a63]) a64 = some (.tup [.int 0, .ref a63]) := upd_same
    generalize upd G63 a64 (.tup [.int 0, .ref a63]) = G64 at s_G64 f64 e64
    have hpl_G64 := s_G64 _ _ hpl_G63
    refine ⟨(by show 2 ≤ sizeLine; decide), fun a65 n65 => ?_⟩
    have s_G65 : Same G64 (upd G64 a65 (.tup [.ref a64, .int 1])) := same_new (Same.refl _) n65
    have f65 : DV (2 ^ 140) D D [] (upd G64 a65 (.tup [.ref a64, .int 1])) (.ref a65) 10 4 := (DVs.mono (DVs.cons (DV.up f64 (Int.le_refl _) (Nat.le_refl _) (show 3 ≤ 3 by decide)) (DVs.cons (DV.up (DV.int (B := 2 ^ 140) (b := 0) (k := 0) (by decide) (by decide)) (Int.le_refl _) (Nat.le_refl _) (show 0 ≤ 3 by decide)) (DVs.nil (n := 3)))) (Same.keep s_G65)).tup (ne_of_none hpl_G64 n65).symm (ne_of_none hpl_G64 n65).symm List.not_mem_nil upd_same
    have e65 : upd G64 a65 (.tup [.ref a64, .int 1]) a65 = some (.tup [.ref a64, .int 1]) := upd_same
    generalize upd G64 a65 (.tup [.ref a64, .int 1]) = G65 at s_G65 f65 e65
    have hpl_G65 := s_G65 _ _ hpl_G64
    refine ⟨(by show 1 ≤ sizeLine; decide), fun a66 n66 => ?_⟩
    have s_G66 : Same G65 (upd G65 a66 (.tup [.ref a65])) := same_new (Same.refl _) n66
    have f66 : DV (2 ^ 140) D D [] (upd G65 a66 (.tup [.ref a65])) (.ref a66) 11 5 := (DVs.mono (DVs.cons (DV.up f65 (Int.le_refl _) (Nat.le_refl _) (show 4 ≤ 4 by decide)) (DVs.nil (n := 4))) (Same.keep s_G66)).tup (ne_of_none hpl_G65 n66).symm (ne_of_none hpl_G65 n66).symm List.not_mem_nil upd_same
    have e66 : upd G65 a66 (.tup [.ref a65]) a66 = some (.tup [.ref a65]) := upd_same
    generalize upd G65 a66 (.tup [.ref a65]) = G66 at s_G66 f66 e66
    have hpl_G66 := s_G66 _ _ hpl_G65
    refine ⟨(by show 2 ≤ sizeLine; decide), fun a67 n67 => ?_⟩
    have s_G67 : Same G66 (upd G66 a67 (.tup [.int 1, .int 0])) := same_new (Same.refl _) n67
    have f67 : DV (2 ^ 140) D D [] (upd G66 a67 (.tup [.int 1, .int 0])) (.ref a67) 2 1 := (DVs.mono (DVs.cons (DV.up (DV.int (B := 2 ^ 140) (b := 0) (k := 0) (by decide) (by decide)) (Int.le_refl _) (Nat.le_refl _) (show 0 ≤ 0 by decide)) (DVs.cons (DV.up (DV.int (B := 2 ^ 140) (b := 0) (k := 0) (by decide) (by decide)) (Int.le_refl _) (Nat.le_refl _) (show 0 ≤ 0 by decide)) (DVs.nil (n := 0)))) (Same.keep s_G67)).tup (ne_of_none hpl_G66 n67).symm (ne_of_none hpl_G66 n67).symm List.not_mem_nil upd_same
    have e67 : upd G66 a67 (.tup [.int 1, .int 0]) a67 = some (.tup [.int 1, .int 0]) := upd_same
    generalize upd G66 a67 (.tup [.int 1, .int 0]) = G67 at s_G67 f67 e67
    have hpl_G67 := s_G67 _ _ hpl_G66
    refine ⟨(by show 1 ≤ sizeLine; decide), fun a68 n68 => ?_⟩
    have s_G68 : Same G67 (upd G67 a68 (.tup [.ref a67])) := same_new (Same.refl _) n68
    have f68 : DV (2 ^ 140) D D [] (upd G67 a68 (.tup [.ref a67])) (.ref a68) 3 2 := (DVs.mono (DVs.cons (DV.up f67 (Int.le_refl _) (Nat.le_refl _) (show 1 ≤ 1 by decide)) (DVs.nil (n := 1))) (Same.keep s_G68)).tup (ne_of_none hpl_G67 n68).symm (ne_of_none hpl_G67 n68).symm List.not_mem_nil upd_same
    have e68 : upd G67 a68 (.tup [.ref a67]) a68 = some (.tup [.ref a67]) := upd_same
    generalize upd G67 a68 (.tup [.ref a67]) = G68 at s_G68 f68 e68
    have hpl_G68 := s_G68 _ _ hpl_G67
    refine ⟨(by show 2 ≤ sizeLine; decide), fun a69 n69 => ?_⟩
    have s_G69 : Same G68 (upd G68 a69 (.tup [.int 0, .ref a68])) := same_new (Same.refl _) n69
    have f69 : DV (2 ^ 140) D D [] (upd G68 a69 (.tup [.int 0, .ref a68])) (.ref a69) 5 3 := (DVs.mono (DVs.cons (DV.up (DV.int (B := 2 ^ 140) (b := 0) (k := 0) (by decide) (by decide)) (Int.le_refl _) (Nat.le_refl _) (show 0 ≤ 2 by decide)) (DVs.cons (DV.up f68 (Int.le_refl _) (Nat.le_refl _) (show 2 ≤ 2 by decide)) (DVs.nil (n := 2)))) (Same.keep s_G69)).tup (ne_of_none hpl_G68 n69).symm (ne_of_none hpl_G68 n69).symm List.not_mem_nil upd_same
    have e69 : upd G68 a69 (.tup [.int 0, .ref a68]) a69 = some (.tup [.int 0, .ref a68]) := upd_same
    generalize upd G68 a69 (.tup [.int 0, .ref a68]) = G69 at s_G69 f69 e69
    have hpl_G69 := s_G69 _ _ hpl_G68
    refine ⟨(by show 2 ≤ sizeLine; decide), fun a70 n70 => ?_⟩
    have s_G70 : Same G69 (upd G69 a70 (.tup [.ref a69, .int 1])) := same_new (Same.refl _) n70
    have f70 : DV (2 ^ 140) D D [] (upd G69 a70 (.tup [.ref a69, .int 1])) (.ref a70) 7 4 := (DVs.mono (DVs.cons (DV.up f69 (Int.le_refl _) (Nat.le_refl _) (show 3 ≤ 3 by decide)) (DVs.cons (DV.up (DV.int (B := 2 ^ 140) (b := 0) (k := 0) (by decide) (by decide)) (Int.le_refl _) (Nat.le_refl _) (show 0 ≤ 3 by decide)) (DVs.nil (n := 3)))) (Same.keep s_G70)).tup (ne_of_none hpl_G69 n70).symm (ne_of_none hpl_G69 n70).symm List.not_mem_nil upd_same
    have e70 : upd G69 a70 (.tup [.ref a69, .int 1]) a70 = some (.tup [.ref a69, .int 1]) := upd_same
    generalize upd G69 a70 (.tup [.ref a69, .int 1]) = G70 at s_G70 f70 e70
    have hpl_G70 := s_G70 _ _ hpl_G69
    refine ⟨(by show 1 ≤ sizeLine; decide), fun a71 n71 => ?_⟩
    have s_G71 : Same G70 (upd G70 a71 (.tup [.ref a70])) := same_new (Same.refl _) n71
    have f71 : DV (2 ^ 140) D D [] (upd G70 a71 (.tup [.ref a70])) (.ref a71) 8 5 := (DVs.mono (DVs.cons (DV.up f70 (Int.le_refl _) (Nat.le_refl _) (show 4 ≤ 4 by decide)) (DVs.nil (n := 4))) (Same.keep s_G71)).tup (ne_of_none hpl_G70 n71).symm (ne_of_none hpl_G70 n71).symm List.not_mem_nil upd_same
    have e71 : upd G70 a71 (.tup [.ref a70]) a71 = some (.tup [.ref a70]) := upd_same
    generalize upd G70 a71 (.tup [.ref a70]) = G71 at s_G71 f71 e71
    have hpl_G71 := s_G71 _ _ hpl_G70
    refine ⟨(by show 2 ≤ sizeLine; decide), fun L3 n72 => ?_⟩
    have s_G72 : Same G71 (upd G71 L3 (.lst [.ref a66, .ref a71])) := same_new (Same.refl _) n72
    have e72 : upd G71 L3 (.lst [.ref a66, .ref a71]) L3 = some (.lst [.ref a66, .ref a71]) := upd_same
    have m3 : ∀ w ∈ ([.ref a66, .ref a71] : List V), DV (2 ^ 140) D D [] (upd G71 L3 (.lst [.ref a66, .ref a71])) w 2000 10 := fun w hw => by
      simp only [List.mem_cons, List.not_mem_nil, or_false] at hw
      rcases hw with rfl | rfl
      · exact (DV.up (f66.mono (Same.keep ((((s_G67.trans s_G68).trans s_G69).trans s_G70).trans s_G71))) (Int.le_refl _) (show 11 ≤ 2000 by decide) (show 5 ≤ 10 by decide)).mono (Same.keep s_G72)
      · exact (DV.up f71 (Int.le_refl _) (show 8 ≤ 2000 by decide) (show 5 ≤ 10 by decide)).mono (Same.keep s_G72)
    generalize upd G71 L3 (.lst [.ref a66, .ref a71]) = G72 at s_G72 e72 m3
    have hpl_G72 := s_G72 _ _ hpl_G71
    refine ⟨S2, L3, _, _, rfl, rfl, (((((((((((s_G61.trans s_G62).trans s_G63).trans s_G64).trans s_G65).trans s_G66).trans s_G67).trans s_G68).trans s_G69).trans s_G70).trans s_G71).trans s_G72) _ _ e60, e72, Nat.le_of_lt (small1000 (by rw [wl2]; show 12 + 2 ≤ 1000; decide)), fun S3 n73 => ?_⟩
    obtain ⟨ws3, ew3⟩ : ∃ ws3, ws2 ++ ([V.ref a66, V.ref a71] : List V) = ws3 := ⟨_, rfl⟩
    have wl3 : ws3.length = 14 := by rw [← ew3, List.length_append, wl2]; rfl
    rw [ew3]
    have q3 : ∀ w ∈ ws3, DV (2 ^ 140) D D [] G72 w 2000 10 := fun w hw => by
      rw [← ew3] at hw
      rcases List.mem_append.mp hw with hw | hw
      · exact (q2 w hw).mono (Same.keep (((((((((((s_G61.trans s_G62).trans s_G63).trans s_G64).trans s_G65).trans s_G66).trans s_G67).trans s_G68).trans s_G69).trans s_G70).trans s_G71).trans s_G72))
      · exact m3 w hw
    have s_G73 : Same G72 (upd G72 S3 (.lst ws3)) := same_new (Same.refl _) n73
    have e73 : upd G72 S3 (.lst ws3) S3 = some (.lst ws3) := upd_same
    have q3 : ∀ w ∈ ws3, DV (2 ^ 140) D D [] (upd G72 S3 (.lst ws3)) w 2000 10 := fun w hw => (q3 w hw).mono (Same.keep s_G73)
    generalize upd G72 S3 (.lst ws3) = G73 at s_G73 e73 q3
    have hpl_G73 := s_G73 _ _ hpl_G72
    refine ⟨_, rfl, (by show 3 ≤ sizeLine; decide), fun a74 n74 => ?_⟩
    have s_G74 : Same G73 (upd G73 a74 (.tup [.int 3, .int 3, .int 3])) := same_new (Same.refl _) n74
    have f74 : DV (2 ^ 140) D D [] (upd G73 a74 (.tup [.int 3, .int 3, .int 3])) (.ref a74) 3 1 := (DVs.mono (DVs.cons (DV.up (DV.int (B := 2 ^ 140) (b := 0) (k := 0) (by decide) (by decide)) (Int.le_refl _) (Nat.le_refl _) (show 0 ≤ 0 by decide)) (DVs.cons (DV.up (DV.int (B := 2 ^ 140) (b := 0) (k := 0) (by decide) (by decide)) (Int.le_refl _) (Nat.le_refl _) (show 0 ≤ 0 by decide)) (DVs.cons (DV.up (DV.int (B := 2 ^ 140) (b := 0) (k := 0) (by decide) (by decide)) (Int.le_refl _) (Nat.le_refl _) (show 0 ≤ 0 by decide)) (DVs.nil (n := 0))))) (Same.keep s_G74)).tup (ne_of_none hpl_G73 n74).symm (ne_of_none hpl_G73 n74).symm List.not_mem_nil upd_same
    have e74 : upd G73 a74 (.tup [.int 3, .int 3, .int 3]) a74 = some (.tup [.int 3, .int 3, .int 3]) := upd_same
    generalize upd G73 a74 (.tup [.int 3, .int 3, .int 3]) = G74 at s_G74 f74 e74
    have hpl_G74 := s_G74 _ _ hpl_G73
    refine ⟨(by show 3 ≤ sizeLine; decide), fun a75 n75 => ?_⟩
    have s_G75 : Same G74 (upd G74 a75 (.tup [.int 3, .int 3, .int 4])) := same_new (Same.refl _) n75
    have f75 : DV (2 ^ 140) D D [] (upd G74 a75 (.tup [.int 3, .int 3, .int 4])) (.ref a75) 3 1 := (DVs.mono (DVs.cons (DV.up (DV.int (B := 2 ^ 140) (b := 0) (k := 0) (by decide) (by decide)) (Int.le_refl _) (Nat.le_refl _) (show 0 ≤ 0 by decide)) (DVs.cons (DV.up (DV.int (B := 2 ^ 140) (b := 0) (k := 0) (by decide) (by decide)) (Int.le_refl _) (Nat.le_refl _) (show 0 ≤ 0 by decide)) (DVs.cons (DV.up (DV.int (B := 2 ^ 140) (b := 0) (k := 0) (by decide) (by decide)) (Int.le_refl _) (Nat.le_refl _) (show 0 ≤ 0 by decide)) (DVs.nil (n := 0))))) (Same.keep s_G75)).tup (ne_of_none hpl_G74 n75).symm (ne_of_none hpl_G74 n75).symm List.not_mem_nil upd_same
    have e75 : upd G74 a75 (.tup [.int 3, .int 3, .int 4]) a75 = some (.tup [.int 3, .int 3, .int 4]) := upd_same
    generalize upd G74 a75 (.tup [.int 3, .int 3, .int 4]) = G75 at s_G75 f75 e75
    have hpl_G75 := s_G75 _ _ hpl_G74
    refine ⟨(by show 3 ≤ sizeLine; decide), fun a76 n76 => ?_⟩
    have s_G76 : Same G75 (upd G75 a76 (.tup [.int 4, .int 3, .int 1])) := same_new (Same.refl _) n76
    have f76 : DV (2 ^ 140) D D [] (upd G75 a76 (.tup [.int 4, .int 3, .int 1])) (.ref a76) 3 1 := (DVs.mono (DVs.cons (DV.up (DV.int (B := 2 ^ 140) (b := 0) (k := 0) (by decide) (by decide)) (Int.le_refl _) (Nat.le_refl _) (show 0 ≤ 0 by decide)) (DVs.cons (DV.up (DV.int (B := 2 ^ 140) (b := 0) (k := 0) (by decide) (by decide)) (Int.le_refl _) (Nat.le_refl _) (show 0 ≤ 0 by decide)) (DVs.cons (DV.up (DV.int (B := 2 ^ 140) (b := 0) (k := 0) (by decide) (by decide)) (Int.le_refl _) (Nat.le_refl _) (show 0 ≤ 0 by decide)) (DVs.nil (n := 0))))) (Same.keep s_G76)).tup (ne_of_none hpl_G75 n76).symm (ne_of_none hpl_G75 n76).symm List.not_mem_nil upd_same
    have e76 : upd G75 a76 (.tup [.int 4, .int 3, .int 1]) a76 = some (.tup [.int 4, .int 3, .int 1]) := upd_same
    generalize upd G75 a76 (.tup [.int 4, .int 3, .int 1]) = G76 at s_G76 f76 e76
    have hpl_G76 := s_G76 _ _ hpl_G75
    refine ⟨(by show 3 ≤ sizeLine; decide), fun a77 n77 => ?_⟩
    have s_G77 : Same G76 (upd G76 a77 (.tup [.int 0, .int 3, .int 1])) := same_new (Same.refl _) n77
    have f77 : DV (2 ^ 140) D D [] (upd G76 a77 (.tup [.int 0, .int 3, .int 1])) (.ref a77) 3 1 := (DVs.mono (DVs.cons (DV.up (DV.int (B := 2 ^ 140) (b := 0) (k := 0) (by decide) (by decide)) (Int.le_refl _) (Nat.le_refl _) (show 0 ≤ 0 by decide)) (DVs.cons (DV.up (DV.int (B := 2 ^ 140) (b := 0) (k := 0) (by decide) (by decide)) (Int.le_refl _) (Nat.le_refl _) (show 0 ≤ 0 by decide)) (DVs.cons (DV.up (DV.int (B := 2 ^ 140) (b := 0) (k := 0) (by decide) (by decide)) (Int.le_refl _) (Nat.le_refl _) (show 0 ≤ 0 by decide)) (DVs.nil (n := 0))))) (Same.keep s_G77)).tup (ne_of_none hpl_G76 n77).symm (ne_of_none hpl_G76 n77).symm List.not_mem_nil upd_same
    have e77 : upd G76 a77 (.tup [.int 0, .int 3, .int 1]) a77 = some (.tup [.int 0, .int 3, .int 1]) := upd_same
    generalize upd G76 a77 (.tup [.int 0, .int 3, .int 1]) = G77 at s_G77 f77 e77
    have hpl_G77 := s_G77 _ _ hpl_G76
    refine ⟨(by show 3 ≤ sizeLine; decide), fun a78 n78 => ?_⟩
    have s_G78 : Same G77 (upd G77 a78 (.tup [.int 1, .int 1, .int 0])) := same_new (Same.refl _) n78
    have f78 : DV (2 ^ 140) D D [] (upd G77 a78 (.tup [.int 1, .int 1, .int 0])) (.ref a78) 3 1 := (DVs.mono (DVs.cons (DV.up (DV.int (B := 2 ^ 140) (b := 0) (k := 0) (by decide) (by decide)) (Int.le_refl _) (Nat.le_refl _) (show 0 ≤ 0 by decide)) (DVs.cons (DV.up (DV.int (B := 2 ^ 140) (b := 0) (k := 0) (by decide) (by decide)) (Int.le_refl _) (Nat.le_refl _) (show 0 ≤ 0 by decide)) (DVs.cons (DV.up (DV.int (B := 2 ^ 140) (b := 0) (k := 0) (by decide) (by decide)) (Int.le_refl _) (Nat.le_refl _) (show 0 ≤ 0 by decide)) (DVs.nil (n := 0))))) (Same.keep s_G78)).tup (ne_of_none hpl_G77 n78).symm (ne_of_none hpl_G77 n78).symm List.not_mem_nil upd_same
    have e78 : upd G77 a78 (.tup [.int 1, .int 1, .int 0]) a78 = some (.tup [.int 1, .int 1, .int 0]) := upd_same
    generalize upd G77 a78 (.tup [.int 1, .int 1, .int 0]) = G78 at s_G78 f78 e78
    have hpl_G78 := s_G78 _ _ hpl_G77
    refine ⟨(by show 3 ≤ sizeLine; decide), fun a79 n79 => ?_⟩
    have s_G79 : Same G78 (upd G78 a79 (.tup [.int 1, .int 1, .int 1])) := same_new (Same.refl _) n79
    have f79 : DV (2 ^ 140) D D [] (upd G78 a79 (.tup [.int 1, .int 1, .int 1])) (.ref a79) 3 1 := (DVs.mono (DVs.cons (DV.up (DV.int (B := 2 ^ 140) (b := 0) (k := 0) (by decide) (by decide)) (Int.le_refl _) (Nat.le_refl _) (show 0 ≤ 0 by decide)) (DVs.cons (DV.up (DV.int (B := 2 ^ 140) (b := 0) (k := 0) (by decide) (by decide)) (Int.le_refl _) (Nat.le_refl _) (show 0 ≤ 0 by decide)) (DVs.cons (DV.up (DV.int (B := 2 ^ 140) (b := 0) (k := 0) (by decide) (by decide)) (Int.le_refl _) (Nat.le_refl _) (show 0 ≤ 0 by decide)) (DVs.nil (n := 0))))) (Same.keep s_G79)).tup (ne_of_none hpl_G78 n79).symm (ne_of_none hpl_G78 n79).symm List.not_mem_nil upd_same
    have e79 : upd G78 a79 (.tup [.int 1, .int 1, .int 1]) a79 = some (.tup [.int 1, .int 1, .int 1]) := upd_same
    generalize upd G78 a79 (.tup [.int 1, .int 1, .int 1]) = G79 at s_G79 f79 e79
    have hpl_G79 := s_G79 _ _ hpl_G78
    refine ⟨_, _, rfl, rfl, ⟨by decide, by decide, by decide⟩, (by show 3 ≤ sizeLine; decide), fun a80 n80 => ?_⟩
    have s_G80 : Same G79 (upd G79 a80 (.tup [.int 1, .int (10 ^ (39 : Int).toNat), .int 2])) := same_new (Same.refl _) n80
    have f80 : DV (2 ^ 140) D D [] (upd G79 a80 (.tup [.int 1, .int (10 ^ (39 : Int).toNat), .int 2])) (.ref a80) 3 1 := (DVs.mono (DVs.cons (DV.up (DV.int (B := 2 ^ 140) (b := 0) (k := 0) (by decide) (by decide)) (Int.le_refl _) (Nat.le_refl _) (show 0 ≤ 0 by decide)) (DVs.cons (DV.up (DV.int (B := 2 ^ 140) (b := 0) (k := 0) (by decide) (by decide)) (Int.le_refl _) (Nat.le_refl _) (show 0 ≤ 0 by decide)) (DVs.cons (DV.up (DV.int (B := 2 ^ 140) (b := 0) (k := 0) (by decide) (by decide)) (Int.le_refl _) (Nat.le_refl _) (show 0 ≤ 0 by decide)) (DVs.nil (n := 0))))) (Same.keep s_G80)).tup (ne_of_none hpl_G79 n80).symm (ne_of_none hpl_G79 n80).symm List.not_mem_nil upd_same
    have e80 : upd G79 a80 (.tup [.int 1, .int (10 ^ (39 : Int).toNat), .int 2]) a80 = some (.tup [.int 1, .int (10 ^ (39 : Int).toNat), .int 2]) := upd_same
    generalize upd G79 a80 (.tup [.int 1, .int (10 ^ (39 : Int).toNat), .int 2]) = G80 at s_G80 f80 e80
    have hpl_G80 := s_G80 _ _ hpl_G79
    refine ⟨(by show 7 ≤ sizeLine; decide), fun L4 n81 => ?_⟩
    have s_G81 : Same G80 (upd G80 L4 (.lst [.ref a74, .ref a75, .ref a76, .ref a77, .ref a78, .ref a79, .ref a80])) := same_new (Same.refl _) n81
    have e81 : upd G80 L4 (.lst [.ref a74, .ref a75, .ref a76, .ref a77, .ref a78, .ref a79, .ref a80]) L4 = some (.lst [.ref a74, .ref a75, .ref a76, .ref a77, .ref a78, .ref a79, .ref a80]) := upd_same
    have m4 : ∀ w ∈ ([.ref a74, .ref a75, .ref a76, .ref a77, .ref a78, .ref a79, .ref a80] : List V), DV (2 ^ 140) D D [] (upd G80 L4 (.lst [.ref a74, .ref a75, .ref a76, .ref a77, .ref a78, .ref a79, .ref a80])) w 2000 10 := fun w hw => by
      simp only [List.mem_cons, List.not_mem_nil, or_false] at hw
      rcases hw with rfl | rfl | rfl | rfl | rfl | rfl | rfl
      · exact (DV.up (f74.mono (Same.keep (((((s_G75.trans s_G76).trans s_G77).trans s_G78).trans s_G79).trans s_G80))) (Int.le_refl _) (show 3 ≤ 2000 by decide) (show 1 ≤ 10 by decide)).mono (Same.keep s_G81)
      · exact (DV.up (f75.mono (Same.keep ((((s_G76.trans s_G77).trans s_G78).trans s_G79).trans s_G80))) (Int.le_refl _) (show 3 ≤ 2000 by decide) (show 1 ≤ 10 by decide)).mono (Same.keep s_G81)
      · exact (DV.up (f76.mono (Same.keep (((s_G77.trans s_G78).trans s_G79).trans s_G80))) (Int.le_refl _) (show 3 ≤ 2000 by decide) (show 1 ≤ 10 by decide)).mono (Same.keep s_G81)
      · exact (DV.up (f77.mono (Same.keep ((s_G78.trans s_G79).trans s_G80))) (Int.le_refl _) (show 3 ≤ 2000 by decide) (show 1 ≤ 10 by decide)).mono (Same.keep s_G81)
      · exact (DV.up (f78.mono (Same.keep (s_G79.trans s_G80))) (Int.le_refl _) (show 3 ≤ 2000 by decide) (show 1 ≤ 10 by decide)).mono (Same.keep s_G81)
      · exact (DV.up (f79.mono (Same.keep s_G80)) (Int.le_refl _) (show 3 ≤ 2000 by decide) (show 1 ≤ 10 by decide)).mono (Same.keep s_G81)
      · exact (DV.up f80 (Int.le_refl _) (show 3 ≤ 2000 by decide) (show 1 ≤ 10 by decide)).mono (Same.keep s_G81)
    generalize upd G80 L4 (.lst [.ref a74, .ref a75, .ref a76, .ref a77, .ref a78, .ref a79, .ref a80]) = G81 at s_G81 e81 m4
    have hpl_G81 := s_G81 _ _ hpl_G80
    refine ⟨S3, L4, _, _, rfl, rfl, (((((((s_G74.trans s_G75).trans s_G76).trans s_G77).trans s_G78).trans s_G79).trans s_G80).trans s_G81) _ _ e73, e81, Nat.le_of_lt (small1000 (by rw [wl3]; show 14 + 7 ≤ 1000; decide)), fun S4 n82 => ?_⟩
    obtain ⟨ws4, ew4⟩ : ∃ ws4, ws3 ++ ([V.ref a74, V.ref a75, V.ref a76, V.ref a77, V.ref a78, V.ref a79, V.ref a80] : List V) = ws4 := ⟨_, rfl⟩
    have wl4 : ws4.length = 21 := by rw [← ew4, List.length_append, wl3]; rfl
    rw [ew4]
    have q4 : ∀ w ∈ ws4, DV (2 ^ 140) D D [] G81 w 2000 10 := fun w hw => by
      rw [← ew4] at hw
      rcases List.mem_append.mp hw with hw | hw
      · exact (q3 w hw).mono (Same.keep (((((((s_G74.trans s_G75).trans s_G76).trans s_G77).trans s_G78).trans s_G79).trans s_G80).trans s_G81))
      · exact m4 w hw
    have s_G82 : Same G81 (upd G81 S4 (.lst ws4)) := same_new (Same.refl _) n82
    have e82 : upd G81 S4 (.lst ws4) S4 = some (.lst ws4) := upd_same
    have q4 : ∀ w ∈ ws4, DV (2 ^ 140) D D [] (upd G81 S4 (.lst ws4)) w 2000 10 := fun w hw => (q4 w hw).mono (Same.keep s_G82)
    generalize upd G81 S4 (.lst ws4) = G82 at s_G82 e82 q4
    have hpl_G82 := s_G82 _ _ hpl_G81
    refine ⟨_, rfl, (by show 2 ≤ sizeLine; decide), fun a83 n83 => ?_⟩
    have s_G83 : Same G82 (upd G82 a83 (.tup [.int 1, .int 1])) := same_new (Same.refl _) n83
    have f83 : DV (2 ^ 140) D D [] (upd G82 a83 (.tup [.int 1, .int 1])) (.ref a83) 2 1 := (DVs.mono (DVs.cons (DV.up (DV.int (B := 2 ^ 140) (b := 0) (k := 0) (by decide) (by decide)) (Int.le_refl _) (Nat.le_refl _) (show 0 ≤ 0 by decide)) (DVs.cons (DV.up (DV.int (B := 2 ^ 140) (b := 0) (k := 0) (by decide) (by decide)) (Int.le_refl _) (Nat.le_refl _) (show 0 ≤ 0 by decide)) (DVs.nil (n := 0)))) (Same.keep s_G83)).tup (ne_of_none hpl_G82 n83).symm (ne_of_none hpl_G82 n83).symm List.not_mem_nil upd_same
    have e83 : upd G82 a83 (.tup [.int 1, .int 1]) a83 = some (.tup [.int 1, .int 1]) := upd_same
    generalize upd G82 a83 (.tup [.int 1, .int 1]) = G83 at s_G83 f83 e83
    have hpl_G83 := s_G83 _ _ hpl_G82
    refine ⟨(by show 4 ≤ sizeLine; decide), fun a84 n84 => ?_⟩
    have s_G84 : Same G83 (upd G83 a84 (.tup [.int 1, .int 1, .int 1, .int 1])) := same_new (Same.refl _) n84
    have f84 : DV (2 ^ 140) D D [] (upd G83 a84 (.tup [.int 1, .int 1, .int 1, .int 1])) (.ref a84) 4 1 := (DVs.mono (DVs.cons (DV.up (DV.int (B := 2 ^ 140) (b := 0) (k := 0) (by decide) (by decide)) (Int.le_refl _) (Nat.le_refl _) (show 0 ≤ 0 by decide)) (DVs.cons (DV.up (DV.int (B := 2 ^ 140) (b := 0) (k := 0) (by decide) (by decide)) (Int.le_refl _) (Nat.le_refl _) (show 0 ≤ 0 by decide)) (DVs.cons (DV.up (DV.int (B := 2 ^ 140) (b := 0) (k := 0) (by decide) (by decide)) (Int.le_refl _) (Nat.le_refl _) (show 0 ≤ 0 by decide)) (DVs.cons (DV.up (DV.int (B := 2 ^ 140) (b := 0) (k := 0) (by decide) (by decide)) (Int.le_refl _) (Nat.le_refl _) (show 0 ≤ 0 by decide)) (DVs.nil (n := 0)))))) (Same.keep s_G84)).tup (ne_of_none hpl_G83 n84).symm (ne_of_none hpl_G83 n84).symm List.not_mem_nil upd_same
    have e84 : upd G83 a84 (.tup [.int 1, .int 1, .int 1, .int 1]) a84 = some (.tup [.int 1, .int 1, .int 1, .int 1]) := upd_same
    generalize upd G83 a84 (.tup [.int 1, .int 1, .int 1, .int 1]) = G84 at s_G84 f84 e84
    have hpl_G84 := s_G84 _ _ hpl_G83
    refine ⟨Nat.zero_le _, fun a85 n85 => ?_⟩
    have s_G85 : Same G84 (upd G84 a85 (.lst [])) := same_new (Same.refl _) n85
    have f85 : DV (2 ^ 140) D D [] (upd G84 a85 (.lst [])) (.ref a85) 0 1 := (DVs.mono (DVs.nil (n := 0)) (Same.keep s_G85)).lst (ne_of_none hpl_G84 n85).symm (ne_of_none hpl_G84 n85).symm List.not_mem_nil upd_same
    have e85 : upd G84 a85 (.lst []) a85 = some (.lst []) := upd_same
    generalize upd G84 a85 (.lst []) = G85 at s_G85 f85 e85
    have hpl_G85 := s_G85 _ _ hpl_G84
    refine fun a86 n86 => ?_
    have s_G86 : Same G85 (upd G85 a86 (.dK [])) := same_new (Same.refl _) n86
    have f86 : DV (2 ^ 140) D D [] (upd G85 a86 (.dK [])) (.ref a86) 0 1 := ⟨.dict [], .dic0 (ne_of_none hpl_G85 n86).symm (ne_of_none hpl_G85 n86).symm List.not_mem_nil upd_same, Nat.le_refl _, by decide⟩
    show tCons _ _ _ (upd G85 a86 (.dK [])) _
    generalize upd G85 a86 (.dK []) = G86 at s_G86 f86
    have hpl_G86 := s_G86 _ _ hpl_G85
    refine ⟨_, rfl, (by show 2 ≤ sizeLine; decide), fun a87 n87 => ?_⟩
    have s_G87 : Same G86 (upd G86 a87 (.tup [.ref one, .int 1])) := same_new (Same.refl _) n87
    have f87 : DV (2 ^ 140) D D [] (upd G86 a87 (.tup [.ref one, .int 1])) (.ref a87) 10 4 := (DVs.mono (DVs.cons (DV.up (fone.mono (Same.keep (((((((((((((((((((((((((((((((((((((((((((((((((((((((((((((((((((((((((((s_G11.trans s_G12).trans s_G13).trans s_G14).trans s_G15).trans s_G16).trans s_G17).trans s_G18).trans s_G19).trans s_G20).trans s_G21).trans s_G22).trans s_G23).trans s_G24).trans s_G25).trans s_G26).trans s_G27).trans s_G28).trans s_G29).trans s_G30).trans s_G31).trans s_G32).trans s_G33).trans s_G34).trans s_G35).trans s_G36).trans s_G37).trans s_G38).trans s_G39).trans s_G40).trans s_G41).trans s_G42).trans s_G43).trans s_G44).trans s_G45).trans s_G46).trans s_G47).trans s_G48).trans s_G49).trans s_G50).trans s_G51).trans s_G52).trans s_G53).trans s_G54).trans s_G55).trans s_G56).trans s_G57).trans s_G58).trans s_G59).trans s_G60).trans s_G61).trans s_G62).trans s_G63).trans s_G64).trans s_G65).trans s_G66).trans s_G67).trans s_G68).trans s_G69).trans s_G70).trans s_G71).trans s_G72).trans s_G73).trans s_G74).trans s_G75).trans s_G76).trans s_G77).trans s_G78).trans s_G79).trans s_G80).trans s_G81).trans s_G82).trans s_G83).trans s_G84).trans s_G85).trans s_G86))) (Int.le_refl _) (Nat.le_refl _) (show 3 ≤ 3 by decide)) (DVs.cons (DV.up (DV.int (B := 2 ^ 140) (b := 0) (k := 0) (by decide) (by decide)) (Int.le_refl _) (Nat.le_refl _) (show 0 ≤ 3 by decide)) (DVs.nil (n := 3)))) (Same.keep s_G87)).tup (ne_of_none hpl_G86 n87).symm (ne_of_none hpl_G86 n87).symm List.not_mem_nil upd_same
    have e87 : upd G86 a87 (.tup [.ref one, .int 1]) a87 = some (.tup [.ref one, .int 1]) := upd_same
    generalize upd G86 a87 (.tup [.ref one, .int 1]) = G87 at s_G87 f87 e87
    have hpl_G87 := s_G87 _ _ hpl_G86
    refine ⟨(by show 1 ≤ sizeLine; decide), fun a88 n88 => ?_⟩
    have s_G88 : Same G87 (upd G87 a88 (.lst [.ref a87])) := same_new (Same.refl _) n88
    have f88 : DV (2 ^ 140) D D [] (upd G87 a88 (.lst [.ref a87])) (.ref a88) 11 5 := (DVs.mono (DVs.cons (DV.up f87 (Int.le_refl _) (Nat.le_refl _) (show 4 ≤ 4 by decide)) (DVs.nil (n := 4))) (Same.keep s_G88)).lst (ne_of_none hpl_G87 n88).symm (ne_of_none hpl_G87 n88).symm List.not_mem_nil upd_same
    have e88 : upd G87 a88 (.lst [.ref a87]) a88 = some (.lst [.ref a87]) := upd_same
    generalize upd G87 a88 (.lst [.ref a87]) = G88 at s_G88 f88 e88
    have hpl_G88 := s_G88 _ _ hpl_G87
    refine ⟨_, rfl, (by show 2 ≤ sizeLine; decide), fun a89 n89 => ?_⟩
    have s_G89 : Same G88 (upd G88 a89 (.tup [.ref one, .int 1])) := same_new (Same.refl _) n89
    have f89 : DV (2 ^ 140) D D [] (upd G88 a89 (.tup [.ref one, .int 1])) (.ref a89) 10 4 := (DVs.mono (DVs.cons (DV.up (fone.mono (Same.keep (((((((((((((((((((((((((((((((((((((((((((((((((((((((((((((((((((((((((((((s_G11.trans s_G12).trans s_G13).trans s_G14).trans s_G15).trans s_G16).trans s_G17).trans s_G18).trans s_G19).trans s_G20).trans s_G21).trans s_G22).trans s_G23).trans s_G24).trans s_G25).trans s_G26).trans s_G27).trans s_G28).trans s_G29).trans s_G30).trans s_G31).trans s_G32).trans s_G33).trans s_G34).trans s_G35).trans s_G36).trans s_G37).trans s_G38).trans s_G39).trans s_G40).trans s_G41).trans s_G42).trans s_G43).trans s_G44).trans s_G45).trans s_G46).trans s_G47).trans s_G48).trans s_G49).trans s_G50).trans s_G51).trans s_G52).trans s_G53).trans s_G54).trans s_G55).trans s_G56).trans s_G57).trans s_G58).trans s_G59).trans s_G60).trans s_G61).trans s_G62).trans s_G63).trans s_G64).trans s_G65).trans s_G66).trans s_G67).trans s_G68).trans s_G69).trans s_G70).trans s_G71).trans s_G72).trans s_G73).trans s_G74).trans s_G75).trans s_G76).trans s_G77).trans s_G78).trans s_G79).trans s_G80).trans s_G81).trans s_G82).trans s_G83).trans s_G84).trans s_G85).trans s_G86).trans s_G87).trans s_G88))) (Int.le_refl _) (Nat.le_refl _) (show 3 ≤ 3 by decide)) (DVs.cons (DV.up (DV.int (B := 2 ^ 140) (b := 0) (k := 0) (by decide) (by decide)) (Int.le_refl _) (Nat.le_refl _) (show 0 ≤ 3 by decide)) (DVs.nil (n := 3)))) (Same.keep s_G89)).tup (ne_of_none hpl_G88 n89).symm (ne_of_none hpl_G88 n89).symm List.not_mem_nil upd_same
    have e89 : upd G88 a89 (.tup [.ref one, .int 1]) a89 = some (.tup [.ref one, .int 1]) := upd_same
    generalize upd G88 a89 (.tup [.ref one, .int 1]) = G89 at s_G89 f89 e89
    have hpl_G89 := s_G89 _ _ hpl_G88
    refine ⟨_, rfl, (by show 1 ≤ sizeLine; decide), fun a90 n90 => ?_⟩
    have s_G90 : Same G89 (upd G89 a90 (.tup [.ref one])) := same_new (Same.refl _) n90
    have f90 : DV (2 ^ 140) D D [] (upd G89 a90 (.tup [.ref one])) (.ref a90) 9 4 := (DVs.mono (DVs.cons (DV.up (fone.mono (Same.keep ((((((((((((((((((((((((((((((((((((((((((((((((((((((((((((((((((((((((((((((s_G11.trans s_G12).trans s_G13).trans s_G14).trans s_G15).trans s_G16).trans s_G17).trans s_G18).trans s_G19).trans s_G20).trans s_G21).trans s_G22).trans s_G23).trans s_G24).trans s_G25).trans s_G26).trans s_G27).trans s_G28).trans s_G29).trans s_G30).trans s_G31).trans s_G32).trans s_G33).trans s_G34).trans s_G35).trans s_G36).trans s_G37).trans s_G38).trans s_G39).trans s_G40).trans s_G41).trans s_G42).trans s_G43).trans s_G44).trans s_G45).trans s_G46).trans s_G47).trans s_G48).trans s_G49).trans s_G50).trans s_G51).trans s_G52).trans s_G53).trans s_G54).trans s_G55).trans s_G56).trans s_G57).trans s_G58).trans s_G59).trans s_G60).trans s_G61).trans s_G62).trans s_G63).trans s_G64).trans s_G65).trans s_G66).trans s_G67).trans s_G68).trans s_G69).trans s_G70).trans s_G71).trans s_G72).trans s_G73).trans s_G74).trans s_G75).trans s_G76).trans s_G77).trans s_G78).trans s_G79).trans s_G80).trans s_G81).trans s_G82).trans s_G83).trans s_G84).trans s_G85).trans s_G86).trans s_G87).trans s_G88).trans s_G89))) (Int.le_refl _) (Nat.le_refl _) (show 3 ≤ 3 by decide)) (DVs.nil (n := 3))) (Same.keep s_G90)).tup (ne_of_none hpl_G89 n90).symm (ne_of_none hpl_G89 n90).symm List.not_mem_nil upd_same
    have e90 : upd G89 a90 (.tup [.ref one]) a90 = some (.tup [.ref one]) := upd_same
    generalize upd G89 a90 (.tup [.ref one]) = G90 at s_G90 f90 e90
    have hpl_G90 := s_G90 _ _ hpl_G89
    refine ⟨(by show 1 ≤ sizeLine; decide), fun a91 n91 => ?_⟩
    have s_G91 : Same G90 (upd G90 a91 (.tup [.ref a90])) := same_new (Same.refl _) n91
    have f91 : DV (2 ^ 140) D D [] (upd G90 a91 (.tup [.ref a90])) (.ref a91) 10 5 := (DVs.mono (DVs.cons (DV.up f90 (Int.le_refl _) (Nat.le_refl _) (show 4 ≤ 4 by decide)) (DVs.nil (n := 4))) (Same.keep s_G91)).tup (ne_of_none hpl_G90 n91).symm (ne_of_none hpl_G90 n91).symm List.not_mem_nil upd_same
    have e91 : upd G90 a91 (.tup [.ref a90]) a91 = some (.tup [.ref a90]) := upd_same
    generalize upd G90 a91 (.tup [.ref a90]) = G91 at s_G91 f91 e91
    have hpl_G91 := s_G91 _ _ hpl_G90
    refine ⟨(by show 11 ≤ sizeLine; decide), fun L5 n92 => ?_⟩
    have s_G92 : Same G91 (upd G91 L5 (.lst [.ref a83, .ref a84, .non, .bl true, .int 0, .str (Str.ofString ""), .ref a85, .ref a86, .ref a88, .ref a89, .ref a91])) := same_new (Same.refl _) n92
    have e92 : upd G91 L5 (.lst [.ref a83, .ref a84, .non, .bl true, .int 0, .str (Str.ofString ""), .ref a85, .ref a86, .ref a88, .ref a89, .ref a91]) L5 = some (.lst [.ref a83, .ref a84, .non, .bl true, .int 0, .str (Str.ofString ""), .ref a85, .ref a86, .ref a88, .ref a89, .ref a91]) := upd_same
    have m5 : ∀ w ∈ ([.ref a83, .ref a84, .non, .bl true, .int 0, .str (Str.ofString ""), .ref a85, .ref a86, .ref a88, .ref a89, .ref a91] : List V), DV (2 ^ 140) D D [] (upd G91 L5 (.lst [.ref a83, .ref a84, .non, .bl true, .int 0, .str (Str.ofString ""), .ref a85, .ref a86, .ref a88, .ref a89, .ref a91])) w 2000 10 := fun w hw => by
      simp only [List.mem_cons, List.not_mem_nil, or_false] at hw
      rcases hw with rfl | rfl | rfl | rfl | rfl | rfl | rfl | rfl | rfl | rfl | rfl
      · exact (DV.up (f83.mono (Same.keep (((((((s_G84.trans s_G85).trans s_G86).trans s_G87).trans s_G88).trans s_G89).trans s_G90).trans s_G91))) (Int.le_refl _) (show 2 ≤ 2000 by decide) (show 1 ≤ 10 by decide)).mono (Same.keep s_G92)
      · exact (DV.up (f84.mono (Same.keep ((((((s_G85.trans s_G86).trans s_G87).trans s_G88).trans s_G89).trans s_G90).trans s_G91))) (Int.le_refl _) (show 4 ≤ 2000 by decide) (show 1 ≤ 10 by decide)).mono (Same.keep s_G92)
      · exact (DV.up (DV.non (b := 0) (k := 0)) (Int.le_refl _) (show 0 ≤ 2000 by decide) (show 0 ≤ 10 by decide)).mono (Same.keep s_G92)
      · exact (DV.up (DV.bl (b := 0) (k := 0)) (Int.le_refl _) (show 0 ≤ 2000 by decide) (show 0 ≤ 10 by decide)).mono (Same.keep s_G92)
      · exact (DV.up (DV.int (B := 2 ^ 140) (b := 0) (k := 0) (by decide) (by decide)) (Int.le_refl _) (show 0 ≤ 2000 by decide) (show 0 ≤ 10 by decide)).mono (Same.keep s_G92)
      · exact DV.str (by decide) (by decide)
      · exact (DV.up (f85.mono (Same.keep (((((s_G86.trans s_G87).trans s_G88).trans s_G89).trans s_G90).trans s_G91))) (Int.le_refl _) (show 0 ≤ 2000 by decide) (show 1 ≤ 10 by decide)).mono (Same.keep s_G92)
      · exact (DV.up (f86.mono (Same.keep ((((s_G87.trans s_G88).trans s_G89).trans s_G90).trans s_G91))) (Int.le_refl _) (show 0 ≤ 2000 by decide) (show 1 ≤ 10 by decide)).mono (Same.keep s_G92)
      · exact (DV.up (f88.mono (Same.keep ((s_G89.trans s_G90).trans s_G91))) (Int.le_refl _) (show 11 ≤ 2000 by decide) (show 5 ≤ 10 by decide)).mono (Same.keep s_G92)
      · exact (DV.up (f89.mono (Same.keep (s_G90.trans s_G91))) (Int.le_refl _) (show 10 ≤ 2000 by decide) (show 4 ≤ 10 by decide)).mono (Same.keep s_G92)
      · exact (DV.up f91 (Int.le_refl _) (show 10 ≤ 2000 by decide) (show 5 ≤ 10 by decide)).mono (Same.keep s_G92)
    generalize upd G91 L5 (.lst [.ref a83, .ref a84, .non, .bl true, .int 0, .str (Str.ofString ""), .ref a85, .ref a86, .ref a88, .ref a89, .ref a91]) = G92 at s_G92 e92 m5
    have hpl_G92 := s_G92 _ _ hpl_G91
    refine ⟨S4, L5, _, _, rfl, rfl, (((((((((s_G83.trans s_G84).trans s_G85).trans s_G86).trans s_G87).trans s_G88).trans s_G89).trans s_G90).trans s_G91).trans s_G92) _ _ e82, e92, Nat.le_of_lt (small1000 (by rw [wl4]; show 21 + 11 ≤ 1000; decide)), fun S5 n93 => ?_⟩
    obtain ⟨ws5, ew5⟩ : ∃ ws5, ws4 ++ ([V.ref a83, V.ref a84, V.non, V.bl true, V.int 0, V.str (Str.ofString ""), V.ref a85, V.ref a86, V.ref a88, V.ref a89, V.ref a91] : List V) = ws5 := ⟨_, rfl⟩
    have wl5 : ws5.length = 32 := by rw [← ew5, List.length_append, wl4]; rfl
    rw [ew5]
    have q5 : ∀ w ∈ ws5, DV (2 ^ 140) D D [] G92 w 2000 10 := fun w hw => by
      rw [← ew5] at hw
      rcases List.mem_append.mp hw with hw | hw
      · exact (q4 w hw).mono (Same.keep (((((((((s_G83.trans s_G84).trans s_G85).trans s_G86).trans s_G87).trans s_G88).trans s_G89).trans s_G90).trans s_G91).trans s_G92))
      · exact m5 w hw
    have s_G93 : Same G92 (upd G92 S5 (.lst ws5)) := same_new (Same.refl _) n93
    have e93 : upd G92 S5 (.lst ws5) S5 = some (.lst ws5) := upd_same
    have q5 : ∀ w ∈ ws5, DV (2 ^ 140) D D [] (upd G92 S5 (.lst ws5)) w 2000 10 := fun w hw => (q5 w hw).mono (Same.keep s_G93)
    generalize upd G92 S5 (.lst ws5) = G93 at s_G93 e93 q5
    have hpl_G93 := s_G93 _ _ hpl_G92
    refine ⟨_, rfl, _, rfl, (by show 3 ≤ sizeLine; decide), fun a94 n94 => ?_⟩
    have s_G94 : Same G93 (upd G93 a94 (.tup [.ref one, .int 1, .int 1])) := same_new (Same.refl _) n94
    have f94 : DV (2 ^ 140) D D [] (upd G93 a94 (.tup [.ref one, .int 1, .int 1])) (.ref a94) 11 4 := (DVs.mono (DVs.cons (DV.up (fone.mono (Same.keep ((((((((((((((((((((((((((((((((((((((((((((((((((((((((((((((((((((((((((((((((((s_G11.trans s_G12).trans s_G13).trans s_G14).trans s_G15).trans s_G16).trans s_G17).trans s_G18).trans s_G19).trans s_G20).trans s_G21).trans s_G22).trans s_G23).trans s_G24).trans s_G25).trans s_G26).trans s_G27).trans s_G28).trans s_G29).trans s_G30).trans s_G31).trans s_G32).trans s_G33).trans s_G34).trans s_G35).trans s_G36).trans s_G37).trans s_G38).trans s_G39).trans s_G40).trans s_G41).trans s_G42).trans s_G43).trans s_G44).trans s_G45).trans s_G46).trans s_G47).trans s_G48).trans s_G49).trans s_G50).trans s_G51).trans s_G52).trans s_G53).trans s_G54).trans s_G55).trans s_G56).trans s_G57).trans s_G58).trans s_G59).trans s_G60).trans s_G61).trans s_G62).trans s_G63).trans s_G64).trans s_G65).trans s_G66).trans s_G67).trans s_G68).trans s_G69).trans s_G70).trans s_G71).trans s_G72).trans s_G73).trans s_G74).trans s_G75).trans s_G76).trans s_G77).trans s_G78).trans s_G79).trans s_G80).trans s_G81).trans s_G82).trans s_G83).trans s_G84).trans s_G85).trans s_G86).trans s_G87).trans s_G88).trans s_G89).trans s_G90).trans s_G91).trans s_G92).trans s_G93))) (Int.le_refl _) (Nat.le_refl _) (show 3 ≤ 3 by decide)) (DVs.cons (DV.up (DV.int (B := 2 ^ 140) (b := 0) (k := 0) (by decide) (by decide)) (Int.le_refl _) (Nat.le_refl _) (show 0 ≤ 3 by decide)) (DVs.cons (DV.up (DV.int (B := 2 ^ 140) (b := 0) (k := 0) (by decide) (by decide)) (Int.le_refl _) (Nat.le_refl _) (show 0 ≤ 3 by decide)) (DVs.nil (n := 3))))) (Same.keep s_G94)).tup (ne_of_none hpl_G93 n94).symm (ne_of_none hpl_G93 n94).symm List.not_mem_nil upd_same
    have e94 : upd G93 a94 (.tup [.ref one, .int 1, .int 1]) a94 = some (.tup [.ref one, .int 1, .int 1]) := upd_same
    generalize upd G93 a94 (.tup [.ref one, .int 1, .int 1]) = G94 at s_G94 f94 e94
    have hpl_G94 := s_G94 _ _ hpl_G93
    refine ⟨(by show 1 ≤ sizeLine; decide), fun a95 n95 => ?_⟩
    have s_G95 : Same G94 (upd G94 a95 (.tup [.ref a94])) := same_new (Same.refl _) n95
    have f95 : DV (2 ^ 140) D D [] (upd G94 a95 (.tup [.ref a94])) (.ref a95) 12 5 := (DVs.mono (DVs.cons (DV.up f94 (Int.le_refl _) (Nat.le_refl _) (show 4 ≤ 4 by decide)) (DVs.nil (n := 4))) (Same.keep s_G95)).tup (ne_of_none hpl_G94 n95).symm (ne_of_none hpl_G94 n95).symm List.not_mem_nil upd_same
    have e95 : upd G94 a95 (.tup [.ref a94]) a95 = some (.tup [.ref a94]) := upd_same
    generalize upd G94 a95 (.tup [.ref a94]) = G95 at s_G95 f95 e95
    have hpl_G95 := s_G95 _ _ hpl_G94
    refine ⟨_, rfl, (by show 2 ≤ sizeLine; decide), fun a96 n96 => ?_⟩
    have s_G96 : Same G95 (upd G95 a96 (.lst [.ref one, .int 1])) := same_new (Same.refl _) n96
    have f96 : DV (2 ^ 140) D D [] (upd G95 a96 (.lst [.ref one, .int 1])) (.ref a96) 10 4 := (DVs.mono (DVs.cons (DV.up (fone.mono (Same.keep ((((((((((((((((((((((((((((((((((((((((((((((((((((((((((((((((((((((((((((((((((((s_G11.trans s_G12).trans s_G13).trans s_G14).trans s_G15).trans s_G16).trans s_G17).trans s_G18).trans s_G19).trans s_G20).trans s_G21).trans s_G22).trans s_G23).trans s_G24).trans s_G25).trans s_G26).trans s_G27).trans s_G28).trans s_G29).trans s_G30).trans s_G31).trans s_G32).trans s_G33).trans s_G34).trans s_G35).trans s_G36).trans s_G37).trans s_G38).trans s_G39).trans s_G40).trans s_G41).trans s_G42).trans s_G43).trans s_G44).trans s_G45).trans s_G46).trans s_G47).trans s_G48).trans s_G49).trans s_G50).trans s_G51).trans s_G52).trans s_G53).trans s_G54).trans s_G55).trans s_G56).trans s_G57).trans s_G58).trans s_G59).trans s_G60).trans s_G61).trans s_G62).trans s_G63).trans s_G64).trans s_G65).trans s_G66).trans s_G67).trans s_G68).trans s_G69).trans s_G70).trans s_G71).trans s_G72).trans s_G73).trans s_G74).trans s_G75).trans s_G76).trans s_G77).trans s_G78).trans s_G79).trans s_G80).trans s_G81).trans s_G82).trans s_G83).trans s_G84).trans s_G85).trans s_G86).trans s_G87).trans s_G88).trans s_G89).trans s_G90).trans s_G91).trans s_G92).trans s_G93).trans s_G94).trans s_G95))) (Int.le_refl _) (Nat.le_refl _) (show 3 ≤ 3 by decide)) (DVs.cons (DV.up (DV.int (B := 2 ^ 140) (b := 0) (k := 0) (by decide) (by decide)) (Int.le_refl _) (Nat.le_refl _) (show 0 ≤ 3 by decide)) (DVs.nil (n := 3)))) (Same.keep s_G96)).lst (ne_of_none hpl_G95 n96).symm (ne_of_none hpl_G95 n96).symm List.not_mem_nil upd_same
    have e96 : upd G95 a96 (.lst [.ref one, .int 1]) a96 = some (.lst [.ref one, .int 1]) := upd_same
    generalize upd G95 a96 (.lst [.ref one, .int 1]) = G96 at s_G96 f96 e96
    have hpl_G96 := s_G96 _ _ hpl_G95
    refine ⟨(by show 1 ≤ sizeLine; decide), fun a97 n97 => ?_⟩
    have s_G97 : Same G96 (upd G96 a97 (.tup [.ref a96])) := same_new (Same.refl _) n97
    have f97 : DV (2 ^ 140) D D [] (upd G96 a97 (.tup [.ref a96])) (.ref a97) 11 5 := (DVs.mono (DVs.cons (DV.up f96 (Int.le_refl _) (Nat.le_refl _) (show 4 ≤ 4 by decide)) (DVs.nil (n := 4))) (Same.keep s_G97)).tup (ne_of_none hpl_G96 n97).symm (ne_of_none hpl_G96 n97).symm List.not_mem_nil upd_same
    have e97 : upd G96 a97 (.tup [.ref a96]) a97 = some (.tup [.ref a96]) := upd_same
    generalize upd G96 a97 (.tup [.ref a96]) = G97 at s_G97 f97 e97
    have hpl_G97 := s_G97 _ _ hpl_G96
    refine ⟨_, rfl, (by show 2 ≤ sizeLine; decide), fun a98 n98 => ?_⟩
    have s_G98 : Same G97 (upd G97 a98 (.tup [.ref one, .bl true])) := same_new (Same.refl _) n98
    have f98 : DV (2 ^ 140) D D [] (upd G97 a98 (.tup [.ref one, .bl true])) (.ref a98) 10 4 := (DVs.mono (DVs.cons (DV.up (fone.mono (Same.keep ((((((((((((((((((((((((((((((((((((((((((((((((((((((((((((((((((((((((((((((((((((((s_G11.trans s_G12).trans s_G13).trans s_G14).trans s_G15).trans s_G16).trans s_G17).trans s_G18).trans s_G19).trans s_G20).trans s_G21).trans s_G22).trans s_G23).trans s_G24).trans s_G25).trans s_G26).trans s_G27).trans s_G28).trans s_G29).trans s_G30).trans s_G31).trans s_G32).trans s_G33).trans s_G34).trans s_G35).trans s_G36).trans s_G37).trans s_G38).trans s_G39).trans s_G40).trans s_G41).trans s_G42).trans s_G43).trans s_G44).trans s_G45).trans s_G46).trans s_G47).trans s_G48).trans s_G49).trans s_G50).trans s_G51).trans s_G52).trans s_G53).trans s_G54).trans s_G55).trans s_G56).trans s_G57).trans s_G58).trans s_G59).trans s_G60).trans s_G61).trans s_G62).trans s_G63).trans s_G64).trans s_G65).trans s_G66).trans s_G67).trans s_G68).trans s_G69).trans s_G70).trans s_G71).trans s_G72).trans s_G73).trans s_G74).trans s_G75).trans s_G76).trans s_G77).trans s_G78).trans s_G79).trans s_G80).trans s_G81).trans s_G82).trans s_G83).trans s_G84).trans s_G85).trans s_G86).trans s_G87).trans s_G88).trans s_G89).trans s_G90).trans s_G91).trans s_G92).trans s_G93).trans s_G94).trans s_G95).trans s_G96).trans s_G97))) (Int.le_refl _) (Nat.le_refl _) (show 3 ≤ 3 by decide)) (DVs.cons (DV.up (DV.bl (b := 0) (k := 0)) (Int.le_refl _) (Nat.le_refl _) (show 0 ≤ 3 by decide)) (DVs.nil (n := 3)))) (Same.keep s_G98)).tup (ne_of_none hpl_G97 n98).symm (ne_of_none hpl_G97 n98).symm List.not_mem_nil upd_same
    have e98 : upd G97 a98 (.tup [.ref one, .bl true]) a98 = some (.tup [.ref one, .bl true]) := upd_same
    generalize upd G97 a98 (.tup [.ref one, .bl true]) = G98 at s_G98 f98 e98
    have hpl_G98 := s_G98 _ _ hpl_G97
    refine ⟨(by show 1 ≤ sizeLine; decide), fun a99 n99 => ?_⟩
    have s_G99 : Same G98 (upd G98 a99 (.tup [.ref a98])) := same_new (Same.refl _) n99
    have f99 : DV (2 ^ 140) D D [] (upd G98 a99 (.tup [.ref a98])) (.ref a99) 11 5 := (DVs.mono (DVs.cons (DV.up f98 (Int.le_refl _) (Nat.le_refl _) (show 4 ≤ 4 by decide)) (DVs.nil (n := 4))) (Same.keep s_G99)).tup (ne_of_none hpl_G98 n99).symm (ne_of_none hpl_G98 n99).symm List.not_mem_nil upd_same
    have e99 : upd G98 a99 (.tup [.ref a98]) a99 = some (.tup [.ref a98]) := upd_same
    generalize upd G98 a99 (.tup [.ref a98]) = G99 at s_G99 f99 e99
    have hpl_G99 := s_G99 _ _ hpl_G98
    refine ⟨(by show 3 ≤ sizeLine; decide), fun L6 n100 => ?_⟩
    have s_G100 : Same G99 (upd G99 L6 (.lst [.ref a95, .ref a97, .ref a99])) := same_new (Same.refl _) n100
    have e100 : upd G99 L6 (.lst [.ref a95, .ref a97, .ref a99]) L6 = some (.lst [.ref a95, .ref a97, .ref a99]) := upd_same
    have m6 : ∀ w ∈ ([.ref a95, .ref a97, .ref a99] : List V), DV (2 ^ 140) D D [] (upd G99 L6 (.lst [.ref a95, .ref a97, .ref a99])) w 2000 10 := fun w hw => by
      simp only [List.mem_cons, List.not_mem_nil, or_false] at hw
      rcases hw with rfl | rfl | rfl
      · exact (DV.up (f95.mono (Same.keep (((s_G96.trans s_G97).trans s_G98).trans s_G99))) (Int.le_refl _) (show 12 ≤ 2000 by decide) (show 5 ≤ 10 by decide)).mono (Same.keep s_G100)
      · exact (DV.up (f97.mono (Same.keep (s_G98.trans s_G99))) (Int.le_refl _) (show 11 ≤ 2000 by decide) (show 5 ≤ 10 by decide)).mono (Same.keep s_G100)
      · exact (DV.up f99 (Int.le_refl _) (show 11 ≤ 2000 by decide) (show 5 ≤ 10 by decide)).mono (Same.keep s_G100)
    generalize upd G99 L6 (.lst [.ref a95, .ref a97, .ref a99]) = G100 at s_G100 e100 m6
    have hpl_G100 := s_G100 _ _ hpl_G99
    refine ⟨S5, L6, _, _, rfl, rfl, ((((((s_G94.trans s_G95).trans s_G96).trans s_G97).trans s_G98).trans s_G99).trans s_G100) _ _ e93, e100, Nat.le_of_lt (small1000 (by rw [wl5]; show 32 + 3 ≤ 1000; decide)), fun S6 n101 => ?_⟩
    obtain ⟨ws6, ew6⟩ : ∃ ws6, ws5 ++ ([V.ref a95, V.ref a97, V.ref a99] : List V) = ws6 := ⟨_, rfl⟩
    have wl6 : ws6.length = 35 := by rw [← ew6, List.length_append, wl5]; rfl
    rw [ew6]
    have q6 : ∀ w ∈ ws6, DV (2 ^ 140) D D [] G100 w 2000 10 := fun w hw => by
      rw [← ew6] at hw
      rcases List.mem_append.mp hw with hw | hw
      · exact (q5 w hw).mono (Same.keep ((((((s_G94.trans s_G95).trans s_G96).trans s_G97).trans s_G98).trans s_G99).trans s_G100))
      · exact m6 w hw
    have s_G101 : Same G100 (upd G100 S6 (.lst ws6)) := same_new (Same.refl _) n101
    have e101 : upd G100 S6 (.lst ws6) S6 = some (.lst ws6) := upd_same
    have q6 : ∀ w ∈ ws6, DV (2 ^ 140) D D [] (upd G100 S6 (.lst ws6)) w 2000 10 := fun w hw => (q6 w hw).mono (Same.keep s_G101)
    exact q _ S6 D ws6 (sG0.trans (((((((((((((((((((((((((((((((((((((((((((((((((((((((((((((((((((((((((((((((((((((((((((s_G11.trans s_G12).trans s_G13).trans s_G14).trans s_G15).trans s_G16).trans s_G17).trans s_G18).trans s_G19).trans s_G20).trans s_G21).trans s_G22).trans s_G23).trans s_G24).trans s_G25).trans s_G26).trans s_G27).trans s_G28).trans s_G29).trans s_G30).trans s_G31).trans s_G32).trans s_G33).trans s_G34).trans s_G35).trans s_G36).trans s_G37).trans s_G38).trans s_G39).trans s_G40).trans s_G41).trans s_G42).trans s_G43).trans s_G44).trans s_G45).trans s_G46).trans s_G47).trans s_G48).trans s_G49).trans s_G50).trans s_G51).trans s_G52).trans s_G53).trans s_G54).trans s_G55).trans s_G56).trans s_G57).trans s_G58).trans s_G59).trans s_G60).trans s_G61).trans s_G62).trans s_G63).trans s_G64).trans s_G65).trans s_G66).trans s_G67).trans s_G68).trans s_G69).trans s_G70).trans s_G71).trans s_G72).trans s_G73).trans s_G74).trans s_G75).trans s_G76).trans s_G77).trans s_G78).trans s_G79).trans s_G80).trans s_G81).trans s_G82).trans s_G83).trans s_G84).trans s_G85).trans s_G86).trans s_G87).trans s_G88).trans s_G89).trans s_G90).trans s_G91).trans s_G92).trans s_G93).trans s_G94).trans s_G95).trans s_G96).trans s_G97).trans s_G98).trans s_G99).trans s_G100).trans s_G101))) e101 (by rw [wl6]; decide) q6
theorem ok_law {fE fR fP fS fB fF fN f : Addr} {fdE fdR fdP fdS fdB fdF fdN fd : FuncData} (F : Fun K "law" "law" s_law f fd) (bi : Bi mg)
    (C__law_edges : Cal P w K mg base "_law_edges" P__law_edges 1 spEdges41 fE fdE) (C__law_right : Cal P w K mg base "_law_right" P__law_right 7 (spIsD fun _ => true) fR fdR) (C__law_pot : Cal P w K mg base "_law_pot" P__law_pot 1 (spPotB K) fP fdP) (C__law_set : Cal P w K mg base "_law_set" P__law_set 3 spSetB fS fdS)
    (C_is_basket : Cal P w K mg base "is_basket" P_is_basket 6 (spIsD isBasketD) fB fdB) (C_is_frame : Cal P w K mg base "is_frame" P_is_frame 2 (spIsD isFrameD) fF fdF) (C__law_bent : Cal P w K mg base "_law_bent" P__law_bent 10 (spBentB 8) fN fdN) : FnOk P w K mg base CX0 11 f fd P_law (spLaw K) := by
  refine F.ok sc_law (fun vs H Q E h => ?_) (fun cdv A outer s H vs Q E hr h => ?_)
  · obtain ⟨a, ns, rfl, _⟩ := h
    rfl
  · obtain ⟨a, ns, rfl, hS, hn, q⟩ := h
    have hu64 := hr.units
    refine ⟨_, (pss_cons (ps_if (pt_not (pt_val (pe_callB (cr_all rfl) (by rfl) bi.m_all (by decide +kernel) (pa_cons (pe_lc (own := [("_law_thing", 1)]) (g := (gName 1)) (tt := tYes) rfl sc_law.nd (pi_list (pe_call0 (C__law_edges.G.mono (by decide)) hr (by rfl) C__law_edges.g C__law_edges.kp C__law_edges.b .nil pass0)) (blkOk_by (N := N_law) (sc := defScope s_law) (by decide +kernel)) (fun _ _ _ _ _ => (pg_name (i := 1) sc_law.nd rfl (.inl rfl) (.inr rfl))) (fun _ _ _ _ _ => pts_nil) (fun _ _ _ _ _ => (pe_call (C__law_right.G.mono (by decide)) hr (by rfl) C__law_right.g C__law_right.kp C__law_right.b .nil pass0 (pa_cons (pv 1) pa_nil)))) pa_nil))))
      (pss_one (ps_ret pe_bl))
      pss_nil)
    (pss_cons (ps_for PassesOwn.never rfl (pi_range1 rfl bi.m_range (pa_cons (pe_callB (call_max2 rfl) (by rfl) bi.m_max (by decide +kernel) (pa_cons pe_int (pa_cons (pe_callB (call_min2 rfl) (by rfl) bi.m_min (by decide +kernel) (pa_cons pe_int (pa_cons (pe_callB call_len_seq (by rfl) bi.m_len (by decide +kernel) (pa_cons (pv 0) pa_nil)) pa_nil))) pa_nil))) pa_nil)) (pg_name (i := 2) sc_law.nd rfl (.inl rfl))
      (pss_cons (ps_set (i := 3) sc_law.nd rfl (.inl rfl) (pe_call (C__law_pot.G.mono (by decide)) hr (by rfl) C__law_pot.g C__law_pot.kp C__law_pot.b .nil pass0 (pa_cons (pv 0) (pa_cons (pv 2) pa_nil))))
        (pss_cons (ps_asg (pe_call (C__law_set.G.mono (by decide)) hr (by rfl) C__law_set.g C__law_set.kp C__law_set.b .nil pass0 (pa_cons (pv 3) pa_nil)) (pg_tup rfl (pgs_cons (pg_name (i := 4) sc_law.nd rfl (.inl rfl)) (pgs_cons (pg_name (i := 5) sc_law.nd rfl (.inl rfl)) pgs_nil))))
        (pss_cons (ps_if (pw_or (pt_cmpR op_notBl (pe_call (C_is_basket.G.mono (by decide)) hr (by rfl) C_is_basket.g C_is_basket.kp C_is_basket.b .nil pass0 (pa_cons (pv 4) pa_nil)) pe_bl (nomark _)) (pw_or1 (pt_cmpR op_notBl (pe_call (C_is_frame.G.mono (by decide)) hr (by rfl) C_is_frame.g C_is_frame.kp C_is_frame.b .nil pass0 (pa_cons (pv 5) pa_nil)) pe_bl (nomark _)))).pt
          (pss_one (ps_ret pe_bl))
          pss_nil)
        (pss_one (ps_for PassesOwn.never rfl (pi_range1 rfl bi.m_range (pa_cons pe_int pa_nil)) (pg_name (i := 6) sc_law.nd rfl (.inl rfl))
          (pss_one (ps_for PassesOwn.never rfl (pi_tup (pe_tup (pa_cons (pe_call (C__law_bent.G.mono (by decide)) hr (by rfl) C__law_bent.g C__law_bent.kp C__law_bent.b .nil pass0 (pa_cons (pv 3) (pa_cons (pv 4) pa_nil))) (pa_cons (pe_call (C__law_bent.G.mono (by decide)) hr (by rfl) C__law_bent.g C__law_bent.kp C__law_bent.b .nil pass0 (pa_cons (pv 3) (pa_cons (pv 5) pa_nil))) pa_nil)))) (pg_name (i := 1) sc_law.nd rfl (.inl rfl))
              (pss_one (ps_if (pw_or (pt_not (pt_val (pe_call (C__law_right.G.mono (by decide)) hr (by rfl) C__law_right.g C__law_right.kp C__law_right.b .nil pass0 (pa_cons (pv 1) pa_nil)))) (pw_or1 (pt_not (pt_val (pe_call (C__law_right.G.mono (by decide)) hr (by rfl) C__law_right.g C__law_right.kp C__law_right.b .nil pass0 (pa_cons (pe_call (C__law_bent.G.mono (by decide)) hr (by rfl) C__law_bent.g C__law_bent.kp C__law_bent.b .nil pass0 (pa_cons (pv 3) (pa_cons (pv 1) pa_nil))) pa_nil)))))).pt
                  (pss_one (ps_ret pe_bl))
                  pss_nil))))))))))
    (pss_one (ps_ret pe_bl)))), ?_⟩
    refine ⟨rfl, fun H1 o pp ws s1 eo lw hw => ?_⟩
    refine ⟨o, rfl, ⟨_, SqL.of eo⟩, fun D nD => ?_⟩
    refine lc_list (xs := ws) (fun i H' => Same H1 H' ∧ H' D = some (.lst ((List.replicate i true).map V.bl))) ⟨same_new (Same.refl _) nD, upd_same⟩ (fun i H' hi hm => SqL.of (hm.1 _ _ eo)) (fun i z H' hx hm => ?_) (fun H' hm => ?_)
    · obtain ⟨sm, eD⟩ := hm
      have hi : i < ws.length := (List.getElem?_eq_some_iff.mp hx).1
      obtain ⟨d, dd, _⟩ := hw z (List.mem_of_getElem? hx)
      refine ⟨rfl, yesIte ?_⟩
      refine ⟨_, rfl, 2 ^ 140, pp, pp, [], z, d, rfl, dd.mono (Same.keep sm), by decide, fun H2 s2 => ?_⟩
      refine ⟨_, s2 _ _ eD, ?_, same_mine (sm.trans s2) nD, ?_⟩
      · rw [List.length_map, List.length_replicate]
        exact small1000 (by omega)
      · rw [upd_same, show List.replicate (i + 1) true = List.replicate i true ++ [true] by rw [List.replicate_succ'], List.map_append]
        rfl
    obtain ⟨sm, eD⟩ := hm
    refine ⟨D, _, rfl, SqL.of eD, _, rfl, ?_⟩
    have ea : (List.replicate ws.length true).all id = true := by simp
    rw [ea]
    refine iteNT ?_
    have hS1 : SqL K H' a (ns.map V.int) := (s1.trans sm).seq hS
    clear hw eD ea nD s1 sm eo
    refine ⟨_, rfl, a, _, rfl, .inl hS1, _, _, rfl, _, _, rfl, _, rfl, ?_, ?_, ?_⟩
    · rw [List.length_map]
      split <;> split <;> omega
    · rw [List.length_map]
      split <;> split <;> omega
    generalize hN : Int.toNat _ = N
    have hN8 : N ≤ 8 := by
      rw [← hN, List.length_map]
      split <;> split <;> omega
    clear hN
    refine for_range (n := N) (fun i σ' H2 => Same H' H2 ∧ ∃ (x1 x2 x3 x4 x5 x6 : Option V), σ' = [some (.ref a), x1, x2, x3, x4, x5, x6]) ⟨Same.refl _, _, _, _, _, _, _, rfl⟩ (fun i σ' H2 hi hm => ?_) (fun σ' H2 hm => ?_)
    rotate_left
    · exact q _
    obtain ⟨sL, x1, x2, x3, x4, x5, x6, rfl⟩ := hm
    refine ⟨_, rfl, _, rfl, a, ns, 0 + i, rfl, sL.seq hS1, hn, by omega, by omega, fun H3 p s3 np hp => ?_⟩
    refine ⟨_, rfl, p, rfl, hp, fun H4 r b fr ks lo hi hd hp4 k4 er hb n1 n4 gk hfr l1 l2 l3 h1 h3 => ?_⟩
    refine ⟨r, _, rfl, SqT.of er, rfl, _, _, rfl, _, _, rfl, rfl, ?_⟩
    have nt : ∀ {G : Hp}, PotB G p → ∀ c xs, G c = some (.tup xs) → c ≠ p ∧ c ≠ p := fun hG c xs e => ⟨hG.notP e, hG.notP e⟩
    obtain ⟨bd, bb, bn⟩ := basket_dd (nt hp4) hb gk n4
    obtain ⟨fd', ft⟩ := frame_dd (nt hp4) hfr l1 l2 l3 h1 h3
    have bt := basket_told n1 n4 gk
    refine ⟨_, rfl, 2 ^ 140, p, p, [], .ref b, _, rfl, bd, by decide, fun H5 s5 => ?_⟩
    refine ⟨_, _, rfl, rfl, _, rfl, ?_⟩
    rw [bt]
    refine iteF ?_
    have hp5 := hp4.same s5
    have fd5 := fd'.mono (Same.keep s5)
    refine ⟨_, rfl, 2 ^ 140, p, p, [], .ref fr, _, rfl, fd5, by decide, fun H6 s6 => ?_⟩
    refine ⟨_, _, rfl, rfl, _, rfl, ?_⟩
    rw [ft]
    refine iteF ?_
    have hp6 := hp5.same s6
    have s46 := s5.trans s6
    have sH4 : Same H' H4 := sL.trans (k4.from s3 np)
    have vb : DV (2 ^ 140) p p [] H6 (.ref b) 200 5 := ⟨_, bd.mono (Same.keep s46), bb, bn⟩
    have vf : DV (2 ^ 140) p p [] H6 (.ref fr) 200 5 := ⟨_, fd'.mono (Same.keep s46), by show 3 ≤ 200; decide, by show 1 ≤ 5; decide⟩
    have k36 : Keep p p H3 H6 := k4.sameD s46
    clear s46 bd bb bn fd' ft bt fd5 hb hfr er n1 n4 gk
    refine ⟨8, rfl, by decide, by decide, for_range (n := 8) (fun j σ' H7 => Keep p p H3 H7 ∧ PotB H7 p ∧ DV (2 ^ 140) p p [] H7 (.ref b) 200 5 ∧ DV (2 ^ 140) p p [] H7 (.ref fr) 200 5 ∧ ∃ (x1 x6 : Option V), σ' = [some (.ref a), x1, some (.int (0 + i)), some (.ref p), some (.ref b), some (.ref fr), x6]) ⟨k36, hp6, vb, vf, _, _, rfl⟩ (fun j σ' H7 hj hm => ?_) (fun σ' H7 hm => ?_)⟩
    rotate_left
    · obtain ⟨k7, hp7, _, _, y1, y6, rfl⟩ := hm
      exact ⟨sL.trans (k7.from s3 np), _, _, _, _, _, _, rfl⟩
    obtain ⟨k7, hp7, vb7, vf7, y1, y6, rfl⟩ := hm
    refine ⟨_, rfl, _, rfl, p, 2 ^ 140, .ref b, 200, 5, rfl, hp7, by decide, by decide, vb7, by decide, by decide, fun H8 u hp8 k8 du => ?_⟩
    have vf8 := vf7.mono k8
    have vb8 := vb7.mono k8
    refine ⟨_, rfl, _, rfl, p, 2 ^ 140, .ref fr, 200, 5, rfl, hp8, by decide, by decide, vf8, by decide, by decide, fun H9 v hp9 k9 dv => ?_⟩
    have vf9 := vf8.mono k9
    have vb9 := vb8.mono k9
    have du9 := du.mono k9
    refine ⟨(by show 2 ≤ sizeLine; decide), fun Z nZ => ?_⟩
    have sZ : Same H9 (upd H9 Z (.tup [u, v])) := same_new (Same.refl _) nZ
    have eZ : upd H9 Z (.tup [u, v]) Z = some (.tup [u, v]) := upd_same
    generalize upd H9 Z (.tup [u, v]) = H10 at sZ eZ
    have hp10 := hp9.same sZ
    have k10 : Keep p p H3 H10 := ((k7.trans k8).trans k9).sameD sZ
    have vb10 := vb9.mono (Same.keep sZ)
    have vf10 := vf9.mono (Same.keep sZ)
    have du10 := du9.mono (Same.keep sZ)
    have dv10 := dv.mono (Same.keep sZ)
    clear vb7 vf7 vb8 vf8 vb9 vf9 du du9 dv hp7 hp8 hp9 k7 k8 k9 vb vf
    refine ⟨Z, rfl, ⟨_, SqT.of eZ⟩, for_tup (xs := [u, v]) (fun l σ' H11 => Keep p p H3 H11 ∧ PotB H11 p ∧ DV (2 ^ 140) p p [] H11 (.ref b) 200 5 ∧ DV (2 ^ 140) p p [] H11 (.ref fr) 200 5 ∧ H11 Z = some (.tup [u, v]) ∧ (∀ w ∈ [u, v], DV (2 ^ 140 + 1) p p [] H11 w 1000 6) ∧ ∃ (x1 : Option V), σ' = [some (.ref a), x1, some (.int (0 + i)), some (.ref p), some (.ref b), some (.ref fr), some (.int (0 + j))]) ⟨k10, hp10, vb10, vf10, eZ, fun w hw => ?_, _, rfl⟩ (fun l σ' H11 hl hm => ?_) (fun l x σ' H11 hx hm => ?_) (fun σ' H11 hm => ?_)⟩
    · rcases List.mem_cons.mp hw with rfl | hw
      · exact du10
      · rw [List.mem_singleton.mp hw]
        exact dv10
    · obtain ⟨_, _, _, _, eZ', _⟩ := hm
      exact SqT.of eZ'
    · obtain ⟨k11, hp11, vb11, vf11, eZ', hw, y1, rfl⟩ := hm
      have dx := hw x (List.mem_of_getElem? hx)
      obtain ⟨d, dd, d1, d2⟩ := dx
      refine ⟨_, rfl, 2 ^ 140 + 1, p, p, [], x, d, rfl, dd, by decide, fun H12 s12 => ?_⟩
      refine ⟨true, rfl, iteNT ?_⟩
      have hp12 := hp11.same s12
      have dx12 : DV (2 ^ 140 + 1) p p [] H12 x 1000 6 := ⟨d, dd.mono (Same.keep s12), d1, d2⟩
      refine ⟨_, rfl, _, rfl, p, 2 ^ 140 + 1, x, 1000, 6, rfl, hp12, by decide, by decide, dx12, by decide, by decide, fun H13 y hp13 k13 dy => ?_⟩
      obtain ⟨d', dd', d1', d2'⟩ := dy
      refine ⟨2 ^ 140 + 1 + 1, p, p, [], y, d', rfl, dd', by decide, fun H14 s14 => ?_⟩
      refine ⟨true, rfl, iteNT ?_⟩
      have kA : Keep p p H11 H14 := ((Same.keep s12).trans k13).sameD s14
      have nZp : Z ≠ p := hp11.notP eZ'
      exact ⟨k11.trans kA, hp13.same s14, vb11.mono kA, vf11.mono kA, kA _ _ nZp nZp eZ', fun w h => (hw w h).mono kA, _, rfl⟩
    · obtain ⟨k11, hp11, vb11, vf11, _, _, y1, rfl⟩ := hm
      exact ⟨k11, hp11, vb11, vf11, _, _, rfl⟩
end
/-! ### the end of a law whose def is such a one -/
theorem lawG {P : Program} {w : World} {K : PySem.W.Frag} {mg mb : Str → Option Value} {k : Nat} {fa a : Addr} {fd : FuncData} {x : Str} {sp : Sp} {t : Shared} {ws : List Value} {ns : List Int} (kin : K.In t.heap) (gl : t.heap.Ns mainGlobals mg) (bl : t.heap.Ns builtinsNs mb)
    (bb : ∀ y : Str, y ≠ "__name__" → mb y = bootBuiltins y) (nol : t.heap.NoLimit) (gn : t.gens = #[]) (ea : t.heap.get? a = some { cls := .type "list", data := .seq ws.toArray }) (ia : IntsAre ws ns) (sz : ns.length ≤ sizeLine) (hr : Room k callerA)
    (F : ∀ bs : Heap, K.In bs → bs.Ns mainGlobals mg → FnG P w K mg bs k fa fd [x] sp) (bd : ∀ (s : Shared) (u : Value), BindsTo s fd ⟨[u], []⟩ [(x, u)]) (hs : ∀ H : Hp, SqL K H a (ns.map V.int) → sp [.ref a] H (fun v _ => v = .bl true) fun _ _ _ => False) :
    codeAny (model P w) callerA (.call (.ref fa) ⟨[.ref a], []⟩) (fun r s' => r = .ok (.ret (.bool true)) ∧ OldK t.heap s'.heap ∧ s'.os = t.os ∧ AllBare s'.gens) t := by
  have va := vals_ints ia
  have key : ∀ H : Hp, Only H → SqL K H a (ns.map V.int) → HOk P w H t.heap → (∀ b, H b ≠ none → b = a) → (H a ≠ none → K.lookup a = none) → codeAny (model P w) callerA (.call (.ref fa) ⟨[.ref a], []⟩)
      (fun r s' => r = .ok (.ret (.bool true)) ∧ OldK t.heap s'.heap ∧ s'.os = t.os ∧ AllBare s'.gens) t := fun H on sq hok only notK => by
    have free : ∀ {b : Addr} {o : Obj} {es : Array DictEntry} {n : Nat}, t.heap.get? b = some o → o.data = .dict es n → H b = none := fun {b o es n} e d => by
      rcases on b with z | ⟨ob, xs, z⟩
      · exact z
      · have e' : b = a := only b (by rw [z]; exact Option.some_ne_none _)
        rw [e', ea] at e
        cases e
        cases (show Data.seq ws.toArray _ = Data.dict es n from d)
    have nsB : ∀ {b : Addr} {m : Str → Option Value}, t.heap.Ns b m → (hidT t.heap H).Ns b m := fun ⟨o, es, n, e, d, r⟩ => ⟨o, es, n, hidT_get e (free e d), d, r⟩
    have kB : K.In (hidT t.heap H) := fun b o e => hidT_get (kin b o e) (by
      rcases on b with z | ⟨ob, xs, z⟩
      · exact z
      · have e' : b = a := only b (by rw [z]; exact Option.some_ne_none _)
        rw [e', notK (by rw [← e', z]; exact Option.some_ne_none _)] at e
        cases e)
    have md : Mod K mg (hidT t.heap H) := ⟨kB, nsB gl, ⟨mb, nsB bl, bb⟩, nol.elim fun mc z => ⟨mc, nsB z.1, z.2⟩⟩
    have e0 : Env0 P w K mg (hidT t.heap H) callerA [] t H := ⟨rfl, md, fun _ _ e => of_hidT e, Nat.le_of_eq (hidT_size _ _), trivial, (fun b hb => by cases hb), hok, .of_eq gn⟩
    refine codeAny_mono ((F _ kB (nsB gl)).goes callerA [] t H _ [.ref a] [.ref a] _ _ hr rfl e0 (bd t (.ref a)) (.cons rfl .nil) (hs H sq)) fun r s' h => ?_
    match r, h with
    | .error _, h => exact False.elim h
    | .ok .next, h => exact False.elim h
    | .ok .brk, h => exact False.elim h
    | .ok .cont, h => exact False.elim h
    | .ok (.ret u), h =>
      obtain ⟨v, H', eos, eb, un, ok', rv, q⟩ := h
      cases (show v = .bl true from q)
      cases (show u = Value.bool true from rv)
      refine ⟨rfl, OldK.of_keep fun b o e => ?_, eos, eb⟩
      rcases on b with z | ⟨ob, xs, z⟩
      · exact un.keep b o e z (fun y => by cases y) (fun y => by cases y)
      · obtain ⟨e1, _⟩ := hok b _ z
        obtain ⟨e2, _⟩ := ok' b _ (un.frzs b ob _ z)
        rw [e] at e1
        cases e1
        exact e2
  cases hk : K.lookup a with
  | some o =>
    have e := kin a o hk
    rw [ea] at e
    cases e
    exact key (fun _ => none) (fun _ => .inl rfl) (.inr ⟨_, ws.toArray, _, hk, rfl, rfl, rfl, (by rw [List.size_toArray, ia.length]; exact sz), by simpa using va⟩) (fun b u z => nomatch (show (none : Option HO) = some u from z)) (fun b z => absurd rfl z) (fun z => absurd rfl z)
  | none =>
    have at_ : ∀ b, (if b = a then some (HO.frz { cls := .type "list", data := .seq ws.toArray } (.lst (ns.map V.int))) else none) ≠ none → b = a := fun b z => by
      by_cases h : b = a
      · exact h
      · exact absurd (if_neg h) z
    refine key (fun b => if b = a then some (.frz { cls := .type "list", data := .seq ws.toArray } (.lst (ns.map V.int))) else none) (fun b => ?_) (.inl (.inr ⟨_, if_pos rfl⟩)) (fun b u z => ?_) at_ (fun _ => hk)
    · by_cases h : b = a
      · exact .inr ⟨_, _, if_pos h⟩
      · exact .inl (if_neg h)
    · have h : b = a := at_ b (fun y => by rw [show (if b = a then some (HO.frz { cls := .type "list", data := .seq ws.toArray } (.lst (ns.map V.int))) else none) = some u from z] at y; cases y)
      subst h
      have z' := (if_pos rfl).symm.trans z
      cases z'
      exact ⟨ea, by rw [List.length_map]; exact sz, ws, _, va, ea⟩
theorem walkG {l : PySem.W.OpenLaw} {n k : Nat} {q : Program} {loose : List Str} {XP : (Str → Option Value) → Heap → Prop} {YP : World → Heap → Prop} {d : DefRec} {K : Params → PySem.W.Frag} {sp : World → Sp} {x : Str} (hn : l.most = some n) (h2 : n ≤ sizeLine) (hd : d.params.defaults = []) (hr : Room k callerA)
    (hY : ∀ (w : World) (h : Heap), YP w h → (K w.params).In h) (F : ∀ (w : World) (mg : Str → Option Value) (fa : Addr) (h : Heap), (K w.params).In h → h.Ns mainGlobals mg → mg d.name = some (.ref fa) → ∃ fd : FuncData, (∀ (s : Shared) (u : Value), BindsTo s fd ⟨[u], []⟩ [(x, u)]) ∧
      ∀ bs : Heap, (K w.params).In bs → bs.Ns mainGlobals mg → FnG l.prog w (K w.params) mg bs k fa fd [x] (sp w)) (hs : ∀ (w : World) (H : Hp) (a : Addr) (ns : List Int), ns.length ≤ n → SqL (K w.params) H a (ns.map V.int) → sp w [.ref a] H (fun v _ => v = .bl true) fun _ _ _ => False) :
    PySem.W.WalkO q loose XP YP l.row.toRowW d [] (fun f vs => PySem.call f vs) := Att.attach_call hn hd fun w s t mg mb fa o pm cd dc a ws ns G Y ho hdt hcd hmg eo ia hl hg => by
  obtain ⟨fd, bd, hF⟩ := F w mg fa _ (hY w _ Y) G.T.g hmg
  exact lawG (hY w _ Y) G.T.g G.T.b G.T.builtins G.T.nolimit hg eo ia (Nat.le_trans hl h2) hr hF bd fun H sq => hs w H a ns hl sq
theorem all_mk {l : PySem.W.OpenLaw} {w : World} {K : PySem.W.Frag} {h : Heap} {mg : Str → Option Value} {fa f1 f2 f3 f4 f5 f6 f7 f8 f9 f10 f11 f12 f13 f14 f15 f16 f17 f18 f19 f20 f21 f22 : Addr} {tk_MOST_STEPS tk_MOST_KINDS tk_MOST_PLACES tk_MOST_OF_A_KIND tk_MOST_IN_HAND : Tok} (X : K.In h) (G : h.Ns mainGlobals mg) (hfa : mg "law" = some (.ref fa))
    {od1 an1 od2 an2 od3 an3 od4 an4 od5 an5 od6 an6 od7 an7 od8 an8 od9 an9 od10 an10 od11 an11 od12 an12 od13 an13 od14 an14 od15 an15 od16 an16 od17 an17 od18 an18 od19 an19 od20 an20 od21 an21 od22 an22 : Option Addr} {sl1 sl2 sl3 sl4 sl5 sl6 sl7 sl8 sl9 sl10 sl11 sl12 sl13 sl14 sl15 sl16 sl17 sl18 sl19 sl20 sl21 sl22 : Array (Option Value)} {oc1 kV1 dc1 pm1 cd1 ct1 oc2 kV2 dc2 pm2 cd2 ct2 oc3 kV3 dc3 pm3 cd3 ct3 oc4 kV4 dc4 pm4 cd4 ct4 oc5 kV5 dc5 pm5 cd5 ct5 oc6 kV6 dc6 pm6 cd6 ct6 oc7 kV7 dc7 pm7 cd7 ct7 oc8 kV8 dc8 pm8 cd8 ct8 oc9 kV9 dc9 pm9 cd9 ct9 oc10 kV10 dc10 pm10 cd10 ct10 oc11 kV11 dc11 pm11 cd11 ct11 oc12 kV12 dc12 pm12 cd12 ct12 oc13 kV13 dc13 pm13 cd13 ct13 oc14 kV14 dc14 pm14 cd14 ct14 oc15 kV15 dc15 pm15 cd15 ct15 oc16 kV16 dc16 pm16 cd16 ct16 oc17 kV17 dc17 pm17 cd17 ct17 oc18 kV18 dc18 pm18 cd18 ct18 oc19 kV19 dc19 pm19 cd19 ct19 oc20 kV20 dc20 pm20 cd20 ct20 oc21 kV21 dc21 pm21 cd21 ct21 oc22 kV22 dc22 pm22 cd22 ct22 : Value}
    (a1 : PySem.W.nsIn K mainGlobals "is_whole" = some (some (.ref f1))) (l1 : K.lookup f1 = some ⟨oc1, od1, .func (PySem.W.fnOf "is_whole" "is_whole" (defArgs s_is_whole) (defBody s_is_whole) (defScope s_is_whole) .none kV1 dc1 pm1 an1 cd1 ct1), sl1⟩) (c1 : PySem.W.codeIn K cd1 "is_whole" = true) (k1 : PySem.W.keepIn K (.ref f1) = true)
    (a2 : PySem.W.nsIn K mainGlobals "is_tuple" = some (some (.ref f2))) (l2 : K.lookup f2 = some ⟨oc2, od2, .func (PySem.W.fnOf "is_tuple" "is_tuple" (defArgs s_is_tuple) (defBody s_is_tuple) (defScope s_is_tuple) .none kV2 dc2 pm2 an2 cd2 ct2), sl2⟩) (c2 : PySem.W.codeIn K cd2 "is_tuple" = true) (k2 : PySem.W.keepIn K (.ref f2) = true)
    (a3 : PySem.W.nsIn K mainGlobals "is_step" = some (some (.ref f3))) (l3 : K.lookup f3 = some ⟨oc3, od3, .func (PySem.W.fnOf "is_step" "is_step" (defArgs s_is_step) (defBody s_is_step) (defScope s_is_step) .none kV3 dc3 pm3 an3 cd3 ct3), sl3⟩) (c3 : PySem.W.codeIn K cd3 "is_step" = true) (k3 : PySem.W.keepIn K (.ref f3) = true)
    (a4 : PySem.W.nsIn K mainGlobals "are_steps" = some (some (.ref f4))) (l4 : K.lookup f4 = some ⟨oc4, od4, .func (PySem.W.fnOf "are_steps" "are_steps" (defArgs s_are_steps) (defBody s_are_steps) (defScope s_are_steps) .none kV4 dc4 pm4 an4 cd4 ct4), sl4⟩) (c4 : PySem.W.codeIn K cd4 "are_steps" = true) (k4 : PySem.W.keepIn K (.ref f4) = true)
    (a5 : PySem.W.nsIn K mainGlobals "is_wisp" = some (some (.ref f5))) (l5 : K.lookup f5 = some ⟨oc5, od5, .func (PySem.W.fnOf "is_wisp" "is_wisp" (defArgs s_is_wisp) (defBody s_is_wisp) (defScope s_is_wisp) .none kV5 dc5 pm5 an5 cd5 ct5), sl5⟩) (c5 : PySem.W.codeIn K cd5 "is_wisp" = true) (k5 : PySem.W.keepIn K (.ref f5) = true)
    (a6 : PySem.W.nsIn K mainGlobals "length_of" = some (some (.ref f6))) (l6 : K.lookup f6 = some ⟨oc6, od6, .func (PySem.W.fnOf "length_of" "length_of" (defArgs s_length_of) (defBody s_length_of) (defScope s_length_of) .none kV6 dc6 pm6 an6 cd6 ct6), sl6⟩) (c6 : PySem.W.codeIn K cd6 "length_of" = true) (k6 : PySem.W.keepIn K (.ref f6) = true)
    (a7 : PySem.W.nsIn K mainGlobals "is_many" = some (some (.ref f7))) (l7 : K.lookup f7 = some ⟨oc7, od7, .func (PySem.W.fnOf "is_many" "is_many" (defArgs s_is_many) (defBody s_is_many) (defScope s_is_many) .none kV7 dc7 pm7 an7 cd7 ct7), sl7⟩) (c7 : PySem.W.codeIn K cd7 "is_many" = true) (k7 : PySem.W.keepIn K (.ref f7) = true)
    (a8 : PySem.W.nsIn K mainGlobals "is_kind" = some (some (.ref f8))) (l8 : K.lookup f8 = some ⟨oc8, od8, .func (PySem.W.fnOf "is_kind" "is_kind" (defArgs s_is_kind) (defBody s_is_kind) (defScope s_is_kind) .none kV8 dc8 pm8 an8 cd8 ct8), sl8⟩) (c8 : PySem.W.codeIn K cd8 "is_kind" = true) (k8 : PySem.W.keepIn K (.ref f8) = true)
    (a9 : PySem.W.nsIn K mainGlobals "is_basket" = some (some (.ref f9))) (l9 : K.lookup f9 = some ⟨oc9, od9, .func (PySem.W.fnOf "is_basket" "is_basket" (defArgs s_is_basket) (defBody s_is_basket) (defScope s_is_basket) .none kV9 dc9 pm9 an9 cd9 ct9), sl9⟩) (c9 : PySem.W.codeIn K cd9 "is_basket" = true) (k9 : PySem.W.keepIn K (.ref f9) = true)
    (a10 : PySem.W.nsIn K mainGlobals "is_frame" = some (some (.ref f10))) (l10 : K.lookup f10 = some ⟨oc10, od10, .func (PySem.W.fnOf "is_frame" "is_frame" (defArgs s_is_frame) (defBody s_is_frame) (defScope s_is_frame) .none kV10 dc10 pm10 an10 cd10 ct10), sl10⟩) (c10 : PySem.W.codeIn K cd10 "is_frame" = true) (k10 : PySem.W.keepIn K (.ref f10) = true)
    (a11 : PySem.W.nsIn K mainGlobals "_law_pot" = some (some (.ref f11))) (l11 : K.lookup f11 = some ⟨oc11, od11, .func (PySem.W.fnOf "_law_pot" "_law_pot" (defArgs s__law_pot) (defBody s__law_pot) (defScope s__law_pot) .none kV11 dc11 pm11 an11 cd11 ct11), sl11⟩) (c11 : PySem.W.codeIn K cd11 "_law_pot" = true) (k11 : PySem.W.keepIn K (.ref f11) = true)
    (a12 : PySem.W.nsIn K mainGlobals "_law_take" = some (some (.ref f12))) (l12 : K.lookup f12 = some ⟨oc12, od12, .func (PySem.W.fnOf "_law_take" "_law_take" (defArgs s__law_take) (defBody s__law_take) (defScope s__law_take) .none kV12 dc12 pm12 an12 cd12 ct12), sl12⟩) (c12 : PySem.W.codeIn K cd12 "_law_take" = true) (k12 : PySem.W.keepIn K (.ref f12) = true)
    (a13 : PySem.W.nsIn K mainGlobals "_law_wisp" = some (some (.ref f13))) (l13 : K.lookup f13 = some ⟨oc13, od13, .func (PySem.W.fnOf "_law_wisp" "_law_wisp" (defArgs s__law_wisp) (defBody s__law_wisp) (defScope s__law_wisp) .none kV13 dc13 pm13 an13 cd13 ct13), sl13⟩) (c13 : PySem.W.codeIn K cd13 "_law_wisp" = true) (k13 : PySem.W.keepIn K (.ref f13) = true)
    (a14 : PySem.W.nsIn K mainGlobals "_law_set" = some (some (.ref f14))) (l14 : K.lookup f14 = some ⟨oc14, od14, .func (PySem.W.fnOf "_law_set" "_law_set" (defArgs s__law_set) (defBody s__law_set) (defScope s__law_set) .none kV14 dc14 pm14 an14 cd14 ct14), sl14⟩) (c14 : PySem.W.codeIn K cd14 "_law_set" = true) (k14 : PySem.W.keepIn K (.ref f14) = true)
    (a15 : PySem.W.nsIn K mainGlobals "_law_bent" = some (some (.ref f15))) (l15 : K.lookup f15 = some ⟨oc15, od15, .func (PySem.W.fnOf "_law_bent" "_law_bent" (defArgs s__law_bent) (defBody s__law_bent) (defScope s__law_bent) .none kV15 dc15 pm15 an15 cd15 ct15), sl15⟩) (c15 : PySem.W.codeIn K cd15 "_law_bent" = true) (k15 : PySem.W.keepIn K (.ref f15) = true)
    (a16 : PySem.W.nsIn K mainGlobals "_law_whole" = some (some (.ref f16))) (l16 : K.lookup f16 = some ⟨oc16, od16, .func (PySem.W.fnOf "_law_whole" "_law_whole" (defArgs s__law_whole) (defBody s__law_whole) (defScope s__law_whole) .none kV16 dc16 pm16 an16 cd16 ct16), sl16⟩) (c16 : PySem.W.codeIn K cd16 "_law_whole" = true) (k16 : PySem.W.keepIn K (.ref f16) = true)
    (a17 : PySem.W.nsIn K mainGlobals "_law_is_short" = some (some (.ref f17))) (l17 : K.lookup f17 = some ⟨oc17, od17, .func (PySem.W.fnOf "_law_is_short" "_law_is_short" (defArgs s__law_is_short) (defBody s__law_is_short) (defScope s__law_is_short) .none kV17 dc17 pm17 an17 cd17 ct17), sl17⟩) (c17 : PySem.W.codeIn K cd17 "_law_is_short" = true) (k17 : PySem.W.keepIn K (.ref f17) = true)
    (a18 : PySem.W.nsIn K mainGlobals "_law_is_basket" = some (some (.ref f18))) (l18 : K.lookup f18 = some ⟨oc18, od18, .func (PySem.W.fnOf "_law_is_basket" "_law_is_basket" (defArgs s__law_is_basket) (defBody s__law_is_basket) (defScope s__law_is_basket) .none kV18 dc18 pm18 an18 cd18 ct18), sl18⟩) (c18 : PySem.W.codeIn K cd18 "_law_is_basket" = true) (k18 : PySem.W.keepIn K (.ref f18) = true)
    (a19 : PySem.W.nsIn K mainGlobals "_law_is_frame" = some (some (.ref f19))) (l19 : K.lookup f19 = some ⟨oc19, od19, .func (PySem.W.fnOf "_law_is_frame" "_law_is_frame" (defArgs s__law_is_frame) (defBody s__law_is_frame) (defScope s__law_is_frame) .none kV19 dc19 pm19 an19 cd19 ct19), sl19⟩) (c19 : PySem.W.codeIn K cd19 "_law_is_frame" = true) (k19 : PySem.W.keepIn K (.ref f19) = true)
    (a20 : PySem.W.nsIn K mainGlobals "_law_right" = some (some (.ref f20))) (l20 : K.lookup f20 = some ⟨oc20, od20, .func (PySem.W.fnOf "_law_right" "_law_right" (defArgs s__law_right) (defBody s__law_right) (defScope s__law_right) .none kV20 dc20 pm20 an20 cd20 ct20), sl20⟩) (c20 : PySem.W.codeIn K cd20 "_law_right" = true) (k20 : PySem.W.keepIn K (.ref f20) = true)
    (a21 : PySem.W.nsIn K mainGlobals "_law_edges" = some (some (.ref f21))) (l21 : K.lookup f21 = some ⟨oc21, od21, .func (PySem.W.fnOf "_law_edges" "_law_edges" (defArgs s__law_edges) (defBody s__law_edges) (defScope s__law_edges) .none kV21 dc21 pm21 an21 cd21 ct21), sl21⟩) (c21 : PySem.W.codeIn K cd21 "_law_edges" = true) (k21 : PySem.W.keepIn K (.ref f21) = true)
    (a22 : PySem.W.nsIn K mainGlobals "law" = some (some (.ref f22))) (l22 : K.lookup f22 = some ⟨oc22, od22, .func (PySem.W.fnOf "law" "law" (defArgs s_law) (defBody s_law) (defScope s_law) .none kV22 dc22 pm22 an22 cd22 ct22), sl22⟩) (c22 : PySem.W.codeIn K cd22 "law" = true) (k22 : PySem.W.keepIn K (.ref f22) = true)
    (z1 : PySem.W.nsIn K mainGlobals "len" = some none)
    (z2 : PySem.W.nsIn K mainGlobals "sum" = some none)
    (z3 : PySem.W.nsIn K mainGlobals "abs" = some none)
    (z4 : PySem.W.nsIn K mainGlobals "isinstance" = some none)
    (z5 : PySem.W.nsIn K mainGlobals "max" = some none)
    (z6 : PySem.W.nsIn K mainGlobals "min" = some none)
    (z7 : PySem.W.nsIn K mainGlobals "tuple" = some none)
    (z8 : PySem.W.nsIn K mainGlobals "list" = some none)
    (z9 : PySem.W.nsIn K mainGlobals "int" = some none)
    (z10 : PySem.W.nsIn K mainGlobals "bool" = some none)
    (z11 : PySem.W.nsIn K mainGlobals "range" = some none)
    (z12 : PySem.W.nsIn K mainGlobals "enumerate" = some none)
    (z13 : PySem.W.nsIn K mainGlobals "zip" = some none)
    (z14 : PySem.W.nsIn K mainGlobals "repr" = some none)
    (z15 : PySem.W.nsIn K mainGlobals "str" = some none)
    (z16 : PySem.W.nsIn K mainGlobals "sorted" = some none)
    (z17 : PySem.W.nsIn K mainGlobals "set" = some none)
    (z18 : PySem.W.nsIn K mainGlobals "all" = some none)
    (z19 : PySem.W.nsIn K mainGlobals "any" = some none)
    (z20 : PySem.W.nsIn K mainGlobals "dict" = some none)
    (q_MOST_STEPS : PySem.W.nsIn K mainGlobals "MOST_STEPS" = some (some (.int 8 tk_MOST_STEPS)))
    (q_MOST_KINDS : PySem.W.nsIn K mainGlobals "MOST_KINDS" = some (some (.int 4 tk_MOST_KINDS)))
    (q_MOST_PLACES : PySem.W.nsIn K mainGlobals "MOST_PLACES" = some (some (.int 8 tk_MOST_PLACES)))
    (q_MOST_OF_A_KIND : PySem.W.nsIn K mainGlobals "MOST_OF_A_KIND" = some (some (.int 9 tk_MOST_OF_A_KIND)))
    (q_MOST_IN_HAND : PySem.W.nsIn K mainGlobals "MOST_IN_HAND" = some (some (.int 3 tk_MOST_IN_HAND)))
    (zq : PySem.W.nsIn K cStatics "sys.int_max_str_digits" = some none) :
    ∃ fd : FuncData, (∀ (s : Shared) (v : Value), BindsTo s fd ⟨[v], []⟩ [("_law_script", v)]) ∧ ∀ base : Heap, K.In base → base.Ns mainGlobals mg → FnOk l.prog w K mg base CX0 11 fa fd P_law (spLaw K) := by
  have e := hfa.symm.trans (PySem.W.mg_of X G a22)
  cases e
  have nd := zq
  have g_MOST_STEPS := PySem.W.mg_of X G q_MOST_STEPS
  have g_MOST_KINDS := PySem.W.mg_of X G q_MOST_KINDS
  have g_MOST_PLACES := PySem.W.mg_of X G q_MOST_PLACES
  have g_MOST_OF_A_KIND := PySem.W.mg_of X G q_MOST_OF_A_KIND
  have g_MOST_IN_HAND := PySem.W.mg_of X G q_MOST_IN_HAND
  have F1 := fun_mk (st := s_is_whole) l1 c1 k1
  have F2 := fun_mk (st := s_is_tuple) l2 c2 k2
  have F3 := fun_mk (st := s_is_step) l3 c3 k3
  have F4 := fun_mk (st := s_are_steps) l4 c4 k4
  have F5 := fun_mk (st := s_is_wisp) l5 c5 k5
  have F6 := fun_mk (st := s_length_of) l6 c6 k6
  have F7 := fun_mk (st := s_is_many) l7 c7 k7
  have F8 := fun_mk (st := s_is_kind) l8 c8 k8
  have F9 := fun_mk (st := s_is_basket) l9 c9 k9
  have F10 := fun_mk (st := s_is_frame) l10 c10 k10
  have F11 := fun_mk (st := s__law_pot) l11 c11 k11
  have F12 := fun_mk (st := s__law_take) l12 c12 k12
  have F13 := fun_mk (st := s__law_wisp) l13 c13 k13
  have F14 := fun_mk (st := s__law_set) l14 c14 k14
  have F15 := fun_mk (st := s__law_bent) l15 c15 k15
  have F16 := fun_mk (st := s__law_whole) l16 c16 k16
  have F17 := fun_mk (st := s__law_is_short) l17 c17 k17
  have F18 := fun_mk (st := s__law_is_basket) l18 c18 k18
  have F19 := fun_mk (st := s__law_is_frame) l19 c19 k19
  have F20 := fun_mk (st := s__law_right) l20 c20 k20
  have F21 := fun_mk (st := s__law_edges) l21 c21 k21
  have F22 := fun_mk (st := s_law) l22 c22 k22
  have bi : Bi mg := ⟨PySem.W.mg_none_of X G z1, PySem.W.mg_none_of X G z2, PySem.W.mg_none_of X G z3, PySem.W.mg_none_of X G z4, PySem.W.mg_none_of X G z5, PySem.W.mg_none_of X G z6, PySem.W.mg_none_of X G z7, PySem.W.mg_none_of X G z8, PySem.W.mg_none_of X G z9, PySem.W.mg_none_of X G z10, PySem.W.mg_none_of X G z11, PySem.W.mg_none_of X G z12, PySem.W.mg_none_of X G z13, PySem.W.mg_none_of X G z14, PySem.W.mg_none_of X G z15, PySem.W.mg_none_of X G z16, PySem.W.mg_none_of X G z17, PySem.W.mg_none_of X G z18, PySem.W.mg_none_of X G z19, PySem.W.mg_none_of X G z20⟩
  refine ⟨PySem.W.fnOf "law" "law" (defArgs s_law) (defBody s_law) (defScope s_law) .none kV22 dc22 pm22 an22 cd22 ct22, fun s v => .of_eq rfl, fun base _ _ => ?_⟩
  have C_is_whole : Cal l.prog w K mg base "is_whole" P_is_whole 1 spWholeT f1 _ := ⟨ok_is_whole F1 bi, PySem.W.mg_of X G a1, F1.kp, F1.binds (ps := P_is_whole) fun _ _ _ _ _ _ us hl => match us, hl with | [_, _], _ => rfl⟩
  have C_is_tuple : Cal l.prog w K mg base "is_tuple" P_is_tuple 1 spTupleT f2 _ := ⟨ok_is_tuple F2 bi, PySem.W.mg_of X G a2, F2.kp, F2.binds (ps := P_is_tuple) fun _ _ _ _ _ _ us hl => match us, hl with | [_, _, _], _ => rfl⟩
  have C_is_step : Cal l.prog w K mg base "is_step" P_is_step 2 spStepT f3 _ := ⟨ok_is_step F3 bi C_is_tuple C_is_whole, PySem.W.mg_of X G a3, F3.kp, F3.binds (ps := P_is_step) fun _ _ _ _ _ _ us hl => match us, hl with | [_], _ => rfl⟩
  have C_are_steps : Cal l.prog w K mg base "are_steps" P_are_steps 3 spStepsT f4 _ := ⟨ok_are_steps F4 bi g_MOST_STEPS C_is_tuple C_is_step, PySem.W.mg_of X G a4, F4.kp, F4.binds (ps := P_are_steps) fun _ _ _ _ _ _ us hl => match us, hl with | [_], _ => rfl⟩
  have C_is_wisp : Cal l.prog w K mg base "is_wisp" P_is_wisp 4 spWispT f5 _ := ⟨ok_is_wisp F5 bi C_is_tuple C_is_whole C_are_steps, PySem.W.mg_of X G a5, F5.kp, F5.binds (ps := P_is_wisp) fun _ _ _ _ _ _ us hl => match us, hl with | [_], _ => rfl⟩
  have C_length_of : Cal l.prog w K mg base "length_of" P_length_of 1 spLongs f6 _ := ⟨ok_length_of F6 bi, PySem.W.mg_of X G a6, F6.kp, F6.binds (ps := P_length_of) fun _ _ _ _ _ _ us hl => match us, hl with | [_], _ => rfl⟩
  have C_is_many : Cal l.prog w K mg base "is_many" P_is_many 2 (spIsD isManyD) f7 _ := ⟨ok_is_many F7 bi g_MOST_OF_A_KIND C_is_whole, PySem.W.mg_of X G a7, F7.kp, F7.binds (ps := P_is_many) fun _ _ _ _ _ _ us hl => match us, hl with | [_], _ => rfl⟩
  have C_is_kind : Cal l.prog w K mg base "is_kind" P_is_kind 5 (spIsD isKindD) f8 _ := ⟨ok_is_kind F8 bi g_MOST_PLACES C_is_tuple C_is_wisp C_length_of C_is_many, PySem.W.mg_of X G a8, F8.kp, F8.binds (ps := P_is_kind) fun _ _ _ _ _ _ us hl => match us, hl with | [_], _ => rfl⟩
  have C_is_basket : Cal l.prog w K mg base "is_basket" P_is_basket 6 (spIsD isBasketD) f9 _ := ⟨ok_is_basket F9 bi g_MOST_KINDS C_is_tuple C_is_kind, PySem.W.mg_of X G a9, F9.kp, F9.binds (ps := P_is_basket) fun _ _ _ _ _ _ us hl => match us, hl with | [_], _ => rfl⟩
  have C_is_frame : Cal l.prog w K mg base "is_frame" P_is_frame 2 (spIsD isFrameD) f10 _ := ⟨ok_is_frame F10 bi g_MOST_IN_HAND C_is_tuple C_is_whole, PySem.W.mg_of X G a10, F10.kp, F10.binds (ps := P_is_frame) fun _ _ _ _ _ _ us hl => match us, hl with | [_], _ => rfl⟩
  have C__law_pot : Cal l.prog w K mg base "_law_pot" P__law_pot 1 (spPotB K) f11 _ := ⟨ok__law_pot F11 bi nd, PySem.W.mg_of X G a11, F11.kp, F11.binds (ps := P__law_pot) fun _ _ _ _ _ _ us hl => match us, hl with | [_, _], _ => rfl⟩
  have C__law_take : Cal l.prog w K mg base "_law_take" P__law_take 1 spTakeB f12 _ := ⟨ok__law_take F12 bi, PySem.W.mg_of X G a12, F12.kp, F12.binds (ps := P__law_take) fun _ _ _ _ _ _ us hl => match us, hl with | [_, _], _ => rfl⟩
  have C__law_wisp : Cal l.prog w K mg base "_law_wisp" P__law_wisp 2 spWispB f13 _ := ⟨ok__law_wisp F13 bi C__law_take, PySem.W.mg_of X G a13, F13.kp, F13.binds (ps := P__law_wisp) fun _ _ _ _ _ _ us hl => match us, hl with | [_, _, _], _ => rfl⟩
  have C__law_set : Cal l.prog w K mg base "_law_set" P__law_set 3 spSetB f14 _ := ⟨ok__law_set F14 bi C__law_take C__law_wisp, PySem.W.mg_of X G a14, F14.kp, F14.binds (ps := P__law_set) fun _ _ _ _ _ _ us hl => match us, hl with | [_], _ => rfl⟩
  have C__law_bent : Cal l.prog w K mg base "_law_bent" P__law_bent 10 (spBentB 8) f15 _ := ⟨ok__law_bent F15 (PySem.W.mg_of X G a15) (F15.binds (ps := P__law_bent) fun _ _ _ _ _ _ us hl => match us, hl with | [_, _], _ => rfl) bi C__law_take 8, PySem.W.mg_of X G a15, F15.kp, F15.binds (ps := P__law_bent) fun _ _ _ _ _ _ us hl => match us, hl with | [_, _], _ => rfl⟩
  have C__law_whole : Cal l.prog w K mg base "_law_whole" P__law_whole 1 spWholeT f16 _ := ⟨ok__law_whole F16 bi, PySem.W.mg_of X G a16, F16.kp, F16.binds (ps := P__law_whole) fun _ _ _ _ _ _ us hl => match us, hl with | [_, _], _ => rfl⟩
  have C__law_is_short : Cal l.prog w K mg base "_law_is_short" P__law_is_short 2 spShortT f17 _ := ⟨ok__law_is_short F17 bi C__law_whole, PySem.W.mg_of X G a17, F17.kp, F17.binds (ps := P__law_is_short) fun _ _ _ _ _ _ us hl => match us, hl with | [_], _ => rfl⟩
  have C__law_is_basket : Cal l.prog w K mg base "_law_is_basket" P__law_is_basket 3 (spIsD isBasketD) f18 _ := ⟨ok__law_is_basket F18 bi C__law_whole C__law_is_short, PySem.W.mg_of X G a18, F18.kp, F18.binds (ps := P__law_is_basket) fun _ _ _ _ _ _ us hl => match us, hl with | [_], _ => rfl⟩
  have C__law_is_frame : Cal l.prog w K mg base "_law_is_frame" P__law_is_frame 2 (spIsD isFrameD) f19 _ := ⟨ok__law_is_frame F19 bi C__law_whole, PySem.W.mg_of X G a19, F19.kp, F19.binds (ps := P__law_is_frame) fun _ _ _ _ _ _ us hl => match us, hl with | [_], _ => rfl⟩
  have C__law_right : Cal l.prog w K mg base "_law_right" P__law_right 7 (spIsD fun _ => true) f20 _ := ⟨ok__law_right F20 bi C_is_basket C_is_frame C__law_is_basket C__law_is_frame, PySem.W.mg_of X G a20, F20.kp, F20.binds (ps := P__law_right) fun _ _ _ _ _ _ us hl => match us, hl with | [_], _ => rfl⟩
  have C__law_edges : Cal l.prog w K mg base "_law_edges" P__law_edges 1 spEdges41 f21 _ := ⟨ok__law_edges F21 bi, PySem.W.mg_of X G a21, F21.kp, F21.binds (ps := P__law_edges) fun _ _ _ _ _ _ us hl => match us, hl with | [], _ => rfl⟩
  exact ok_law F22 bi C__law_edges C__law_right C__law_pot C__law_set C_is_basket C_is_frame C__law_bent
end My
open PySem PySem.W PyProof.Rows
set_option maxHeartbeats 0 in
theorem PySem.Challenge.cw_evenstrand_k41_baskets_and_frames_of_any_holds : PySem.Challenge.rw_evenstrand_k41_baskets_and_frames_of_any.Holds := by
  w_on; o_law; k_head; (case hw => w_witness2)
  k_fill
  refine L2.walk_of (l := PySem.Challenge.rw_evenstrand_k41_baskets_and_frames_of_any) (n := 63) (k := 11) (x := "_law_script") (CX := fun _ => L2.CX0) (sp := fun w => My.spLaw _) rfl (by decide) rfl ⟨rfl, by decide, by decide⟩ (fun w h Y => PySem.W.kIn_of Y) ?F (fun _ _ a ns hl _ hS => ⟨a, ns, rfl, hS, hl, fun _ => rfl⟩) (fun _ _ _ _ _ h => h)
  case F =>
    intro w mg fa h KX G hmg
    refine' My.all_mk KX G hmg ?a1 ?l1 ?c1 ?k1 ?a2 ?l2 ?c2 ?k2 ?a3 ?l3 ?c3 ?k3 ?a4 ?l4 ?c4 ?k4 ?a5 ?l5 ?c5 ?k5 ?a6 ?l6 ?c6 ?k6 ?a7 ?l7 ?c7 ?k7 ?a8 ?l8 ?c8 ?k8 ?a9 ?l9 ?c9 ?k9 ?a10 ?l10 ?c10 ?k10 ?a11 ?l11 ?c11 ?k11 ?a12 ?l12 ?c12 ?k12 ?a13 ?l13 ?c13 ?k13 ?a14 ?l14 ?c14 ?k14 ?a15 ?l15 ?c15 ?k15 ?a16 ?l16 ?c16 ?k16 ?a17 ?l17 ?c17 ?k17 ?a18 ?l18 ?c18 ?k18 ?a19 ?l19 ?c19 ?k19 ?a20 ?l20 ?c20 ?k20 ?a21 ?l21 ?c21 ?k21 ?a22 ?l22 ?c22 ?k22 ?z1 ?z2 ?z3 ?z4 ?z5 ?z6 ?z7 ?z8 ?z9 ?z10 ?z11 ?z12 ?z13 ?z14 ?z15 ?z16 ?z17 ?z18 ?z19 ?z20 ?q_MOST_STEPS ?q_MOST_KINDS ?q_MOST_PLACES ?q_MOST_OF_A_KIND ?q_MOST_IN_HAND ?zq
    (case a1 => k_is)
    (case l1 => k_is)
    (case c1 => k_is)
    (case k1 => k_is)
    (case a2 => k_is)
    (case l2 => k_is)
    (case c2 => k_is)
    (case k2 => k_is)
    (case a3 => k_is)
    (case l3 => k_is)
    (case c3 => k_is)
    (case k3 => k_is)
    (case a4 => k_is)
    (case l4 => k_is)
    (case c4 => k_is)
    (case k4 => k_is)
    (case a5 => k_is)
    (case l5 => k_is)
    (case c5 => k_is)
    (case k5 => k_is)
    (case a6 => k_is)
    (case l6 => k_is)
    (case c6 => k_is)
    (case k6 => k_is)
    (case a7 => k_is)
    (case l7 => k_is)
    (case c7 => k_is)
    (case k7 => k_is)
    (case a8 => k_is)
    (case l8 => k_is)
    (case c8 => k_is)
    (case k8 => k_is)
    (case a9 => k_is)
    (case l9 => k_is)
    (case c9 => k_is)
    (case k9 => k_is)
    (case a10 => k_is)
    (case l10 => k_is)
    (case c10 => k_is)
    (case k10 => k_is)
    (case a11 => k_is)
    (case l11 => k_is)
    (case c11 => k_is)
    (case k11 => k_is)
    (case a12 => k_is)
    (case l12 => k_is)
    (case c12 => k_is)
    (case k12 => k_is)
    (case a13 => k_is)
    (case l13 => k_is)
    (case c13 => k_is)
    (case k13 => k_is)
    (case a14 => k_is)
    (case l14 => k_is)
    (case c14 => k_is)
    (case k14 => k_is)
    (case a15 => k_is)
    (case l15 => k_is)
    (case c15 => k_is)
    (case k15 => k_is)
    (case a16 => k_is)
    (case l16 => k_is)
    (case c16 => k_is)
    (case k16 => k_is)
    (case a17 => k_is)
    (case l17 => k_is)
    (case c17 => k_is)
    (case k17 => k_is)
    (case a18 => k_is)
    (case l18 => k_is)
    (case c18 => k_is)
    (case k18 => k_is)
    (case a19 => k_is)
    (case l19 => k_is)
    (case c19 => k_is)
    (case k19 => k_is)
    (case a20 => k_is)
    (case l20 => k_is)
    (case c20 => k_is)
    (case k20 => k_is)
    (case a21 => k_is)
    (case l21 => k_is)
    (case c21 => k_is)
    (case k21 => k_is)
    (case a22 => k_is)
    (case l22 => k_is)
    (case c22 => k_is)
    (case k22 => k_is)
    (case z1 => k_is)
    (case z2 => k_is)
    (case z3 => k_is)
    (case z4 => k_is)
    (case z5 => k_is)
    (case z6 => k_is)
    (case z7 => k_is)
    (case z8 => k_is)
    (case z9 => k_is)
    (case z10 => k_is)
    (case z11 => k_is)
    (case z12 => k_is)
    (case z13 => k_is)
    (case z14 => k_is)
    (case z15 => k_is)
    (case z16 => k_is)
    (case z17 => k_is)
    (case z18 => k_is)
    (case z19 => k_is)
    (case z20 => k_is)
    (case q_MOST_STEPS => k_is)
    (case q_MOST_KINDS => k_is)
    (case q_MOST_PLACES => k_is)
    (case q_MOST_OF_A_KIND => k_is)
    (case q_MOST_IN_HAND => k_is)
    (case zq => k_is)
