import PyProof.Rows.All
import Wide.All
import OpenK.AllK
import Wide.FinOn
import HandS.ForMost
import HandS.Wide
import HandS.IsInst
import HandS.More
import HandS.TupAny
import HandS.Codes
import HandS.Zip
import HandS.SortKw
import HandS.Walk
import KE.KMinKey
import PyProof.Rows.NestShow
import PyProof.ReprBulk
import PyProof.FitsInt
import HandS.SortInts
import HandS.Flow
import HandS.SetKeys
import HandS.NoneIn
import HandS.Style
import HandS.SetFor
import HandS.Defaults
import PyProof.LongRange
import PyProof.Rows.SortShellAny
import PyProof.FactsAll.NoneType_2
import KE.DatumOrd
import PyProof.Claim2Refuses
import PyProof.MaxThree
import PySem.Challenge.RW_evenstrand_k34_places_left
set_option Elab.async false
set_option linter.all false
set_option maxRecDepth 100000
set_option maxHeartbeats 4000000
namespace My
open PySem PySem.Spec PyProof.Rows L2
/-! ### defs that are called where no object is just being shown: there repr tells all of a thing -/
structure FnG (P : Program) (w : World) (K : PySem.W.Frag) (mg : Str → Option Value) (bs : Heap) (k : Nat) (f : Addr) (fd : FuncData) (ps : List Str) (sp : Sp) : Prop where
  long : ∀ us H Q E, sp us H Q E → us.length = ps.length
  goes : ∀ (B : Around) (ou : List Env) (t : Shared) (H : Hp) (ar : Args) (ws : List Value) (us : List V) (Q : VK) (E : XK), Room k B → B.guards = some [] → Env0 P w K mg bs B ou t H → BindsTo t fd ar (ps.zip ws) →
    Vals us ws → sp us H Q E → codeAny (model P w) B (.call (.ref f) ar) (CR CX0 ou P w H t Q E) t
section
variable {P : Program} {w : World} {K : PySem.W.Frag} {mg : Str → Option Value} {bs : Heap} {f : Addr} {fd : FuncData} {ps : List Str} {sp : Sp}
theorem FnG.up {j k : Nat} (F : FnG P w K mg bs j f fd ps sp) (h : j ≤ k) : FnG P w K mg bs k f fd ps sp := ⟨F.long, fun B ou t H ar ws us Q E r => F.goes B ou t H ar ws us Q E (r.mono h)⟩
theorem FnG.of {k : Nat} (F : FnOk P w K mg bs CX0 k f fd ps sp) : FnG P w K mg bs k f fd ps sp := ⟨F.len, fun B ou t H ar ws us Q E r _ => F.run B ou t H ar ws us Q E r⟩
/-- from the body's walk -/
theorem okG {x qual : Str} {st : Stmt} {N : List Str} {k : Nat} (F : Fun K x qual st f fd) (S : FnScope N ps (defScope st)) (ln : ∀ us H Q E, sp us H Q E → us.length = ps.length)
    (hb : ∀ (cv : Value) (B : Around) (ou : List Env) (t : Shared) (H : Hp) (us : List V) (Q : VK) (E : XK), Room k (B.deeper (envOfC qual (defScope st) t.heap.objs.size f cv)) → (B.deeper (envOfC qual (defScope st) t.heap.objs.size f cv)).guards = some [] → sp us H Q E →
      ∃ u, PSs (cxOf CX0 P w K mg bs N qual (defScope st) f cv B ou t H E).nox (defBody st) u ∧ u { nx := fun _ H' => Q .non H', rt := Q } (start N us) H) : FnG P w K mg bs (k + 1) f fd ps sp := by
  obtain ⟨oc, od, kV, dc, pm, an, cv, ct, sl, rfl, lk, hcv⟩ := F.ex
  refine ⟨ln, fun B ou t H ar ws us Q E r gd e0 bi va hs => ?_⟩
  have kin : K.In t.heap := e0.mod.kin.keeps fun b o e => (e0.bs b o e).1
  have nol : t.heap.NoLimit := e0.mod.nolimit.keeps fun b o e => (e0.bs b o e).1
  refine codeAny_call_function r.depth (kin _ _ lk) rfl S.co S.gen rfl (PySem.W.codeRec_of kin hcv) (bi _ _ _ _ (wpAny_newFunctionEnv_cells S.kind (fun ⟨y, v⟩ hy => ?_) fun en hen t1 z => ?_))
  · rcases S.par y (List.of_mem_zip hy).1 with l | l
    · exact .inl l
    · exact .inr ⟨l, PySem.W.cellsFrom_some _ _ _ (.inl l)⟩
  · subst hen
    refine ⟨nol.keeps z.toInCall.keep, codeAny_func ?_⟩
    obtain ⟨u, hu, hq⟩ := hb cv B ou t H us Q E (r.deeper _) gd hs
    refine wpAny_mono (hu.nox.run [] t1 (start N us) H _ (inv_start S r.hd e0 (ln _ _ _ _ hs) va z) hq) (fun fl t' ht => ?_) fun _ _ ht => ht
    cases fl with
    | ret y =>
      obtain ⟨v, σ', H', J, rv, q⟩ := ht
      exact ⟨v, H', J.os, J.bare, J.base, J.hok, rv, q⟩
    | next =>
      obtain ⟨σ', H', J, q⟩ := ht
      exact ⟨.non, H', J.os, J.bare, J.base, J.hok, rfl, q⟩
    | brk => exact ht.elim fun _ z => z.elim fun _ z => z.2.elim
    | cont => exact ht.elim fun _ z => z.elim fun _ z => z.2.elim
end
section
variable {X : Cx}
theorem pe_callG {k : Nat} {f : Addr} {fd : FuncData} {ps : List Str} {sp : Sp} {x : Str} {p pos : Pos} {e : Expr} {es : List Expr} {t : TA} (F : FnG X.prog X.w X.K X.mg X.base k f fd ps sp) (hr : Room k X.A) (gd : X.A.guards = some []) (hg : Gl X x) (hm : X.mg x = some (.ref f)) (kp : PySem.W.keepIn X.K (.ref f) = true)
    (bd : Binds X.K fd ps []) (ha : PA X (e :: es) t) (hdb : (x == ("__debug__" : Str)) = false := by decide) (hst : starEach (e :: es) X.env = (false, eval e X.env) :: starEach es X.env := by rfl)
    (hpl : (backTo pos (starEach es X.env)).any (·.1) = false := by rfl) : PE X (.Call (.Name x p) (e :: es) [] pos) (tCall sp [] E0 t) := by
  refine ⟨fun pins s σ H Q I h => wpAny_Call_Name_kw (ld_glob I hg hm (PySem.W.callWith_K (h₀ := X.base) I.ok.mod.kin kp (thn (ha.run pos pins s σ H _ I h) fun ws s1 ⟨us, H1, J, va, q⟩ => ⟨J.kIn, ?_⟩) hst hpl) hdb)⟩
  have q : sp (us ++ []) H1 Q E0 := q
  rw [List.append_nil] at q
  have hl : (ws ++ []).length = ps.length := by rw [List.append_nil, ← va.length]; exact F.long _ _ _ _ q
  have bt := bd s1 ws J.kIn hl
  rw [List.append_nil] at bt
  refine wpAny_call (codeAny_mono (F.goes X.A X.stack s1 H1 ⟨ws, []⟩ ws us Q E0 hr gd J.env0 bt va q) fun r s' hq => ?_)
  match r, hq with
  | .ok (.ret _), hq => exact J.after hq
  | .ok .next, hq => exact False.elim hq
  | .ok .brk, hq => exact False.elim hq
  | .ok .cont, hq => exact False.elim hq
  | .error _, hq => exact False.elim hq
/-- repr of a thing made of lists, tuples, texts, numbers, truths and None -/
def rRepr (K : PySem.W.Frag) : List V → Hp → VK → Prop := fun xs H Q => ∃ (a : Addr) (d : PyData), xs = [.ref a] ∧ Dp K H (.ref a) d ∧ d.showable = true ∧ d.hasDict = false ∧ d.depth ≤ 60 ∧ d.shown.length ≤ sizeLine ∧ Q (.str d.shown) H
theorem call_reprD (gd : X.A.guards = some []) (hu : X.A.units + 64 < cLine) : CallR X (.builtin "repr") (rRepr X.K) := by
  intro pins s σ H xs us Q I va h
  obtain ⟨a, d, rfl, dp, h1, h2, h3, h4, q⟩ := h
  rw [Vals.ref1 va]
  obtain ⟨as, rd⟩ := Dp.reads I d (.ref a) (.ref a) dp rfl
  exact repr_of_reads' rd h1 (PyData.noDict_hsm h2) gd (by omega) (fun _ _ e => e) (fun h' u tk hk => ⟨.str _, H, I.kept hk, ⟨_, rfl⟩, q⟩) h4
end
/-! ### the text -/
def topS (i : Nat) : Stmt := PySem.Challenge.pw_evenstrand_k34_places_left.main.body.getD i (.Pass ⟨0, 0, 0, 0⟩)
abbrev s_spans_of : Stmt := topS 1
abbrev N_spans_of : List Str := ["breaks", "spans", "start", "many", "moment", "lap"]
abbrev P_spans_of : List Str := ["breaks"]
theorem sc_spans_of : FnScope N_spans_of P_spans_of (defScope s_spans_of) := ⟨rfl, rfl, rfl, by decide +kernel, rfl, by decide +kernel, by decide +kernel⟩
abbrev s_left : Stmt := topS 2
abbrev N_left : List Str := ["moment", "breaks", "start", "end", "many"]
abbrev P_left : List Str := ["moment", "breaks"]
theorem sc_left : FnScope N_left P_left (defScope s_left) := ⟨rfl, rfl, rfl, by decide +kernel, rfl, by decide +kernel, by decide +kernel⟩
abbrev s_with_run : Stmt := topS 3
abbrev N_with_run : List Str := ["runs", "start", "end"]
abbrev P_with_run : List Str := ["runs", "start", "end"]
theorem sc_with_run : FnScope N_with_run P_with_run (defScope s_with_run) := ⟨rfl, rfl, rfl, by decide +kernel, rfl, by decide +kernel, by decide +kernel⟩
abbrev s_without_last : Stmt := topS 4
abbrev N_without_last : List Str := ["runs", "lap", "start", "end"]
abbrev P_without_last : List Str := ["runs", "lap"]
theorem sc_without_last : FnScope N_without_last P_without_last (defScope s_without_last) := ⟨rfl, rfl, rfl, by decide +kernel, rfl, by decide +kernel, by decide +kernel⟩
abbrev s_kept_moments : Stmt := topS 5
abbrev N_kept_moments : List Str := ["moment", "breaks", "runs", "start", "at", "lap"]
abbrev P_kept_moments : List Str := ["moment", "breaks"]
theorem sc_kept_moments : FnScope N_kept_moments P_kept_moments (defScope s_kept_moments) := ⟨rfl, rfl, rfl, by decide +kernel, rfl, by decide +kernel, by decide +kernel⟩
abbrev s_moment_of : Stmt := topS 6
abbrev N_moment_of : List Str := ["place", "moment", "breaks", "start", "end"]
abbrev P_moment_of : List Str := ["place", "moment", "breaks"]
theorem sc_moment_of : FnScope N_moment_of P_moment_of (defScope s_moment_of) := ⟨rfl, rfl, rfl, by decide +kernel, rfl, by decide +kernel, by decide +kernel⟩
abbrev s__law_begin : Stmt := topS 8
abbrev N__law_begin : List Str := ["_law_script", "_law_k", "_law_cell", "_law_seed", "_law_one"]
abbrev P__law_begin : List Str := ["_law_script", "_law_k"]
theorem sc__law_begin : FnScope N__law_begin P__law_begin (defScope s__law_begin) := ⟨rfl, rfl, rfl, by decide +kernel, rfl, by decide +kernel, by decide +kernel⟩
abbrev s__law_take : Stmt := topS 9
abbrev N__law_take : List Str := ["_law_hand", "_law_many", "_law_digit", "_law_mixed"]
abbrev P__law_take : List Str := ["_law_hand", "_law_many"]
theorem sc__law_take : FnScope N__law_take P__law_take (defScope s__law_take) := ⟨rfl, rfl, rfl, by decide +kernel, rfl, by decide +kernel, by decide +kernel⟩
abbrev s__law_of : Stmt := topS 10
abbrev N__law_of : List Str := ["_law_hand", "_law_some"]
abbrev P__law_of : List Str := ["_law_hand", "_law_some"]
theorem sc__law_of : FnScope N__law_of P__law_of (defScope s__law_of) := ⟨rfl, rfl, rfl, by decide +kernel, rfl, by decide +kernel, by decide +kernel⟩
abbrev s__law_some_breaks : Stmt := topS 11
abbrev N__law_some_breaks : List Str := ["_law_hand", "_law_most", "_law_far", "_law_found", "_law_moment", "_law_k"]
abbrev P__law_some_breaks : List Str := ["_law_hand", "_law_most", "_law_far"]
theorem sc__law_some_breaks : FnScope N__law_some_breaks P__law_some_breaks (defScope s__law_some_breaks) := ⟨rfl, rfl, rfl, by decide +kernel, rfl, by decide +kernel, by decide +kernel⟩
abbrev s__law_stood : Stmt := topS 12
abbrev N__law_stood : List Str := ["_law_moment", "_law_breaks", "_law_laps", "_law_found", "_law_now"]
abbrev P__law_stood : List Str := ["_law_moment", "_law_breaks"]
theorem sc__law_stood : FnScope N__law_stood P__law_stood (defScope s__law_stood) := ⟨rfl, rfl, rfl, by decide +kernel, rfl, by decide +kernel, by decide +kernel⟩
abbrev s__law_runs_of : Stmt := topS 13
abbrev N__law_runs_of : List Str := ["_law_moments", "_law_found", "_law_moment"]
abbrev P__law_runs_of : List Str := ["_law_moments"]
theorem sc__law_runs_of : FnScope N__law_runs_of P__law_runs_of (defScope s__law_runs_of) := ⟨rfl, rfl, rfl, by decide +kernel, rfl, by decide +kernel, by decide +kernel⟩
abbrev s__law_near_right : Stmt := topS 14
abbrev N__law_near_right : List Str := ["_law_moment", "_law_breaks", "_law_stood_here", "_law_many", "_law_runs", "_law_place", "_law_run"]
abbrev P__law_near_right : List Str := ["_law_moment", "_law_breaks"]
theorem sc__law_near_right : FnScope N__law_near_right P__law_near_right (defScope s__law_near_right) := ⟨rfl, rfl, rfl, by decide +kernel, rfl, by decide +kernel, by decide +kernel⟩
abbrev s__law_far_left : Stmt := topS 15
abbrev N__law_far_left : List Str := ["_law_moment", "_law_breaks", "_law_stood_here", "_law_since", "_law_at", "_law_lap"]
abbrev P__law_far_left : List Str := ["_law_moment", "_law_breaks"]
theorem sc__law_far_left : FnScope N__law_far_left P__law_far_left (defScope s__law_far_left) := ⟨rfl, rfl, rfl, by decide +kernel, rfl, by decide +kernel, by decide +kernel⟩
abbrev s__law_is_kept : Stmt := topS 16
abbrev N__law_is_kept : List Str := ["_law_one", "_law_moment", "_law_breaks", "_law_number", "_law_at", "_law_lap"]
abbrev P__law_is_kept : List Str := ["_law_one", "_law_moment", "_law_breaks"]
theorem sc__law_is_kept : FnScope N__law_is_kept P__law_is_kept (defScope s__law_is_kept) := ⟨rfl, rfl, rfl, by decide +kernel, rfl, by decide +kernel, by decide +kernel⟩
abbrev s__law_far_right : Stmt := topS 17
abbrev N__law_far_right : List Str := ["_law_moment", "_law_breaks", "_law_runs", "_law_many", "_law_start", "_law_end", "_law_last", "_law_place", "_law_at", "_law_some", "_law_one", "_law_stays", "_law_lap"]
abbrev P__law_far_right : List Str := ["_law_moment", "_law_breaks"]
theorem sc__law_far_right : FnScope N__law_far_right P__law_far_right (defScope s__law_far_right) := ⟨rfl, rfl, rfl, by decide +kernel, rfl, by decide +kernel, by decide +kernel⟩
abbrev s_law : Stmt := topS 18
abbrev N_law : List Str := ["_law_script", "_law_k", "_law_hand", "_law_breaks", "_law_at", "_law_ends", "_law_turn", "_law_far", "_law_lap"]
abbrev P_law : List Str := ["_law_script"]
theorem sc_law : FnScope N_law P_law (defScope s_law) := ⟨rfl, rfl, rfl, by decide +kernel, rfl, by decide +kernel, by decide +kernel⟩
/-! ### the names that are still the built-in ones -/
structure Bi (mg : Str → Option Value) : Prop where
  m_len : mg "len" = none
  m_sum : mg "sum" = none
  m_abs : mg "abs" = none
  m_isinstance : mg "isinstance" = none
  m_max : mg "max" = none
  m_min : mg "min" = none
  m_tuple : mg "tuple" = none
  m_list : mg "list" = none
  m_int : mg "int" = none
  m_bool : mg "bool" = none
  m_range : mg "range" = none
  m_enumerate : mg "enumerate" = none
  m_zip : mg "zip" = none
  m_repr : mg "repr" = none
  m_str : mg "str" = none
  m_sorted : mg "sorted" = none
  m_set : mg "set" = none
  m_all : mg "all" = none
  m_any : mg "any" = none
  m_dict : mg "dict" = none
/-! ### a def as its callers use it -/
structure Cal (P : Program) (w : World) (K : PySem.W.Frag) (mg : Str → Option Value) (base : Heap) (x : Str) (ps : List Str) (k : Nat) (sp : Sp) (f : Addr) (fd : FuncData) : Prop where
  G : FnOk P w K mg base CX0 k f fd ps sp
  g : mg x = some (.ref f)
  kp : PySem.W.keepIn K (.ref f) = true
  b : Binds K fd ps []
structure CalG (P : Program) (w : World) (K : PySem.W.Frag) (mg : Str → Option Value) (base : Heap) (x : Str) (ps : List Str) (k : Nat) (sp : Sp) (f : Addr) (fd : FuncData) : Prop where
  G : FnG P w K mg base k f fd ps sp
  g : mg x = some (.ref f)
  kp : PySem.W.keepIn K (.ref f) = true
  b : Binds K fd ps []
/-! ### heaps -/
def Keep (p l : Addr) (H H' : Hp) : Prop := ∀ a o, a ≠ p → a ≠ l → H a = some o → H' a = some o
theorem Keep.refl {p l : Addr} {H : Hp} : Keep p l H H := fun _ _ _ _ h => h
theorem Keep.trans {p l : Addr} {H H1 H2 : Hp} (a : Keep p l H H1) (b : Keep p l H1 H2) : Keep p l H H2 := fun c o n1 n2 h => b c o n1 n2 (a c o n1 n2 h)
theorem Keep.new {p l : Addr} {H H1 : Hp} {a : Addr} {o : HO} (k : Keep p l H H1) (h : H1 a = none) : Keep p l H (upd H1 a o) := fun c u n1 n2 e => by
  have e1 := k c u n1 n2 e
  rw [upd_ne (ne_of_none e1 h)]
  exact e1
theorem Keep.own {p l : Addr} {H H1 : Hp} {o : HO} (k : Keep p l H H1) : Keep p l H (upd H1 p o) := fun c u n1 n2 e => by
  rw [upd_ne n1]
  exact k c u n1 n2 e
theorem Keep.own2 {p l : Addr} {H H1 : Hp} {o : HO} (k : Keep p l H H1) : Keep p l H (upd H1 l o) := fun c u n1 n2 e => by
  rw [upd_ne n2]
  exact k c u n1 n2 e
/-- an object that was not there at H may change -/
theorem Keep.mine {p l a : Addr} {H H1 : Hp} {o : HO} (k : Keep p l H H1) (h : H a = none) : Keep p l H (upd H1 a o) := fun c u n1 n2 e => by
  rw [upd_ne (ne_of_none e h)]
  exact k c u n1 n2 e
def Tups (H H' : Hp) : Prop := ∀ a xs, H a = some (.tup xs) → H' a = some (.tup xs)
theorem Tups.refl {H : Hp} : Tups H H := fun _ _ h => h
theorem Tups.trans {H H1 H2 : Hp} (a : Tups H H1) (b : Tups H1 H2) : Tups H H2 := fun c xs h => b c xs (a c xs h)
theorem Tups.new {H : Hp} {a : Addr} {o : HO} (h : H a = none) : Tups H (upd H a o) := fun c xs e => by
  rw [upd_ne (ne_of_none e h)]
  exact e
theorem Tups.ls {H : Hp} {a : Addr} {xs : List V} {o : HO} (h : H a = some (.lst xs)) : Tups H (upd H a o) := fun c ys e => by
  have n : c ≠ a := ne_of e h (by intro z; cases z)
  rw [upd_ne n]
  exact e
theorem Tups.same {H H' : Hp} (h : Same H H') : Tups H H' := fun a xs e => h a _ e
/-- the pot: the cells that are left, the great number at hand, the seed, how many were drawn -/
def Pot (H : Hp) (p l : Addr) (T : Nat) : Prop := ∃ (ns : List Int) (c m : Int) (t : Nat), H p = some (.lst [.ref l, .int c, .int m, .int (t : Int)]) ∧ H l = some (.lst (ns.map V.int)) ∧ 0 ≤ c ∧ t ≤ T ∧ ns.length ≤ 63
theorem Pot.ne {H : Hp} {p l : Addr} {T : Nat} (h : Pot H p l T) : p ≠ l := by
  obtain ⟨ns, c, m, t, h1, h2, _⟩ := h
  intro e
  rw [e, h2] at h1
  cases ns with
  | nil => exact absurd h1 (by intro z; cases z)
  | cons n r => exact absurd h1 (by intro z; cases z)
theorem Pot.mono {H : Hp} {p l : Addr} {T U : Nat} (h : Pot H p l T) (e : T ≤ U) : Pot H p l U := by
  obtain ⟨ns, c, m, t, h1, h2, h3, h4, h5⟩ := h
  exact ⟨ns, c, m, t, h1, h2, h3, Nat.le_trans h4 e, h5⟩
theorem Pot.new {H : Hp} {p l a : Addr} {T : Nat} {o : HO} (h : Pot H p l T) (n : H a = none) : Pot (upd H a o) p l T := by
  obtain ⟨ns, c, m, t, h1, h2, h3⟩ := h
  exact ⟨ns, c, m, t, by rw [upd_ne (ne_of_none h1 n)]; exact h1, by rw [upd_ne (ne_of_none h2 n)]; exact h2, h3⟩
theorem Pot.other {H : Hp} {p l a : Addr} {T : Nat} {o : HO} (h : Pot H p l T) (n1 : a ≠ p) (n2 : a ≠ l) : Pot (upd H a o) p l T := by
  obtain ⟨ns, c, m, t, h1, h2, h3⟩ := h
  exact ⟨ns, c, m, t, by rw [upd_ne n1.symm]; exact h1, by rw [upd_ne n2.symm]; exact h2, h3⟩
theorem Pot.notP {H : Hp} {p l a : Addr} {T : Nat} {xs : List V} (h : Pot H p l T) (e : H a = some (.tup xs)) : a ≠ p ∧ a ≠ l := by
  obtain ⟨ns, c, m, t, h1, h2, h3⟩ := h
  exact ⟨ne_of e h1 (by intro z; cases z), ne_of e h2 (by intro z; cases z)⟩
theorem Pot.fresh {H : Hp} {p l a : Addr} {T : Nat} (h : Pot H p l T) (e : H a = none) : a ≠ p ∧ a ≠ l := by
  obtain ⟨ns, c, m, t, h1, h2, h3⟩ := h
  exact ⟨(ne_of_none h1 e).symm, (ne_of_none h2 e).symm⟩
theorem Keep.tups {p l : Addr} {H H' : Hp} {T : Nat} (k : Keep p l H H') (h : Pot H p l T) : Tups H H' := fun a xs e => by
  obtain ⟨n1, n2⟩ := h.notP e
  exact k a _ n1 n2 e
/-! ### what is drawn -/
def spBlend : Sp := fun vs H Q _ => ∃ (n : Int) (t : Int), vs = [.int n, .int t] ∧ 0 ≤ t ∧ t < 2 ^ 62 ∧ ∀ r, Q (.int r) H
def spDraw : Sp := fun vs H Q _ => ∃ (p l : Addr) (T : Nat) (many : Int), vs = [.ref p, .int many] ∧ Pot H p l T ∧ T < 2 ^ 40 ∧ CDivW 0 many ∧
  ∀ d H', 0 ≤ d → d < many → Pot H' p l (T + 1) → Keep p l H H' → Q (.int d) H'
def spGreat : Sp := fun vs H Q _ => ∃ (p l : Addr) (T : Nat), vs = [.ref p] ∧ Pot H p l T ∧ T < 2 ^ 39 ∧
  ∀ d H', 0 ≤ d → d < 2 ^ 122 → Pot H' p l (T + 5) → Keep p l H H' → Q (.int d) H'
/-! ### tuples at addresses -/
def TupsAt (H : Hp) (as : List Addr) (xss : List (List V)) : Prop := as.length = xss.length ∧ ∀ (i : Nat) (a : Addr), as[i]? = some a → ∃ xs, xss[i]? = some xs ∧ H a = some (.tup xs)
theorem TupsAt.nil {H : Hp} : TupsAt H [] [] := ⟨rfl, fun i a h => by simp at h⟩
theorem TupsAt.mono {H H' : Hp} {as : List Addr} {xss : List (List V)} (h : TupsAt H as xss) (t : Tups H H') : TupsAt H' as xss := ⟨h.1, fun i a e => by
  obtain ⟨xs, h1, h2⟩ := h.2 i a e
  exact ⟨xs, h1, t a xs h2⟩⟩
theorem TupsAt.cons {H : Hp} {as : List Addr} {xss : List (List V)} {a : Addr} {xs : List V} (h : TupsAt H as xss) (e : H a = some (.tup xs)) : TupsAt H (a :: as) (xs :: xss) := by
  refine ⟨by simp [h.1], fun i b hb => ?_⟩
  cases i with
  | zero =>
    have : a = b := Option.some.inj hb
    subst this
    exact ⟨xs, rfl, e⟩
  | succ j => exact h.2 j b hb
theorem TupsAt.snoc {H : Hp} {as : List Addr} {xss : List (List V)} {a : Addr} {xs : List V} (h : TupsAt H as xss) (e : H a = some (.tup xs)) : TupsAt H (as ++ [a]) (xss ++ [xs]) := by
  refine ⟨by simp [h.1], fun i b hb => ?_⟩
  by_cases hi : i < as.length
  · rw [List.getElem?_append_left hi] at hb
    obtain ⟨ys, h1, h2⟩ := h.2 i b hb
    exact ⟨ys, by rw [List.getElem?_append_left (by rw [← h.1]; exact hi)]; exact h1, h2⟩
  · rw [List.getElem?_append_right (by omega)] at hb
    have hz : i - as.length = 0 := by
      cases hk : i - as.length with
      | zero => rfl
      | succ n =>
        rw [hk] at hb
        simp at hb
    rw [hz] at hb
    have : a = b := Option.some.inj hb
    subst this
    refine ⟨xs, ?_, e⟩
    rw [List.getElem?_append_right (by rw [← h.1]; omega), ← h.1, hz]
    rfl
theorem TupsAt.get {H : Hp} {as : List Addr} {xss : List (List V)} (h : TupsAt H as xss) {i : Nat} {v : V} (e : (as.map V.ref)[i]? = some v) : ∃ a xs, v = .ref a ∧ as[i]? = some a ∧ xss[i]? = some xs ∧ H a = some (.tup xs) := by
  rw [List.getElem?_map] at e
  cases q : as[i]? with
  | none =>
    rw [q] at e
    cases e
  | some a =>
    rw [q] at e
    have e' : V.ref a = v := Option.some.inj e
    obtain ⟨xs, h1, h2⟩ := h.2 i a q
    exact ⟨a, xs, e'.symm, rfl, h1, h2⟩
/-! ### wisps -/
abbrev stepV (p : Int × Int) : List V := [.int p.1, .int p.2]
def WispAt (H : Hp) (a : Addr) (s : Int) (ps : List (Int × Int)) : Prop := ∃ (st : Addr) (as : List Addr), H a = some (.tup [.int s, .ref st]) ∧ H st = some (.tup (as.map V.ref)) ∧ TupsAt H as (ps.map stepV)
theorem WispAt.mono {H H' : Hp} {a : Addr} {s : Int} {ps : List (Int × Int)} (h : WispAt H a s ps) (t : Tups H H') : WispAt H' a s ps := by
  obtain ⟨st, as, h1, h2, h3⟩ := h
  exact ⟨st, as, t _ _ h1, t _ _ h2, h3.mono t⟩
theorem step_get {H : Hp} {as : List Addr} {ps : List (Int × Int)} (h : TupsAt H as (ps.map stepV)) {i : Nat} {v : V} (e : (as.map V.ref)[i]? = some v) : ∃ a t g, v = .ref a ∧ ps[i]? = some (t, g) ∧ H a = some (.tup [.int t, .int g]) := by
  obtain ⟨a, xs, h1, _, h2, h3⟩ := h.get e
  rw [List.getElem?_map] at h2
  cases q : ps[i]? with
  | none =>
    rw [q] at h2
    cases h2
  | some p =>
    rw [q] at h2
    have e' : stepV p = xs := Option.some.inj h2
    subst e'
    exact ⟨a, p.1, p.2, h1, rfl, h3⟩
def Good (ps : List (Int × Int)) : Prop := 1 ≤ ps.length ∧ ps.length ≤ 10 ∧ ∀ p ∈ ps, 1 ≤ p.1 ∧ p.1 < 2 ^ 200 ∧ 1 ≤ p.2 ∧ p.2 < 2 ^ 200
def Falls (ps : List (Int × Int)) : Prop := ps.Pairwise (fun a b => b.1 < a.1)
def Small (ps : List (Int × Int)) : Prop := ∀ p ∈ ps, p.1 ≤ 1000 ∧ p.2 ≤ 3
def spPot (K : PySem.W.Frag) : Sp := fun vs H Q _ => ∃ (a : Addr) (ns : List Int), vs = [.ref a] ∧ SqL K H a (ns.map V.int) ∧ ns.length ≤ 63 ∧
  ∀ H' p l, Same H H' → H p = none → H l = none → Pot H' p l 0 → Q (.ref p) H'
def spWisp : Sp := fun vs H Q _ => ∃ (p l : Addr) (T : Nat) (most : Int) (small : Bool), vs = [.ref p, .int most, .bl small] ∧ Pot H p l T ∧ T < 2 ^ 38 ∧ 1 ≤ most ∧ most ≤ 10 ∧
  ∀ H' a s ps, Pot H' p l (T + 150) → Keep p l H H' → WispAt H' a s ps → 0 ≤ s → s ≤ 1 → Good ps → (ps.length : Int) ≤ most → Falls ps → (small = true → Small ps) → H a = none → Q (.ref a) H'
def spWhole : Sp := fun vs H Q _ => ∃ i : Int, vs = [.int i] ∧ Q (.bl true) H
theorem Keep.free {p l a : Addr} {H H' : Hp} {T : Nat} (k : Keep p l H H') (hp : Pot H' p l T) (h : H' a = none) : H a = none := by
  obtain ⟨n1, n2⟩ := hp.fresh h
  cases q : H a with
  | none => rfl
  | some o =>
    rw [k a o n1 n2 q] at h
    cases h
/-! ### the mirrors -/
def longs (ps : List (Int × Int)) : Int := (ps.map (·.2)).sum
def weigh (ps : List (Int × Int)) : Int := (ps.map fun p => p.1 * p.2).sum
def thickAt : List (Int × Int) → Int → Int
  | [], _ => 0
  | (t, g) :: r, k => if k < g then t else thickAt r (k - g)
abbrev rowV (t : Int × Int × Int) : List V := [.int t.1, .int t.2.1, .int t.2.2]
def tableOf : Int → List (Int × Int) → List (Int × Int × Int)
  | _, [] => []
  | b, (t, g) :: r => (b, b + g, t) :: tableOf (b + g) r
def inRow (k : Int) (t : Int × Int × Int) : Bool := decide (t.1 ≤ k) && decide (k < t.2.1)
def strongOf (k : Int) (ts : List (Int × Int × Int)) : Int := ((ts.filter (inRow k)).map (·.2.2)).sum
theorem longs_nonneg : ∀ {ps : List (Int × Int)}, (∀ p ∈ ps, 1 ≤ p.2) → 0 ≤ longs ps
  | [], _ => by decide
  | p :: r, h => by
    have h1 := h p (by simp)
    have h2 := longs_nonneg (ps := r) fun x hx => h x (by simp [hx])
    unfold longs at *
    rw [List.map_cons, List.sum_cons]
    omega
theorem longs_cons {p : Int × Int} {r : List (Int × Int)} : longs (p :: r) = p.2 + longs r := by
  unfold longs
  rw [List.map_cons, List.sum_cons]
theorem weigh_cons {p : Int × Int} {r : List (Int × Int)} : weigh (p :: r) = p.1 * p.2 + weigh r := by
  unfold weigh
  rw [List.map_cons, List.sum_cons]
theorem table_len : ∀ (ps : List (Int × Int)) (b : Int), (tableOf b ps).length = ps.length
  | [], _ => rfl
  | (t, g) :: r, b => by
    show (tableOf (b + g) r).length + 1 = r.length + 1
    rw [table_len r]
theorem table_get : ∀ (ps : List (Int × Int)) (b : Int) (i : Nat) (t g : Int), ps[i]? = some (t, g) → (tableOf b ps)[i]? = some (b + longs (ps.take i), b + longs (ps.take (i + 1)), t)
  | [], _, _, _, _, h => by simp at h
  | (t', g') :: r, b, 0, t, g, h => by
    have e := Option.some.inj h
    obtain ⟨rfl, rfl⟩ := Prod.mk.inj e
    show some (b, b + g', t') = some (b + longs [], b + longs [(t', g')], t')
    unfold longs
    simp
  | (t', g') :: r, b, i + 1, t, g, h => by
    show (tableOf (b + g') r)[i]? = some (b + longs ((t', g') :: r.take i), b + longs ((t', g') :: r.take (i + 1)), t)
    rw [table_get r (b + g') i t g h, longs_cons, longs_cons]
    simp only [Int.add_assoc]
theorem strong_cons {k : Int} {t : Int × Int × Int} {ts : List (Int × Int × Int)} : strongOf k (t :: ts) = (if inRow k t = true then t.2.2 else 0) + strongOf k ts := by
  unfold strongOf
  rw [List.filter_cons]
  split
  · rw [List.map_cons, List.sum_cons]
  · rw [Int.zero_add]
theorem strong_table : ∀ (ps : List (Int × Int)) (b k : Int), (∀ p ∈ ps, 1 ≤ p.2) → strongOf k (tableOf b ps) = if k < b then 0 else thickAt ps (k - b)
  | [], b, k, _ => by
    show (0 : Int) = if k < b then 0 else 0
    split <;> rfl
  | (t, g) :: r, b, k, h => by
    have hg : 1 ≤ g := h (t, g) (by simp)
    have ih := strong_table r (b + g) k fun x hx => h x (by simp [hx])
    show strongOf k ((b, b + g, t) :: tableOf (b + g) r) = if k < b then 0 else if k - b < g then t else thickAt r (k - b - g)
    rw [strong_cons, ih]
    have e : k - b - g = k - (b + g) := by omega
    rw [e]
    by_cases h1 : k < b
    · rw [if_pos h1, if_pos (show k < b + g by omega), if_neg]
      · rfl
      · intro z
        have := (Bool.and_eq_true_iff.mp z).1
        have := of_decide_eq_true this
        simp only at this
        omega
    · by_cases h2 : k - b < g
      · rw [if_neg h1, if_pos h2, if_pos (show k < b + g by omega), if_pos]
        · show t + 0 = t
          omega
        · exact Bool.and_eq_true_iff.mpr ⟨decide_eq_true (show b ≤ k by omega), decide_eq_true (show k < b + g by omega)⟩
      · rw [if_neg h1, if_neg h2, if_neg (show ¬ k < b + g by omega), if_neg]
        · omega
        · intro z
          have := of_decide_eq_true (Bool.and_eq_true_iff.mp z).2
          simp only at this
          omega
def dueOf (ts : List (Int × Int × Int)) : Int := (ts.map fun t => (t.2.1 - t.1) * t.2.2).sum
theorem due_table : ∀ (ps : List (Int × Int)) (b : Int), dueOf (tableOf b ps) = weigh ps
  | [], _ => rfl
  | (t, g) :: r, b => by
    have ih := due_table r (b + g)
    show ((b, b + g, t) :: tableOf (b + g) r |>.map fun t => (t.2.1 - t.1) * t.2.2).sum = weigh ((t, g) :: r)
    rw [weigh_cons, List.map_cons, List.sum_cons, ← ih]
    show (b + g - b) * t + dueOf _ = t * g + dueOf _
    rw [show b + g - b = g by omega, Int.mul_comm]
def sumTo (n : Nat) (f : Int → Int) : Int := ((List.range n).map fun (i : Nat) => f (i : Int)).sum
theorem sumTo_succ (n : Nat) (f : Int → Int) : sumTo (n + 1) f = sumTo n f + f n := by
  unfold sumTo
  rw [List.range_succ, List.map_append, List.sum_append]
  simp
theorem sumTo_const (t : Int) : ∀ n : Nat, sumTo n (fun _ => t) = n * t
  | 0 => by simp [sumTo]
  | n + 1 => by
    rw [sumTo_succ, sumTo_const t n, Int.natCast_add, Int.add_mul]
    simp
theorem sumTo_add (f : Int → Int) (n : Nat) : ∀ m : Nat, sumTo (n + m) f = sumTo n f + sumTo m (fun k => f (n + k))
  | 0 => by simp [sumTo]
  | m + 1 => by
    rw [← Nat.add_assoc, sumTo_succ, sumTo_succ, sumTo_add f n m, Int.natCast_add, Int.add_assoc]
theorem sumTo_congr {f g : Int → Int} : ∀ n : Nat, (∀ i : Nat, i < n → f i = g i) → sumTo n f = sumTo n g
  | 0, _ => rfl
  | n + 1, h => by
    rw [sumTo_succ, sumTo_succ, sumTo_congr n (fun i hi => h i (by omega)), h n (by omega)]
theorem sumTo_thick : ∀ (ps : List (Int × Int)) (n : Nat), (∀ p ∈ ps, 1 ≤ p.2) → longs ps ≤ n → sumTo n (thickAt ps) = weigh ps
  | [], n, _, _ => by
    rw [show thickAt [] = fun _ => 0 from funext fun _ => rfl, sumTo_const]
    simp [weigh]
  | (t, g) :: r, n, h, hl => by
    have hg : 1 ≤ g := h (t, g) (by simp)
    rw [longs_cons] at hl
    have hl : g + longs r ≤ n := hl
    have h0 := longs_nonneg (ps := r) fun x hx => h x (by simp [hx])
    obtain ⟨G, rfl⟩ : ∃ G : Nat, g = G := ⟨g.toNat, by omega⟩
    obtain ⟨m, rfl⟩ : ∃ m : Nat, n = G + m := ⟨n - G, by omega⟩
    rw [sumTo_add, weigh_cons]
    have ih := sumTo_thick r m (fun x hx => h x (by simp [hx])) (by omega)
    have e1 : sumTo G (thickAt ((t, (G : Int)) :: r)) = G * t := by
      rw [← sumTo_const t G]
      refine sumTo_congr G fun i hi => ?_
      show (if (i : Int) < G then t else _) = t
      rw [if_pos (by omega)]
    have e2 : sumTo m (fun k => thickAt ((t, (G : Int)) :: r) (G + k)) = sumTo m (thickAt r) := by
      refine sumTo_congr m fun i _ => ?_
      show (if (G : Int) + i < G then t else thickAt r ((G : Int) + i - G)) = thickAt r i
      rw [if_neg (by omega), show (G : Int) + i - G = i by omega]
    rw [e1, e2, ih, Int.mul_comm]
theorem take_map_succ {α β : Type} {l : List α} {i : Nat} {x : α} (f : α → β) (h : l[i]? = some x) : (l.take (i + 1)).map f = (l.take i).map f ++ [f x] := by
  rw [List.take_add_one, h, List.map_append]
  rfl
theorem longs_take {ps : List (Int × Int)} {i : Nat} {t g : Int} (h : ps[i]? = some (t, g)) : longs (ps.take (i + 1)) = longs (ps.take i) + g := by
  unfold longs
  rw [take_map_succ _ h, List.sum_append]
  simp
theorem Same.wisp {H H' : Hp} {a : Addr} {s : Int} {ps : List (Int × Int)} (e : Same H H') (h : WispAt H a s ps) : WispAt H' a s ps := h.mono (Tups.same e)
theorem same_new {H H1 : Hp} {p : Addr} {o : HO} (k : Same H H1) (h : H1 p = none) : Same H (upd H1 p o) := fun b x e => by
  have e1 := k b x e
  rw [upd_ne (ne_of_none e1 h)]
  exact e1
theorem same_mine {H H1 : Hp} {p : Addr} {o : HO} (k : Same H H1) (h : H p = none) : Same H (upd H1 p o) := fun b x e => by
  rw [upd_ne (ne_of_none e h)]
  exact k b x e
theorem Same.free' {H H' : Hp} (e : Same H H') {l : Addr} (h : H' l = none) : H l = none := Same.free e h
theorem mul_ok {ps : List (Int × Int)} (h : Good ps) {i : Nat} {t g : Int} (e : ps[i]? = some (t, g)) : CMulW t g := by
  obtain ⟨_, _, h3⟩ := h
  have := h3 (t, g) (List.mem_of_getElem? e)
  refine wide_mul (a := 200) (b := 200) ?_ ?_ (by decide) (by decide) (by decide)
  · have h1 : t < 2 ^ 200 := this.2.1
    have h0 : 1 ≤ t := this.1
    have h2 : (t.natAbs : Int) = t := by omega
    have h3 : (t.natAbs : Int) < ((2 ^ 200 : Nat) : Int) := by rw [h2]; exact h1
    exact Int.ofNat_lt.mp h3
  · have h1 : g < 2 ^ 200 := this.2.2.2
    have h0 : 1 ≤ g := this.2.2.1
    have h2 : (g.natAbs : Int) = g := by omega
    have h3 : (g.natAbs : Int) < ((2 ^ 200 : Nat) : Int) := by rw [h2]; exact h1
    exact Int.ofNat_lt.mp h3
def spLen : Sp := fun vs H Q _ => ∃ (a : Addr) (s : Int) (ps : List (Int × Int)), vs = [.ref a] ∧ WispAt H a s ps ∧ Good ps ∧ ∀ H', Same H H' → Q (.int (longs ps)) H'
def spWeight : Sp := fun vs H Q _ => ∃ (a : Addr) (s : Int) (ps : List (Int × Int)), vs = [.ref a] ∧ WispAt H a s ps ∧ Good ps ∧ ∀ H', Same H H' → Q (.int (weigh ps)) H'
def spThick : Sp := fun vs H Q _ => ∃ (a : Addr) (s : Int) (ps : List (Int × Int)) (k : Int), vs = [.ref a, .int k] ∧ WispAt H a s ps ∧ Q (.int (thickAt ps k)) H
def TableAt (H : Hp) (o : Addr) (ts : List (Int × Int × Int)) : Prop := ∃ as, H o = some (.lst (as.map V.ref)) ∧ TupsAt H as (ts.map rowV)
def spTable : Sp := fun vs H Q _ => ∃ (a : Addr) (s : Int) (ps : List (Int × Int)), vs = [.ref a] ∧ WispAt H a s ps ∧ ps.length ≤ 10 ∧ ∀ H' o, Same H H' → H o = none → TableAt H' o (tableOf 0 ps) → Q (.ref o) H'
def spStrong : Sp := fun vs H Q _ => ∃ (a : Addr) (s : Int) (ps : List (Int × Int)) (k : Int), vs = [.ref a, .int k] ∧ WispAt H a s ps ∧ Good ps ∧ 0 ≤ k ∧ ∀ H', Same H H' → Q (.int (thickAt ps k)) H'
def spSpots : Sp := fun vs H Q _ => ∃ (p l : Addr) (T : Nat) (a : Addr) (s : Int) (ps : List (Int × Int)), vs = [.ref p, .ref a] ∧ Pot H p l T ∧ T < 2 ^ 38 ∧ WispAt H a s ps ∧ Good ps ∧
  ∀ (H' : Hp) (o : Addr) (ns : List Int), Pot H' p l (T + 10) → Keep p l H H' → H o = none → H' o = some (.lst (ns.map V.int)) → (∀ n ∈ ns, (0 : Int) ≤ n) → ns.length ≤ 100 → Q (.ref o) H'
theorem row_get {H : Hp} {as : List Addr} {ts : List (Int × Int × Int)} (h : TupsAt H as (ts.map rowV)) {i : Nat} {v : V} (e : (as.map V.ref)[i]? = some v) : ∃ a b c d, v = .ref a ∧ ts[i]? = some (b, c, d) ∧ H a = some (.tup [.int b, .int c, .int d]) := by
  obtain ⟨a, xs, h1, _, h2, h3⟩ := h.get e
  rw [List.getElem?_map] at h2
  cases q : ts[i]? with
  | none =>
    rw [q] at h2
    cases h2
  | some p =>
    rw [q] at h2
    have e' : rowV p = xs := Option.some.inj h2
    subst e'
    exact ⟨a, p.1, p.2.1, p.2.2, h1, rfl, h3⟩
theorem yesIte {σ : L2.St} {H : Hp} {A B : Hp → Prop} (h : A H) : tYes σ H (fun b H3 => if b = true then A H3 else B H3) := by
  show if true = true then A H else B H
  rw [if_pos rfl]
  exact h
def spRight : Sp := fun vs H Q _ => ∃ (p l : Addr) (T : Nat) (a : Addr) (s : Int) (ps : List (Int × Int)) (small : Bool), vs = [.ref p, .ref a, .bl small] ∧ Pot H p l T ∧ T < 2 ^ 37 ∧ WispAt H a s ps ∧ Good ps ∧ (small = true → Small ps) ∧
  ∀ (H' : Hp), Pot H' p l (T + 15) → Keep p l H H' → Q (.bl true) H'
theorem Pot.same {H H' : Hp} {p l : Addr} {T : Nat} (h : Pot H p l T) (e : Same H H') : Pot H' p l T := by
  obtain ⟨ns, c, m, t, h1, h2, h3⟩ := h
  exact ⟨ns, c, m, t, e _ _ h1, e _ _ h2, h3⟩
theorem Same.keep {p l : Addr} {H H' : Hp} (e : Same H H') : Keep p l H H' := fun c o _ _ h => e c o h
theorem WispAt.keep {p l : Addr} {H H' : Hp} {T : Nat} {a : Addr} {s : Int} {ps : List (Int × Int)} (h : WispAt H a s ps) (k : Keep p l H H') (hp : Pot H p l T) : WispAt H' a s ps := h.mono (k.tups hp)
theorem longs_small : ∀ {ps : List (Int × Int)}, Small ps → longs ps ≤ 3 * ps.length
  | [], _ => by decide
  | p :: r, h => by
    have h1 := h p (by simp)
    have h2 := longs_small (ps := r) fun x hx => h x (by simp [hx])
    rw [longs_cons, List.length_cons]
    omega
theorem table_last : ∀ (ps : List (Int × Int)) (b : Int), ps ≠ [] → ∃ b' t, (tableOf b ps).getLast? = some (b', b + longs ps, t)
  | [], _, h => absurd rfl h
  | [(t, g)], b, _ => ⟨b, t, by
    show some (b, b + g, t) = some (b, b + longs [(t, g)], t)
    rw [longs_cons]
    show some (b, b + g, t) = some (b, b + (g + 0), t)
    rw [Int.add_zero]⟩
  | (t, g) :: x :: r, b, _ => by
    obtain ⟨b', t', h⟩ := table_last (x :: r) (b + g) (by simp)
    refine ⟨b', t', ?_⟩
    have e : tableOf b ((t, g) :: x :: r) = (b, b + g, t) :: tableOf (b + g) (x :: r) := rfl
    have e2 : ∃ y ys, tableOf (b + g) (x :: r) = y :: ys := ⟨_, _, rfl⟩
    obtain ⟨y, ys, e2⟩ := e2
    rw [e, e2, List.getLast?_cons_cons, ← e2, h, longs_cons (p := (t, g)), Int.add_assoc]
theorem mulw_symm {i j : Int} (h : CMulW i j) : CMulW j i := by
  unfold CMulW at *
  omega
theorem iteNT {A B : Prop} (h : B) : if (!true) = true then A else B := by
  rw [if_neg (by decide)]
  exact h
def spLaw (K : PySem.W.Frag) : Sp := fun vs H Q _ => ∃ (a : Addr) (ns : List Int), vs = [.ref a] ∧ SqL K H a (ns.map V.int) ∧ ns.length ≤ 63 ∧ ∀ H', Q (.bl true) H'
/-! ### things made of tuples and whole numbers, looked at part by part -/
theorem lcZip {K : PySem.W.Frag} {a b : Addr} {xs ys : List V} {g : TG} {tt : TT} {te : TE} {us : List Nat} {σ : L2.St} {H1 : Hp} {D : Addr} {Qd : Hp → Prop} (hl : xs.length = ys.length) (Pv : Nat → Hp → Prop) (h0 : Pv 0 (upd H1 D (.lst []))) (hq : ∀ i H, Pv i H → SqT K H a xs ∧ SqT K H b ys)
    (hs : ∀ i x y T H, xs[i]? = some x → ys[i]? = some y → H T = none → Pv i H → g (.ref T) (wipe σ us) (upd H T (.tup [x, y])) fun σ2 H2 => wipe σ2 us = wipe σ us ∧ tt σ2 H2 fun c H3 =>
      if c = true then te σ2 H3 fun y H4 => ∃ acc, H4 D = some (.lst acc) ∧ acc.length < sizeLine ∧ Pv (i + 1) (upd H4 D (.lst (acc ++ [y]))) else Pv (i + 1) H3) (hd : ∀ H, Pv xs.length H → Qd H) :
    ∃ W : Nat → Nat → Hp → Prop, (∃ m, W 0 m (upd H1 D (.lst []))) ∧ ∀ i m H, W i m H →
      ((RZ.ItzT K a b).stop i H ∧ Qd H) ∨ ((RZ.ItzT K a b).go i H ∧ ∃ Nx : Hp → Prop, (∀ H', Nx H' → ∃ m', m' < m ∧ W (i + 1) m' H') ∧ ∀ x H', (RZ.ItzT K a b).yld i H x H' → g x (wipe σ us) H' fun σ2 H2 => wipe σ2 us = wipe σ us ∧ tt σ2 H2 fun c H3 =>
        if c = true then te σ2 H3 fun y H4 => ∃ acc, H4 D = some (.lst acc) ∧ acc.length < sizeLine ∧ Nx (upd H4 D (.lst (acc ++ [y]))) else Nx H3) := by
  refine ⟨fun i m H => i + m = xs.length ∧ Pv i H, ⟨xs.length, Nat.zero_add _, h0⟩, fun i m H ⟨em, p⟩ => ?_⟩
  obtain ⟨q1, q2⟩ := hq i H p
  by_cases hi : i < xs.length
  · have g1 : xs[i]? = some xs[i] := List.getElem?_eq_getElem hi
    have g2 : ys[i]? = some (ys[i]'(by omega)) := List.getElem?_eq_getElem (by omega)
    refine .inr ⟨⟨xs, ys, _, _, q1, q2, g1, g2⟩, Pv (i + 1), fun H' p' => ⟨m - 1, by omega, by omega, p'⟩, fun v H' hy => ?_⟩
    obtain ⟨T, x, y, rfl, nT, rfl, f1, f2⟩ := hy
    exact hs i x y T H (f1 _ q1) (f2 _ q2) nT p
  · have e : i = xs.length := by omega
    subst e
    exact .inl ⟨⟨xs, ys, q1, q2, .inl (Nat.le_refl _)⟩, hd H p⟩
theorem sqt_ty {K : PySem.W.Frag} {H : Hp} {a : Addr} {xs : List V} (h : SqT K H a xs) : TyX K H (.ref a) (.type "tuple") := by
  rcases h with (h | ⟨o, h⟩) | ⟨o, its, n, hk, hc, _⟩
  · exact .base (.tup h)
  · exact .fTuple h
  · exact .kTuple hk hc
theorem Same.sqt {K : PySem.W.Frag} {H H' : Hp} {a : Addr} {xs : List V} (e : Same H H') (h : SqT K H a xs) : SqT K H' a xs := by
  rcases h with (h | ⟨o, h⟩) | h
  · exact .inl (.inl (e _ _ h))
  · exact .inl (.inr ⟨o, e _ _ h⟩)
  · exact .inr h
inductive TI : PyData → Prop where
  | int (i : Int) : TI (.int i)
  | tup {xs : List PyData} (h : ∀ x ∈ xs, TI x) (hl : xs.length ≤ 5000) : TI (.tuple xs)
theorem depth_mem : ∀ {xs : List PyData} {x : PyData}, x ∈ xs → x.depth ≤ PyData.depthAll xs
  | y :: r, x, h => by
    show x.depth ≤ max y.depth (PyData.depthAll r)
    rcases List.mem_cons.mp h with rfl | h
    · exact Nat.le_max_left _ _
    · exact Nat.le_trans (depth_mem h) (Nat.le_max_right _ _)
mutual
theorem Dp.same {K : PySem.W.Frag} {H H' : Hp} (e : Same H H') : ∀ {v : V} (d : PyData), Dp K H v d → Dp K H' v d
  | _, .none, .non => .non
  | _, .bool _, .bl _ => .bl _
  | _, .int _, .int _ => .int _
  | _, .str _, .str _ => .str _
  | _, .list ds, .lst h a => .lst (e.seq h) (DpAll.same e ds a)
  | _, .tuple ds, .tup h a => .tup (Same.sqt e h) (DpAll.same e ds a)
theorem DpAll.same {K : PySem.W.Frag} {H H' : Hp} (e : Same H H') : ∀ {vs : List V} (ds : List PyData), DpAll K H vs ds → DpAll K H' vs ds
  | _, [], .nil => .nil
  | _, d :: ds, .cons h a => .cons (Dp.same e d h) (DpAll.same e ds a)
end
theorem DpAll.len {K : PySem.W.Frag} {H : Hp} : ∀ {vs : List V} {ds : List PyData}, DpAll K H vs ds → vs.length = ds.length
  | _, _, .nil => rfl
  | _, _, .cons _ a => congrArg (· + 1) (DpAll.len a)
theorem DpAll.at {K : PySem.W.Frag} {H : Hp} : ∀ {vs : List V} {ds : List PyData} {i : Nat} {v : V}, DpAll K H vs ds → vs[i]? = some v → ∃ d, ds[i]? = some d ∧ Dp K H v d
  | _, _, _, _, .nil, h => by simp at h
  | _, _, 0, v, .cons h a, e => ⟨_, rfl, by have e' := Option.some.inj e; rw [← e']; exact h⟩
  | _, _, i + 1, v, .cons h a, e => DpAll.at (i := i) a e
def spSame (K : PySem.W.Frag) (n : Nat) : Sp := fun vs H Q _ => ∃ (x y : V) (d : PyData), vs = [x, y] ∧ TI d ∧ d.depth < n ∧ Dp K H x d ∧ Dp K H y d ∧ ∀ H', Same H H' → Q (.bl true) H'
def wispD (s : Int) (ps : List (Int × Int)) : PyData := .tuple [.int s, .tuple (ps.map fun p => .tuple [.int p.1, .int p.2])]
theorem wisp_ti {s : Int} {ps : List (Int × Int)} (h : ps.length ≤ 5000) : TI (wispD s ps) := by
  refine .tup (fun x hx => ?_) (by show 2 ≤ 5000; decide)
  simp only [List.mem_cons, List.not_mem_nil, or_false] at hx
  rcases hx with rfl | rfl
  · exact .int _
  · refine .tup (fun x hx => ?_) (by rw [List.length_map]; exact h)
    obtain ⟨p, _, rfl⟩ := List.mem_map.mp hx
    refine .tup (fun x hx => ?_) (by show 2 ≤ 5000; decide)
    simp only [List.mem_cons, List.not_mem_nil, or_false] at hx
    rcases hx with rfl | rfl
    · exact .int _
    · exact .int _
theorem wisp_depth (s : Int) (ps : List (Int × Int)) : (wispD s ps).depth ≤ 3 := by
  have h : PyData.depthAll (ps.map fun p => PyData.tuple [.int p.1, .int p.2]) ≤ 1 := by
    induction ps with
    | nil => decide
    | cons p r ih => exact Nat.max_le.mpr ⟨by show max 0 (max 0 0) + 1 ≤ 1; decide, ih⟩
  show max 0 (max (PyData.depthAll (ps.map fun p => PyData.tuple [.int p.1, .int p.2]) + 1) 0) + 1 ≤ 3
  omega
theorem tups_dp {K : PySem.W.Frag} {H : Hp} : ∀ {as : List Addr} {ps : List (Int × Int)}, TupsAt H as (ps.map stepV) → DpAll K H (as.map V.ref) (ps.map fun p => .tuple [.int p.1, .int p.2])
  | [], [], _ => .nil
  | [], p :: r, h => absurd h.1 (by simp)
  | a :: r, [], h => absurd h.1 (by simp)
  | a :: as, p :: ps, h => by
    obtain ⟨xs, h1, h2⟩ := h.2 0 a rfl
    have e : stepV p = xs := Option.some.inj h1
    subst e
    exact .cons (.tup (SqT.of h2) (.cons (.int _) (.cons (.int _) .nil))) (tups_dp ⟨Nat.succ.inj (by simpa using h.1), fun i b hb => h.2 (i + 1) b hb⟩)
theorem WispAt.dp {K : PySem.W.Frag} {H : Hp} {a : Addr} {s : Int} {ps : List (Int × Int)} (h : WispAt H a s ps) : Dp K H (.ref a) (wispD s ps) := by
  obtain ⟨st, as, h1, h2, h3⟩ := h
  exact .tup (SqT.of h1) (.cons (.int s) (.cons (.tup (SqT.of h2) (tups_dp h3)) .nil))
/-! ### how long what repr tells is -/
/-- all numbers of a thing are below 2 ^ 400 -/
inductive Sh : PyData → Prop where
  | non : Sh .none
  | bl (b : Bool) : Sh (.bool b)
  | int {i : Int} (h : i.natAbs.log2 < 400) : Sh (.int i)
  | lst {xs : List PyData} (h : ∀ x ∈ xs, Sh x) : Sh (.list xs)
  | tup {xs : List PyData} (h : ∀ x ∈ xs, Sh x) : Sh (.tuple xs)
theorem sh_all {xs : List PyData} (h : ∀ x ∈ xs, x.showable = true ∧ x.hasDict = false ∧ x.leavesShort 401 = true) : PyData.showableAll xs = true ∧ PyData.hasDictAll xs = false ∧ PyData.leavesShortAll 401 xs = true := by
  induction xs with
  | nil => exact ⟨rfl, rfl, rfl⟩
  | cons x r ih =>
    obtain ⟨h1, h2, h3⟩ := h x (by simp)
    obtain ⟨g1, g2, g3⟩ := ih fun y hy => h y (by simp [hy])
    refine ⟨?_, ?_, ?_⟩
    · show (x.showable && PyData.showableAll r) = true
      rw [h1, g1]
      rfl
    · show (x.hasDict || PyData.hasDictAll r) = false
      rw [h2, g2]
      rfl
    · show (x.leavesShort 401 && PyData.leavesShortAll 401 r) = true
      rw [h3, g3]
      rfl
theorem Sh.ok {d : PyData} (h : Sh d) : d.showable = true ∧ d.hasDict = false ∧ d.leavesShort 401 = true := by
  induction h with
  | non => exact ⟨rfl, rfl, rfl⟩
  | bl b => exact ⟨rfl, rfl, rfl⟩
  | int h =>
    refine ⟨decide_eq_true (by omega), rfl, decide_eq_true ?_⟩
    have := int_text_length_le (by decide) h
    show (Str.ofString (toString _)).length ≤ 401
    rw [PySem.ofString_length]
    exact this
  | lst _ ih => exact sh_all ih
  | tup _ ih => exact sh_all ih
theorem Sh.fits {d : PyData} (h : Sh d) (hb : d.bulk ≤ 20000) : d.shown.length ≤ sizeLine := by
  have h1 := PyData.shown_le_bulk 401 (by decide) d h.ok.2.2
  have h2 : (401 + 2) * d.bulk ≤ (401 + 2) * 20000 := Nat.mul_le_mul_left _ hb
  rw [sizeLine_eq]
  omega
theorem log_lt {i : Int} (h0 : 0 ≤ i) (h : i < 2 ^ 250) : i.natAbs.log2 < 400 := by
  by_cases hz : i.natAbs = 0
  · rw [hz]
    decide
  · have h2 : (i.natAbs : Int) = i := by omega
    have h3 : (i.natAbs : Int) < ((2 ^ 250 : Nat) : Int) := by rw [h2]; exact h
    have h4 : i.natAbs < 2 ^ 250 := Int.ofNat_lt.mp h3
    have := (Nat.log2_lt hz).mpr h4
    omega
theorem sh_nat {i : Int} (h0 : 0 ≤ i) (h : i < 2 ^ 200) : Sh (.int i) := .int (log_lt h0 (Int.lt_trans h (by decide)))
theorem wisp_sh {s : Int} {ps : List (Int × Int)} (h0 : 0 ≤ s) (h1 : s ≤ 1) (g : Good ps) : Sh (wispD s ps) := by
  refine .tup fun x hx => ?_
  simp only [List.mem_cons, List.not_mem_nil, or_false] at hx
  rcases hx with rfl | rfl
  · exact sh_nat h0 (Int.lt_of_le_of_lt h1 (by decide))
  · refine .tup fun x hx => ?_
    obtain ⟨p, hp, rfl⟩ := List.mem_map.mp hx
    have hg := g.2.2 p hp
    refine .tup fun x hx => ?_
    simp only [List.mem_cons, List.not_mem_nil, or_false] at hx
    rcases hx with rfl | rfl
    · exact sh_nat (by omega) hg.2.1
    · exact sh_nat (by omega) hg.2.2.2
theorem wisp_bulk (s : Int) (ps : List (Int × Int)) : (wispD s ps).bulk ≤ 3 * ps.length + 2 := by
  have h : PyData.bulkAll (ps.map fun p => PyData.tuple [.int p.1, .int p.2]) = 3 * ps.length := by
    induction ps with
    | nil => rfl
    | cons p r ih =>
      show (0 + 1 + (0 + 1 + 0)) + 1 + PyData.bulkAll (r.map fun p => PyData.tuple [.int p.1, .int p.2]) = 3 * (r.length + 1)
      rw [ih]
      omega
  show 0 + 1 + (PyData.bulkAll (ps.map fun p => PyData.tuple [.int p.1, .int p.2]) + 1 + 0) ≤ 3 * ps.length + 2
  omega
theorem last_row {H : Hp} {as : List Addr} {ps : List (Int × Int)} (tu : TupsAt H as ((tableOf 0 ps).map rowV)) (gd : 1 ≤ ps.length) : ∃ z b t, atI (as.map V.ref) (-1) = some (.ref z) ∧ H z = some (.tup [.int b, .int (longs ps), .int t]) := by
  have hne : ps ≠ [] := fun e => by
    rw [e] at gd
    exact absurd gd (by decide)
  obtain ⟨b', t', hl⟩ := table_last ps 0 hne
  rw [Int.zero_add, List.getLast?_eq_getElem?] at hl
  have hlen : as.length = (tableOf 0 ps).length := by
    have := tu.1
    rw [List.length_map] at this
    exact this
  have hpos : 0 < (tableOf 0 ps).length := by
    rw [table_len]
    omega
  have hi : (tableOf 0 ps).length - 1 < as.length := by omega
  have e1 : (as.map V.ref)[(tableOf 0 ps).length - 1]? = some (.ref as[(tableOf 0 ps).length - 1]) := by
    rw [List.getElem?_map, List.getElem?_eq_getElem hi]
    rfl
  obtain ⟨z, b, c, d, e2, e3, e4⟩ := row_get tu e1
  rw [hl] at e3
  have e5 := Option.some.inj e3
  obtain ⟨e6, e7⟩ := Prod.mk.inj e5
  obtain ⟨e8, e9⟩ := Prod.mk.inj e7
  rw [← e6, ← e8, ← e9] at e4
  refine ⟨z, b', t', ?_, e4⟩
  have h0 : as.map V.ref ≠ [] := fun e => by
    have := congrArg List.length e
    rw [List.length_map, hlen] at this
    have this : (tableOf 0 ps).length = 0 := this
    omega
  have h2 : (as.map V.ref).getLast h0 = .ref z := by
    have := List.getLast?_eq_getLast h0
    rw [List.getLast?_eq_getElem?, List.length_map, hlen, e1] at this
    exact (Option.some.inj this).symm.trans e2
  have h1 := List.dropLast_concat_getLast h0
  rw [h2] at h1
  rw [← h1]
  exact atI_last _ _
theorem longs_lt {ps : List (Int × Int)} (g : Good ps) : longs ps < 2 ^ 204 := by
  have h : ∀ qs : List (Int × Int), (∀ p ∈ qs, p.2 < 2 ^ 200) → longs qs ≤ qs.length * 2 ^ 200 := by
    intro qs
    induction qs with
    | nil => intro _; decide
    | cons p r ih =>
      intro hq
      have h1 := hq p (by simp)
      have h2 := ih fun x hx => hq x (by simp [hx])
      rw [longs_cons, List.length_cons, Int.natCast_add, Int.add_mul]
      have h3 : ((1 : Nat) : Int) * 2 ^ 200 = 2 ^ 200 := by decide
      rw [h3]
      omega
  have h1 := h ps fun p hp => (g.2.2 p hp).2.2.2
  have h2 : (ps.length : Int) * 2 ^ 200 ≤ 10 * 2 ^ 200 := Int.mul_le_mul_of_nonneg_right (by have := g.2.1; omega) (by decide)
  have h3 : (10 : Int) * 2 ^ 200 < 2 ^ 204 := by decide
  omega
theorem fit_of {b : Int} (h0 : 1 ≤ b) (h : b < 2 ^ 210) : CDivW 0 b := by
  refine wide_div (b := 210) (by omega) ?_ (by decide) (by decide)
  have h2 : (b.natAbs : Int) = b := by omega
  have h3 : (b.natAbs : Int) < ((2 ^ 210 : Nat) : Int) := by rw [h2]; exact h
  exact Int.ofNat_lt.mp h3
def spRightG : Sp := fun vs H Q _ => ∃ (p l : Addr) (T : Nat) (a : Addr) (s : Int) (ps : List (Int × Int)), vs = [.ref p, .ref a] ∧ Pot H p l T ∧ T < 2 ^ 36 ∧ WispAt H a s ps ∧ Good ps ∧ 0 ≤ s ∧ s ≤ 1 ∧
  ∀ (H' : Hp), Pot H' p l (T + 2000) → Keep p l H H' → Q (.bl true) H'
theorem int_get {ns : List Int} {i : Nat} {x : V} (h : (ns.map V.int)[i]? = some x) : ∃ n, x = .int n ∧ ns[i]? = some n := by
  rw [List.getElem?_map] at h
  cases q : ns[i]? with
  | none =>
    rw [q] at h
    cases h
  | some n =>
    rw [q] at h
    exact ⟨n, (Option.some.inj h).symm, rfl⟩
theorem filter_take_succ {α : Type} {l : List α} {i : Nat} {x : α} (p : α → Bool) (h : l[i]? = some x) : (l.take (i + 1)).filter p = (l.take i).filter p ++ (if p x = true then [x] else []) := by
  rw [List.take_add_one, h, List.filter_append]
  show _ ++ List.filter p [x] = _
  rw [List.filter_cons]
  rfl
/-! ### max(numbers, default=d) -/
section
variable {prog : Program} {w : World} {A : Around} {R : Result → Shared → Prop} {I : Addr} {fp wr : List Addr} {n : Nat} {P : Nat → Value → Prop} {St : Nat → Heap → Prop}
theorem maxLoopD (W : Walks prog w A.in1 I fp wr n P St) (bt : Nat → Nat → Bool) (cm : CmpOf prog w A.in1 .Gt P bt) (S : Addr) (nS : S ∉ fp) (dv : Value) : ∀ (k j : Nat) (t : Shared) (vb : Value) (c : Nat), n - (j + 1) = k → j + 1 ≤ n → St (j + 1) t.heap → P (argBest bt j) vb →
    t.heap.get? S = some { cls := .type "list", dict := none, data := .seq #[vb, vb] c, slots := #[] } → (∀ v h' tk, P (argBest bt (n - 1)) v → (∀ b o, b ∉ wr → b ≠ S → t.heap.get? b = some o → h'.get? b = some o) → R (.ok (.ret v)) { t with heap := h', toks := tk }) →
    codeAny (model prog w) A (.builtin "max.loop" ⟨[.ref I, .none, .ref S], [("default", dv)]⟩) R t := by
  have nW : S ∉ wr := fun h => nS (W.sub _ h)
  have nm : (toString "max" ++ toString ".loop" : String) = "max.loop" := by decide
  intro k
  induction k with
  | zero =>
    intro j t vb c ek hj st pb eS r
    have en : j + 1 = n := by omega
    refine codeAny_builtin F.entry_max_loop ?_
    rw [Around.under_plainId F.plain_max_loop _]
    refine wpAny_bind (wpAny_seqItems eS rfl (wpAny_bind (wpAny_tryCatch (W.done t _ _ (en ▸ st) fun h' tk ke => ?_))))
    refine wpAny_bind (wpAny_updateSeq (ke S _ nW eS) rfl (wpAny_bind (wpAny_letGo (wpAny_pure ?_))))
    exact r vb _ tk (by rw [← en]; exact pb) fun b o nb nb2 e => (Heap.get?_update_other _ _ (Ne.symm nb2)).trans (ke b o nb e)
  | succ k ih =>
    intro j t vb c ek hj st pb eS r
    have hj2 : j + 1 < n := by omega
    refine codeAny_builtin F.entry_max_loop ?_
    rw [Around.under_plainId F.plain_max_loop _]
    refine wpAny_bind (wpAny_seqItems eS rfl (wpAny_bind (wpAny_tryCatch (W.item (j + 1) t _ _ hj2 st fun v h' tk pv st' ke => ?_))))
    have eS' := ke S _ nW eS
    show wpAny _ A.in1 (tryCatch (holding [v, v] (richCompare .Gt v vb >>= _)) _ >>= _) _ _ _
    refine wpAny_bind (wpAny_tryCatch (wpAny_holding (wpAny_bind (cm (j + 1) (argBest bt j) v vb _ _ _ pv pb (wpAny_bind (wpAny_holding (wpAny_truthy_bool (wpAny_bind (wpAny_letGo (wpAny_pure ?_))))))))))
    cases hb : bt (j + 1) (argBest bt j) with
    | true =>
      simp only [if_true]
      refine wpAny_bind (wpAny_updateSeq eS' rfl (wpAny_bind (wpAny_letGo ?_)))
      rw [nm]
      refine wpAny_pure ⟨plainId_quiet F.plain_max_loop _, ih (j + 1) _ v _ (by omega) hj2 (W.frame _ _ _ st' fun b fb o e => ?_) (by simp only [argBest, hb, if_true]; exact pv) (Heap.get?_update_self _ eS' rfl) fun v2 h2 tk2 p2 ke2 => ?_⟩
      · exact (Heap.get?_update_other _ _ (fun z : S = b => nS (by rw [z]; exact fb))).trans e
      · exact r v2 h2 tk2 p2 fun b o nb nb2 e => ke2 b o nb nb2 ((Heap.get?_update_other _ _ (Ne.symm nb2)).trans (ke b o nb e))
    | false =>
      simp only [Bool.false_eq_true, if_false]
      refine wpAny_bind (wpAny_letGo ?_)
      rw [nm]
      refine wpAny_pure ⟨plainId_quiet F.plain_max_loop _, ih (j + 1) _ vb c (by omega) hj2 st' (by simp only [argBest, hb, Bool.false_eq_true, if_false]; exact pb) eS' fun v2 h2 tk2 p2 ke2 => ?_⟩
      exact r v2 h2 tk2 p2 fun b o nb nb2 e => ke2 b o nb nb2 (ke b o nb e)
theorem maxFirstD (W : Walks prog w A.in1 I fp wr n P St) (bt : Nat → Nat → Bool) (cm : CmpOf prog w A.in1 .Gt P bt) (S : Addr) (nS : S ∉ fp) (dv : Value) {t : Shared} {c : Nat} (st : St 0 t.heap) (eS : t.heap.get? S = some { cls := .type "list", dict := none, data := .seq #[] c, slots := #[] })
    (r : ∀ v h' tk, (n = 0 ∧ v = dv ∨ 0 < n ∧ P (argBest bt (n - 1)) v) → (∀ b o, b ∉ wr → b ≠ S → t.heap.get? b = some o → h'.get? b = some o) → R (.ok (.ret v)) { t with heap := h', toks := tk }) :
    codeAny (model prog w) A (.builtin "max.loop" ⟨[.ref I, .none, .ref S], [("default", dv)]⟩) R t := by
  have nW : S ∉ wr := fun h => nS (W.sub _ h)
  have nm : (toString "max" ++ toString ".loop" : String) = "max.loop" := by decide
  refine codeAny_builtin F.entry_max_loop ?_
  rw [Around.under_plainId F.plain_max_loop _]
  by_cases hn : 0 < n
  · refine wpAny_bind (wpAny_seqItems eS rfl (wpAny_bind (wpAny_tryCatch (W.item 0 t _ _ hn st fun v h' tk pv st' ke => ?_))))
    have eS' := ke S _ nW eS
    show wpAny _ A.in1 (updateSeq S (fun _ => #[v, v]) >>= _) _ _ _
    refine wpAny_bind (wpAny_updateSeq eS' rfl ?_)
    rw [nm]
    refine wpAny_pure ⟨plainId_quiet F.plain_max_loop _, maxLoopD W bt cm S nS dv _ 0 _ v _ rfl hn (W.frame _ _ _ st' fun b fb o e => ?_) pv (Heap.get?_update_self _ eS' rfl) fun v2 h2 tk2 p2 ke2 => ?_⟩
    · exact (Heap.get?_update_other _ _ (fun z : S = b => nS (by rw [z]; exact fb))).trans e
    · exact r v2 h2 tk2 (.inr ⟨hn, p2⟩) fun b o nb nb2 e => ke2 b o nb nb2 ((Heap.get?_update_other _ _ (Ne.symm nb2)).trans (ke b o nb e))
  · have n0 : n = 0 := by omega
    refine wpAny_bind (wpAny_seqItems eS rfl (wpAny_bind (wpAny_tryCatch (W.done t _ _ (n0 ▸ st) fun h' tk ke => ?_))))
    refine wpAny_bind (wpAny_rule (wpAny_pure ?_))
    exact r dv h' tk (.inl ⟨n0, rfl⟩) fun b o nb _ e => ke b o nb e
end
theorem args_maxD (a d : Value) : argsOk "max" ⟨[a], [("default", d)]⟩ := by unfold argsOk; kernel_rfl
theorem maxD_walk {prog : Program} {w : World} {A : Around} {E : Value → Shared → Prop} {t : Shared} {x dv : Value} {Q : Value → Shared → Prop} (h : wpAny (model prog w) A.in1 (pyIter x) (fun it t2 => ∃ I fp wr n P St bt, it = .ref I ∧ Walks prog w A.in1 I fp wr n P St ∧ St 0 t2.heap ∧ (∀ b ∈ fp, b < t2.heap.objs.size) ∧ CmpOf prog w A.in1 .Gt P bt ∧
      ∀ v h' tk, (n = 0 ∧ v = dv ∨ 0 < n ∧ P (argBest bt (n - 1)) v) → (∀ b o, b ∉ wr → t2.heap.get? b = some o → h'.get? b = some o) → Q v { t2 with heap := h', toks := tk }) E t) : wpAny (model prog w) A (call (.builtin "max") [x] [("default", dv)]) Q E t := by
  have nm : (toString "max" ++ toString ".loop" : String) = "max.loop" := by decide
  refine PyProof.Rows.kmk_tree PySem.F.kind_max PySem.F.plain_max PySem.F.entry_max (args_maxD _ _) ?_
  refine wpAny_bind (wpAny_of_eq (show Builtin.Builtins.bindParams "max" ["key", "default"] 0 ⟨[], [(Str.ofString "default", dv)]⟩ = pure [none, some dv] from rfl) ?_)
  refine wpAny_bind (wpAny_pure (wpAny_bind (wpAny_mono h (fun it t2 h2 => ?_) fun _ _ e => e)))
  obtain ⟨I, fp, wr, n, P, St, bt, rfl, W, st, hfp, cm, r⟩ := h2
  refine wpAny_bind (wpAny_newObj_type ?_)
  have nS : t2.heap.objs.size ∉ fp := fun hm => Nat.lt_irrefl _ (hfp _ hm)
  rw [nm]
  refine wpAny_pure ⟨plainId_quiet F.plain_max_loop _, maxFirstD W bt cm t2.heap.objs.size nS dv (W.frame _ _ _ st fun b _ o e => Heap.get?_push_of_some _ e) (Heap.get?_push_size _ rfl) fun v h' tk hv hk => ?_⟩
  exact r v h' tk hv fun b o nb e => hk b o nb (Nat.ne_of_lt (Heap.lt_size e)) (Heap.get?_push_of_some _ e)
theorem maxD_raw {prog : Program} {w : World} {A : Around} {E : Value → Shared → Prop} {t : Shared} {l : Addr} {its : List Value} {ns : List Int} {dv : Value} {Q : Value → Shared → Prop} (hh : A.handled = none) (hl : t.heap.IsList l its.toArray) (hi : IntsAre its ns)
    (r : ∀ v h' tk, (∀ b o, t.heap.get? b = some o → h'.get? b = some o) → (ns = [] ∧ v = dv ∨ ∃ M u, v = .int M u ∧ M ∈ ns ∧ ∀ y, y ∈ ns → y ≤ M) → Q v { t with heap := h', toks := tk }) : wpAny (model prog w) A (call (.builtin "max") [.ref l] [("default", dv)]) Q E t := by
  obtain ⟨xs, e⟩ := hi.allInts.items
  have hn : numsOf (intItems xs).toList = ns := by rw [← e]; exact hi.numsOf
  rw [nums_intItems] at hn
  subst hn
  rw [e] at hl
  refine maxD_walk (iter_intList hl fun t2 e2 st hfp hlI => ?_)
  subst e2
  refine ⟨_, _, _, _, _, _, _, rfl, Walks.list (A := A.in1) hh _ l hlI (intItems xs), st, hfp, CmpOf.ints_gt (numAt xs) (fun _ _ => intItems_at), fun v h' tk hv hk => ?_⟩
  refine r v h' tk (old_kept hk) ?_
  rcases hv with ⟨h0, rfl⟩ | ⟨h0, hv⟩
  · refine .inl ⟨?_, rfl⟩
    have : xs.size = 0 := by simpa [intItems] using h0
    have : xs.toList = [] := List.eq_nil_of_length_eq_zero (by simpa using this)
    rw [this]
    rfl
  · have hs : 0 < xs.size := by simpa [intItems] using h0
    have hv : (intItems xs)[argBest (fun i j => decide (numAt xs i > numAt xs j)) (xs.size - 1)]? = some v := by simpa [intItems] using hv
    obtain ⟨u, rfl⟩ := intItems_at hv
    obtain ⟨h1, h2⟩ := argBest_gt (numAt xs) (xs.size - 1)
    refine .inr ⟨_, u, rfl, ?_, fun y hy => ?_⟩
    · rw [numAt_eq]
      exact PySem.getD_mem (by rw [List.length_map, Array.length_toList]; omega)
    · obtain ⟨j, hj, rfl⟩ := mem_getD hy
      rw [List.length_map, Array.length_toList] at hj
      rw [← numAt_eq]
      exact h2 j (by omega)
def rMaxD (K : PySem.W.Frag) : List V → List V → Hp → VK → Prop := fun xs zs H Q => ∃ (a : Addr) (ns : List Int) (d : Int), xs = [.ref a] ∧ zs = [.int d] ∧ SqL K H a (ns.map V.int) ∧ ∀ m, (ns = [] ∧ m = d ∨ m ∈ ns ∧ ∀ y, y ∈ ns → y ≤ m) → Q (.int m) H
theorem call_maxD {X : Cx} (hc : X.calm = true) : CallRK X (.builtin "max") ["default"] (rMaxD X.K) := by
  intro pins s σ H xs zs us ws Q I va vz h
  obtain ⟨a, ns, d, rfl, rfl, hs, q⟩ := h
  obtain ⟨its, rv, hl, _⟩ := I.list hs
  rw [Vals.ref1 va]
  cases vz with
  | cons r1 r2 =>
  cases r2
  obtain ⟨u, rfl⟩ := r1
  refine maxD_raw (I.ok.hd hc) hl.isList rv.ints fun v h' tk hk hv => ?_
  rcases hv with ⟨h0, rfl⟩ | ⟨M, u2, rfl, h1, h2⟩
  · exact ⟨.int d, H, I.kept hk, ⟨_, rfl⟩, q d (.inl ⟨h0, rfl⟩)⟩
  · exact ⟨.int M, H, I.kept hk, ⟨_, rfl⟩, q M (.inr ⟨h1, h2⟩)⟩
/-! ### laid wisps and strands -/
structure Lw where
  so : Int
  ps : List (Int × Int)
  pl : Int
  le : Option Int
def letV : Option Int → V
  | none => .non
  | some n => .int n
def LaidAt (H : Hp) (a : Addr) (L : Lw) : Prop := ∃ wa, H a = some (.tup [.ref wa, .int L.pl, letV L.le]) ∧ WispAt H wa L.so L.ps
theorem LaidAt.mono {H H' : Hp} {a : Addr} {L : Lw} (h : LaidAt H a L) (t : Tups H H') : LaidAt H' a L := by
  obtain ⟨wa, h1, h2⟩ := h
  exact ⟨wa, t _ _ h1, h2.mono t⟩
def LaidsAt (H : Hp) (as : List Addr) (Ls : List Lw) : Prop := as.length = Ls.length ∧ ∀ (i : Nat) (a : Addr), as[i]? = some a → ∃ L, Ls[i]? = some L ∧ LaidAt H a L
theorem LaidsAt.mono {H H' : Hp} {as : List Addr} {Ls : List Lw} (h : LaidsAt H as Ls) (t : Tups H H') : LaidsAt H' as Ls := ⟨h.1, fun i a e => by
  obtain ⟨L, h1, h2⟩ := h.2 i a e
  exact ⟨L, h1, h2.mono t⟩⟩
theorem LaidsAt.nil {H : Hp} : LaidsAt H [] [] := ⟨rfl, fun i a h => by simp at h⟩
theorem LaidsAt.snoc {H : Hp} {as : List Addr} {Ls : List Lw} {a : Addr} {L : Lw} (h : LaidsAt H as Ls) (e : LaidAt H a L) : LaidsAt H (as ++ [a]) (Ls ++ [L]) := by
  refine ⟨by simp [h.1], fun i b hb => ?_⟩
  by_cases hi : i < as.length
  · rw [List.getElem?_append_left hi] at hb
    obtain ⟨M, h1, h2⟩ := h.2 i b hb
    exact ⟨M, by rw [List.getElem?_append_left (by rw [← h.1]; exact hi)]; exact h1, h2⟩
  · rw [List.getElem?_append_right (by omega)] at hb
    have hz : i - as.length = 0 := by
      cases hk : i - as.length with
      | zero => rfl
      | succ n =>
        rw [hk] at hb
        simp at hb
    rw [hz] at hb
    have : a = b := Option.some.inj hb
    subst this
    refine ⟨L, ?_, e⟩
    rw [List.getElem?_append_right (by rw [← h.1]; omega), ← h.1, hz]
    rfl
theorem LaidsAt.take {H : Hp} {as : List Addr} {Ls : List Lw} (h : LaidsAt H as Ls) (n : Nat) : LaidsAt H (as.take n) (Ls.take n) := by
  refine ⟨by simp [h.1], fun i a e => ?_⟩
  rw [List.getElem?_take] at e
  by_cases hi : i < n
  · rw [if_pos hi] at e
    obtain ⟨L, h1, h2⟩ := h.2 i a e
    exact ⟨L, by rw [List.getElem?_take, if_pos hi]; exact h1, h2⟩
  · rw [if_neg hi] at e
    cases e
theorem LaidsAt.set {H : Hp} {as : List Addr} {Ls : List Lw} {a : Addr} {L : Lw} (h : LaidsAt H as Ls) (e : LaidAt H a L) (n : Nat) : LaidsAt H (as.set n a) (Ls.set n L) := by
  refine ⟨by simp [h.1], fun i b hb => ?_⟩
  have hi : i < as.length := by
    have := (List.getElem?_eq_some_iff.mp hb).1
    rw [List.length_set] at this
    exact this
  by_cases hn : n = i
  · subst hn
    rw [List.getElem?_set_self hi] at hb
    have : a = b := Option.some.inj hb
    subst this
    exact ⟨L, List.getElem?_set_self (by rw [← h.1]; exact hi), e⟩
  · rw [List.getElem?_set_ne hn] at hb
    obtain ⟨M, h1, h2⟩ := h.2 i b hb
    exact ⟨M, by rw [List.getElem?_set_ne hn]; exact h1, h2⟩
def StrandAt (H : Hp) (a : Addr) (Ls : List Lw) : Prop := ∃ as, H a = some (.tup (as.map V.ref)) ∧ LaidsAt H as Ls
theorem StrandAt.mono {H H' : Hp} {a : Addr} {Ls : List Lw} (h : StrandAt H a Ls) (t : Tups H H') : StrandAt H' a Ls := by
  obtain ⟨as, h1, h2⟩ := h
  exact ⟨as, t _ _ h1, h2.mono t⟩
theorem StrandAt.keep {p l : Addr} {H H' : Hp} {T : Nat} {a : Addr} {Ls : List Lw} (h : StrandAt H a Ls) (k : Keep p l H H') (hp : Pot H p l T) : StrandAt H' a Ls := h.mono (k.tups hp)
theorem laid_get {H : Hp} {as : List Addr} {Ls : List Lw} (h : LaidsAt H as Ls) {i : Nat} {v : V} (e : (as.map V.ref)[i]? = some v) : ∃ a L, v = .ref a ∧ as[i]? = some a ∧ Ls[i]? = some L ∧ LaidAt H a L := by
  rw [List.getElem?_map] at e
  cases q : as[i]? with
  | none =>
    rw [q] at e
    cases e
  | some a =>
    rw [q] at e
    obtain ⟨L, h1, h2⟩ := h.2 i a q
    exact ⟨a, L, (Option.some.inj e).symm, rfl, h1, h2⟩
def GoodL (L : Lw) : Prop := Good L.ps ∧ 0 ≤ L.so ∧ L.so ≤ 1 ∧ 0 ≤ L.pl ∧ L.pl < 2 ^ 130 ∧ ∀ n, L.le = some n → L.pl < n ∧ n < 2 ^ 206
/-- where a laid wisp is over -/
def clip (le : Option Int) (e : Int) : Int := match le with
  | none => e
  | some n => if n < e then n else e
def lastOf (L : Lw) : Int := clip L.le (L.pl + longs L.ps)
def partsOf (le : Option Int) : List (Int × Int) → Int → List (Int × Int × Int)
  | [], _ => []
  | (t, g) :: r, st => (if st < clip le (st + g) then [(st, clip le (st + g), t)] else []) ++ partsOf le r (clip le (st + g))
def lawParts (le : Option Int) : List (Int × Int) → Int → List (Int × Int × Int)
  | [], _ => []
  | (t, g) :: r, st => (if st < clip le (st + g) then [(st, clip le (st + g), t)] else []) ++ lawParts le r (st + g)
theorem clip_le {le : Option Int} {e : Int} : clip le e ≤ e := by
  cases le with
  | none => exact Int.le_refl _
  | some n =>
    show (if n < e then n else e) ≤ e
    split <;> omega
theorem clip_mono {le : Option Int} {e f : Int} (h : e ≤ f) : clip le e ≤ clip le f := by
  cases le with
  | none => exact h
  | some n =>
    show (if n < e then n else e) ≤ (if n < f then n else f)
    split <;> split <;> omega
theorem clip_clip {le : Option Int} {e g : Int} (hg : 0 ≤ g) : clip le (clip le e + g) = clip le (e + g) := by
  cases le with
  | none => rfl
  | some n =>
    show (if n < (if n < e then n else e) + g then n else (if n < e then n else e) + g) = if n < e + g then n else e + g
    (repeat' split) <;> omega
theorem clip_idem {le : Option Int} {e : Int} : clip le (clip le e) = clip le e := by
  cases le with
  | none => rfl
  | some n =>
    show (if n < (if n < e then n else e) then n else (if n < e then n else e)) = if n < e then n else e
    (repeat' split) <;> omega
/-- all parts end at or ahead of where the wisp is over -/
theorem parts_le {le : Option Int} : ∀ (ps : List (Int × Int)) (st : Int), (∀ p ∈ ps, 1 ≤ p.2) → ∀ x ∈ partsOf le ps st, x.2.1 ≤ clip le (st + longs ps)
  | [], _, _, x, h => by cases h
  | (t, g) :: r, st, hg, x, h => by
    have hg1 : 1 ≤ g := hg (t, g) (by simp)
    have hr : ∀ p ∈ r, 1 ≤ p.2 := fun x hx => hg x (by simp [hx])
    have h0 := longs_nonneg hr
    have h : x ∈ (if st < clip le (st + g) then [(st, clip le (st + g), t)] else []) ++ partsOf le r (clip le (st + g)) := h
    rw [longs_cons]
    show x.2.1 ≤ clip le (st + (g + longs r))
    rcases List.mem_append.mp h with h | h
    · by_cases hc : st < clip le (st + g)
      · rw [if_pos hc] at h
        simp only [List.mem_cons, List.not_mem_nil, or_false] at h
        subst h
        exact clip_mono (by omega)
      · rw [if_neg hc] at h
        cases h
    · have ih := parts_le r (clip le (st + g)) hr x h
      rw [clip_clip h0] at ih
      rw [← Int.add_assoc]
      exact ih
/-- one of them ends there -/
theorem parts_has {le : Option Int} : ∀ (ps : List (Int × Int)) (st : Int), (∀ p ∈ ps, 1 ≤ p.2) → st < clip le (st + longs ps) → ∃ x ∈ partsOf le ps st, x.2.1 = clip le (st + longs ps)
  | [], st, _, h => by
    have e : longs [] = 0 := rfl
    rw [e, Int.add_zero] at h
    have := clip_le (le := le) (e := st)
    omega
  | (t, g) :: r, st, hg, h => by
    have hg1 : 1 ≤ g := hg (t, g) (by simp)
    have hr : ∀ p ∈ r, 1 ≤ p.2 := fun x hx => hg x (by simp [hx])
    have h0 := longs_nonneg hr
    rw [longs_cons] at h ⊢
    have e1 : st + ((t, g).2 + longs r) = st + g + longs r := by
      show st + (g + longs r) = _
      omega
    rw [e1] at h ⊢
    have e2 : clip le (clip le (st + g) + longs r) = clip le (st + g + longs r) := clip_clip h0
    by_cases hc : clip le (st + g) < clip le (st + g + longs r)
    · obtain ⟨x, h1, h2⟩ := parts_has r (clip le (st + g)) hr (by rw [e2]; exact hc)
      refine ⟨x, List.mem_append_right _ h1, ?_⟩
      rw [h2, e2]
    · have e3 : clip le (st + g) = clip le (st + g + longs r) := by
        have := clip_mono (le := le) (e := st + g) (f := st + g + longs r) (by omega)
        omega
      refine ⟨(st, clip le (st + g), t), List.mem_append_left _ ?_, e3⟩
      rw [if_pos (by omega)]
      simp
/-- the law's own parts: the last one ends there -/
theorem law_nil {le : Option Int} : ∀ (ps : List (Int × Int)) (st : Int), (∀ p ∈ ps, 1 ≤ p.2) → clip le st < st ∨ (∃ n, le = some n ∧ n ≤ st) → lawParts le ps st = []
  | [], _, _, _ => rfl
  | (t, g) :: r, st, hg, h => by
    have hg1 : 1 ≤ g := hg (t, g) (by simp)
    have hr : ∀ p ∈ r, 1 ≤ p.2 := fun x hx => hg x (by simp [hx])
    have hn : ∃ n, le = some n ∧ n ≤ st := by
      rcases h with h | h
      · cases le with
        | none => exact absurd h (Int.lt_irrefl _)
        | some n =>
          refine ⟨n, rfl, ?_⟩
          have h : (if n < st then n else st) < st := h
          split at h <;> omega
      · exact h
    obtain ⟨n, rfl, hn⟩ := hn
    show (if st < clip (some n) (st + g) then _ else []) ++ lawParts (some n) r (st + g) = []
    rw [law_nil r (st + g) hr (.inr ⟨n, rfl, by omega⟩), if_neg]
    · rfl
    · show ¬ st < (if n < st + g then n else st + g)
      split <;> omega
theorem law_last {le : Option Int} : ∀ (ps : List (Int × Int)) (st : Int), ps ≠ [] → (∀ p ∈ ps, 1 ≤ p.2) → (∀ n, le = some n → st < n) → ∃ ys b t, lawParts le ps st = ys ++ [(b, clip le (st + longs ps), t)]
  | [], _, h, _, _ => absurd rfl h
  | (t, g) :: r, st, _, hg, hn => by
    have hg1 : 1 ≤ g := hg (t, g) (by simp)
    have hr : ∀ p ∈ r, 1 ≤ p.2 := fun x hx => hg x (by simp [hx])
    have h0 := longs_nonneg hr
    have hc : st < clip le (st + g) := by
      cases le with
      | none => show st < st + g; omega
      | some n =>
        have := hn n rfl
        show st < (if n < st + g then n else st + g)
        split <;> omega
    have e : lawParts le ((t, g) :: r) st = (st, clip le (st + g), t) :: lawParts le r (st + g) := by
      show (if st < clip le (st + g) then _ else []) ++ lawParts le r (st + g) = _
      rw [if_pos hc]
      rfl
    rw [e, longs_cons]
    have e1 : st + ((t, g).2 + longs r) = st + g + longs r := by
      show st + (g + longs r) = _
      omega
    rw [e1]
    by_cases hz : r = [] ∨ ∃ n, le = some n ∧ n ≤ st + g
    · have e2 : lawParts le r (st + g) = [] := by
        rcases hz with rfl | hz
        · rfl
        · exact law_nil r (st + g) hr (.inr hz)
      refine ⟨[], st, t, ?_⟩
      rw [e2]
      have e3 : clip le (st + g) = clip le (st + g + longs r) := by
        rcases hz with rfl | ⟨n, rfl, hz⟩
        · show clip le (st + g) = clip le (st + g + 0)
          rw [Int.add_zero]
        · show (if n < st + g then n else st + g) = if n < st + g + longs r then n else st + g + longs r
          split <;> split <;> omega
      rw [e3]
      rfl
    · have hr0 : r ≠ [] := fun z => hz (.inl z)
      have hn2 : ∀ n, le = some n → st + g < n := fun n e => by
        by_cases h : st + g < n
        · exact h
        · exact absurd (.inr ⟨n, e, by omega⟩) hz
      obtain ⟨ys, b, t', h⟩ := law_last r (st + g) hr0 hr hn2
      exact ⟨_ :: ys, b, t', by rw [h]; rfl⟩
theorem law_len {le : Option Int} : ∀ (ps : List (Int × Int)) (st : Int), (lawParts le ps st).length ≤ ps.length
  | [], _ => Nat.le_refl _
  | (t, g) :: r, st => by
    show ((if st < clip le (st + g) then [(st, clip le (st + g), t)] else []) ++ lawParts le r (st + g)).length ≤ r.length + 1
    rw [List.length_append]
    have := law_len (le := le) r (st + g)
    split
    · show 1 + _ ≤ _
      omega
    · show 0 + _ ≤ _
      omega
theorem part_len {le : Option Int} : ∀ (ps : List (Int × Int)) (st : Int), (partsOf le ps st).length ≤ ps.length
  | [], _ => Nat.le_refl _
  | (t, g) :: r, st => by
    show ((if st < clip le (st + g) then [(st, clip le (st + g), t)] else []) ++ partsOf le r (clip le (st + g))).length ≤ r.length + 1
    rw [List.length_append]
    have := part_len (le := le) r (clip le (st + g))
    split
    · show 1 + _ ≤ _
      omega
    · show 0 + _ ≤ _
      omega
/-- how thick a laid wisp is at a place -/
def thickL (L : Lw) (p : Int) : Int := if p < L.pl then 0 else match L.le with
  | none => thickAt L.ps (p - L.pl)
  | some n => if n ≤ p then 0 else thickAt L.ps (p - L.pl)
theorem thick_pos : ∀ (ps : List (Int × Int)) (k : Int), 0 ≤ k → (∀ p ∈ ps, 1 ≤ p.1 ∧ 1 ≤ p.2) → (0 < thickAt ps k ↔ k < longs ps)
  | [], k, h, _ => by
    have e : longs [] = 0 := rfl
    show (0 : Int) < 0 ↔ k < longs []
    omega
  | (t, g) :: r, k, h, hg => by
    have hg1 := hg (t, g) (by simp)
    have ht : 1 ≤ t := hg1.1
    have hgg : 1 ≤ g := hg1.2
    have hr : ∀ p ∈ r, 1 ≤ p.1 ∧ 1 ≤ p.2 := fun x hx => hg x (by simp [hx])
    have h0 := longs_nonneg fun x hx => (hr x hx).2
    rw [longs_cons]
    show 0 < (if k < g then t else thickAt r (k - g)) ↔ k < g + longs r
    by_cases hk : k < g
    · rw [if_pos hk]
      constructor <;> intro _ <;> omega
    · rw [if_neg hk, thick_pos r (k - g) (by omega) hr]
      omega
theorem thick_runs {L : Lw} (g : GoodL L) (p : Int) : 0 < thickL L p ↔ L.pl ≤ p ∧ p < lastOf L := by
  have hp : ∀ x ∈ L.ps, 1 ≤ x.1 ∧ 1 ≤ x.2 := fun x hx => ⟨(g.1.2.2 x hx).1, (g.1.2.2 x hx).2.2.1⟩
  unfold thickL lastOf clip
  by_cases h : p < L.pl
  · rw [if_pos h]
    omega
  · rw [if_neg h]
    have tp := thick_pos L.ps (p - L.pl) (by omega) hp
    cases q : L.le with
    | none =>
      show 0 < thickAt L.ps (p - L.pl) ↔ L.pl ≤ p ∧ p < L.pl + longs L.ps
      rw [tp]
      omega
    | some n =>
      show 0 < (if n ≤ p then 0 else thickAt L.ps (p - L.pl)) ↔ L.pl ≤ p ∧ p < (if n < L.pl + longs L.ps then n else L.pl + longs L.ps)
      by_cases h2 : n ≤ p
      · rw [if_pos h2]
        split <;> omega
      · rw [if_neg h2, tp]
        split <;> omega
theorem last_gt {L : Lw} (g : GoodL L) : L.pl < lastOf L := by
  have hp : ∀ x ∈ L.ps, 1 ≤ x.2 := fun x hx => (g.1.2.2 x hx).2.2.1
  have hl : 1 ≤ longs L.ps := by
    cases q : L.ps with
    | nil =>
      have := g.1.1
      rw [q] at this
      exact absurd this (by decide)
    | cons p r =>
      rw [q] at hp
      have h1 := hp p (by simp)
      have h2 := longs_nonneg (ps := r) fun x hx => hp x (by simp [hx])
      rw [longs_cons]
      omega
  unfold lastOf clip
  cases q : L.le with
  | none => show L.pl < L.pl + longs L.ps; omega
  | some n =>
    have := (g.2.2.2.2.2 n q).1
    show L.pl < (if n < L.pl + longs L.ps then n else L.pl + longs L.ps)
    split <;> omega
def spThickOf : Sp := fun vs H Q _ => ∃ (a : Addr) (L : Lw) (p : Int), vs = [.ref a, .int p] ∧ LaidAt H a L ∧ Q (.int (thickL L p)) H
def spPartsOf : Sp := fun vs H Q _ => ∃ (a : Addr) (L : Lw), vs = [.ref a] ∧ LaidAt H a L ∧ L.ps.length ≤ 10 ∧ ∀ H' o, Same H H' → H o = none → TableAt H' o (partsOf L.le L.ps L.pl) → Q (.ref o) H'
def spThicks : Sp := fun vs H Q _ => ∃ (a : Addr) (Ls : List Lw) (p : Int), vs = [.ref a, .int p] ∧ StrandAt H a Ls ∧ Ls.length ≤ 60 ∧ ∀ H' o, Same H H' → H o = none → H' o = some (.lst ((Ls.map fun L => thickL L p).map V.int)) → Q (.ref o) H'
def numsFrom : Nat → List Int → List Int
  | _, [] => []
  | k, x :: r => (if 0 < x then [(k : Int)] else []) ++ numsFrom (k + 1) r
theorem nums_snoc : ∀ (xs : List Int) (k : Nat) (x : Int), numsFrom k (xs ++ [x]) = numsFrom k xs ++ (if 0 < x then [((k + xs.length : Nat) : Int)] else [])
  | [], k, x => by
    show (if 0 < x then [(k : Int)] else []) ++ [] = [] ++ _
    rw [List.append_nil]
    rfl
  | y :: r, k, x => by
    show (if 0 < y then [(k : Int)] else []) ++ numsFrom (k + 1) (r ++ [x]) = (if 0 < y then [(k : Int)] else []) ++ numsFrom (k + 1) r ++ _
    rw [nums_snoc r (k + 1) x, List.append_assoc, show k + 1 + r.length = k + (y :: r).length by rw [List.length_cons]; omega]
theorem nums_nil : ∀ (xs : List Int) (k : Nat), (∀ x ∈ xs, ¬ 0 < x) → numsFrom k xs = []
  | [], _, _ => rfl
  | y :: r, k, h => by
    show (if 0 < y then [(k : Int)] else []) ++ numsFrom (k + 1) r = []
    rw [if_neg (h y (by simp)), nums_nil r (k + 1) fun x hx => h x (by simp [hx])]
    rfl
theorem nums_ne : ∀ (xs : List Int) (k : Nat) (x : Int), x ∈ xs → 0 < x → numsFrom k xs ≠ []
  | y :: r, k, x, h, hx => by
    show (if 0 < y then [(k : Int)] else []) ++ numsFrom (k + 1) r ≠ []
    rcases List.mem_cons.mp h with rfl | h
    · rw [if_pos hx]
      exact fun z => by cases z
    · intro z
      exact nums_ne r (k + 1) x h hx (List.append_eq_nil_iff.mp z).2
theorem nums_len : ∀ (xs : List Int) (k : Nat), (numsFrom k xs).length ≤ xs.length
  | [], _ => Nat.le_refl _
  | y :: r, k => by
    show ((if 0 < y then [(k : Int)] else []) ++ numsFrom (k + 1) r).length ≤ r.length + 1
    rw [List.length_append]
    have := nums_len r (k + 1)
    split
    · show 1 + _ ≤ _
      omega
    · show 0 + _ ≤ _
      omega
def spNumbers : Sp := fun vs H Q _ => ∃ (a : Addr) (ns : List Int), vs = [.ref a] ∧ H a = some (.lst (ns.map V.int)) ∧ ns.length ≤ 60 ∧ ∀ H' o, Same H H' → H o = none → H' o = some (.tup ((numsFrom 0 ns).map V.int)) → Q (.ref o) H'
def spRunning : Sp := fun vs H Q _ => ∃ (a : Addr) (Ls : List Lw) (p : Int), vs = [.ref a, .int p] ∧ StrandAt H a Ls ∧ Ls.length ≤ 60 ∧ ∀ H' o, Same H H' → H o = none → H' o = some (.tup ((numsFrom 0 (Ls.map fun L => thickL L p)).map V.int)) → Q (.ref o) H'
def IsEnd (Ls : List Lw) (m : Int) : Prop := (Ls = [] → m = 0) ∧ (Ls ≠ [] → ∃ L ∈ Ls, m = lastOf L) ∧ ∀ L ∈ Ls, lastOf L ≤ m
def spEnd : Sp := fun vs H Q _ => ∃ (a : Addr) (Ls : List Lw), vs = [.ref a] ∧ StrandAt H a Ls ∧ Ls.length ≤ 60 ∧ (∀ L ∈ Ls, GoodL L) ∧ ∀ H' m, Same H H' → IsEnd Ls m → Q (.int m) H'
theorem letV_none : (!decide (letV none = V.non)) = false := by decide
theorem letV_some (n : Int) : (!decide (letV (some n) = V.non)) = true := by
  rw [decide_eq_false (fun z : letV (some n) = V.non => by cases z)]
  rfl
theorem letV_some' (n : Int) : decide (letV (some n) = V.non) = false := decide_eq_false (fun z : letV (some n) = V.non => by cases z)
theorem iteEqT {b : Bool} {A B : Prop} (e : b = true) (h : A) : if b = true then A else B := by
  rw [if_pos e]
  exact h
theorem iteEqF {b : Bool} {A B : Prop} (e : b = false) (h : B) : if b = true then A else B := by
  rw [e, if_neg Bool.false_ne_true]
  exact h
def endsOf (L : Lw) : List Int := (partsOf L.le L.ps L.pl).map fun t => t.2.1
theorem ends_ok {Ls : List Lw} (g : ∀ L ∈ Ls, GoodL L) {m : Int} (h : (Ls.map endsOf).flatten = [] ∧ m = 0 ∨ m ∈ (Ls.map endsOf).flatten ∧ ∀ y, y ∈ (Ls.map endsOf).flatten → y ≤ m) : IsEnd Ls m := by
  have has : ∀ L ∈ Ls, lastOf L ∈ (Ls.map endsOf).flatten := fun L hL => by
    have gL := g L hL
    have hp : ∀ x ∈ L.ps, 1 ≤ x.2 := fun x hx => (gL.1.2.2 x hx).2.2.1
    obtain ⟨x, h1, h2⟩ := parts_has (le := L.le) L.ps L.pl hp (last_gt gL)
    refine List.mem_flatten.mpr ⟨endsOf L, List.mem_map.mpr ⟨L, hL, rfl⟩, List.mem_map.mpr ⟨x, h1, h2⟩⟩
  have at_ : ∀ y ∈ (Ls.map endsOf).flatten, ∃ L ∈ Ls, y ≤ lastOf L := fun y hy => by
    obtain ⟨l, h1, h2⟩ := List.mem_flatten.mp hy
    obtain ⟨L, hL, rfl⟩ := List.mem_map.mp h1
    obtain ⟨x, h3, rfl⟩ := List.mem_map.mp h2
    have gL := g L hL
    exact ⟨L, hL, parts_le L.ps L.pl (fun x hx => (gL.1.2.2 x hx).2.2.1) x h3⟩
  rcases h with ⟨h0, rfl⟩ | ⟨h1, h2⟩
  · have hn : Ls = [] := by
      cases Ls with
      | nil => rfl
      | cons L r =>
        have := has L (by simp)
        rw [h0] at this
        cases this
    exact ⟨fun _ => rfl, fun z => absurd hn z, fun L hL => by rw [hn] at hL; cases hL⟩
  · have hn : Ls ≠ [] := fun z => by
      rw [z] at h1
      cases h1
    obtain ⟨L, hL, hle⟩ := at_ m h1
    have := h2 _ (has L hL)
    exact ⟨fun z => absurd z hn, fun _ => ⟨L, hL, by omega⟩, fun L' hL' => h2 _ (has L' hL')⟩
theorem LaidAt.same {H H' : Hp} {a : Addr} {L : Lw} (e : Same H H') (h : LaidAt H a L) : LaidAt H' a L := h.mono (Tups.same e)
def spPick : Sp := fun vs H Q _ => ∃ (p l : Addr) (T : Nat) (a : Addr) (xs : List V), vs = [.ref p, .ref a] ∧ Pot H p l T ∧ T < 2 ^ 39 ∧ H a = some (.lst xs) ∧ a ≠ p ∧ a ≠ l ∧ 1 ≤ xs.length ∧ xs.length ≤ 2000 ∧
  ∀ H' (j : Nat) x, xs[j]? = some x → Pot H' p l (T + 1) → Keep p l H H' → Q x H'
def LPartsAt (H : Hp) (bs : List Addr) (Ls : List Lw) : Prop := bs.length = Ls.length ∧ ∀ (i : Nat) (b : Addr), bs[i]? = some b → ∃ L, Ls[i]? = some L ∧ TableAt H b (lawParts L.le L.ps L.pl)
theorem TableAt.same {H H' : Hp} {o : Addr} {ts : List (Int × Int × Int)} (e : Same H H') (h : TableAt H o ts) : TableAt H' o ts := by
  obtain ⟨as, h1, h2⟩ := h
  exact ⟨as, e _ _ h1, h2.mono (Tups.same e)⟩
theorem LPartsAt.same {H H' : Hp} {bs : List Addr} {Ls : List Lw} (e : Same H H') (h : LPartsAt H bs Ls) : LPartsAt H' bs Ls := ⟨h.1, fun i b hb => by
  obtain ⟨L, h1, h2⟩ := h.2 i b hb
  exact ⟨L, h1, TableAt.same e h2⟩⟩
theorem LPartsAt.nil {H : Hp} : LPartsAt H [] [] := ⟨rfl, fun i a h => by simp at h⟩
theorem LPartsAt.snoc {H : Hp} {as : List Addr} {Ls : List Lw} {a : Addr} {L : Lw} (h : LPartsAt H as Ls) (e : TableAt H a (lawParts L.le L.ps L.pl)) : LPartsAt H (as ++ [a]) (Ls ++ [L]) := by
  refine ⟨by simp [h.1], fun i b hb => ?_⟩
  by_cases hi : i < as.length
  · rw [List.getElem?_append_left hi] at hb
    obtain ⟨M, h1, h2⟩ := h.2 i b hb
    exact ⟨M, by rw [List.getElem?_append_left (by rw [← h.1]; exact hi)]; exact h1, h2⟩
  · rw [List.getElem?_append_right (by omega)] at hb
    have hz : i - as.length = 0 := by
      cases hk : i - as.length with
      | zero => rfl
      | succ n =>
        rw [hk] at hb
        simp at hb
    rw [hz] at hb
    have : a = b := Option.some.inj hb
    subst this
    refine ⟨L, ?_, e⟩
    rw [List.getElem?_append_right (by rw [← h.1]; omega), ← h.1, hz]
    rfl
def spLawParts : Sp := fun vs H Q _ => ∃ (a : Addr) (Ls : List Lw), vs = [.ref a] ∧ StrandAt H a Ls ∧ Ls.length ≤ 60 ∧ (∀ L ∈ Ls, GoodL L) ∧ ∀ (H' : Hp) (o : Addr) (bs : List Addr), Same H H' → H o = none → H' o = some (.lst (bs.map V.ref)) → LPartsAt H' bs Ls → Q (.ref o) H'
/-- the last part of the law's own -/
theorem lp_last {H : Hp} {b : Addr} {L : Lw} (g : GoodL L) (h : TableAt H b (lawParts L.le L.ps L.pl)) : ∃ (as : List Addr) (z : Addr) (t b' : Int), H b = some (.lst (as.map V.ref)) ∧ atI (as.map V.ref) (-1) = some (.ref z) ∧ H z = some (.tup [.int b', .int (lastOf L), .int t]) := by
  obtain ⟨as, h1, h2⟩ := h
  have hp : ∀ x ∈ L.ps, 1 ≤ x.2 := fun x hx => (g.1.2.2 x hx).2.2.1
  have hne : L.ps ≠ [] := fun e => by
    have := g.1.1
    rw [e] at this
    exact absurd this (by decide)
  obtain ⟨ys, b', t, e⟩ := law_last (le := L.le) L.ps L.pl hne hp fun n hn => (g.2.2.2.2.2 n hn).1
  rw [e] at h2
  have hl : as.length = ys.length + 1 := by
    have := h2.1
    simpa using this
  have hi : ys.length < as.length := by omega
  have e1 : (as.map V.ref)[ys.length]? = some (.ref as[ys.length]) := by
    rw [List.getElem?_map, List.getElem?_eq_getElem hi]
    rfl
  obtain ⟨z, b2, c2, d2, e2, e3, e4⟩ := row_get h2 e1
  rw [List.getElem?_append_right (Nat.le_refl _), Nat.sub_self] at e3
  have e5 := Option.some.inj e3
  obtain ⟨e6, e7⟩ := Prod.mk.inj e5
  obtain ⟨e8, e9⟩ := Prod.mk.inj e7
  refine ⟨as, z, t, b', h1, ?_, ?_⟩
  · have h0 : as.map V.ref ≠ [] := fun q => by
      have := congrArg List.length q
      rw [List.length_map, hl] at this
      exact absurd this (by simp)
    have h3 : (as.map V.ref).getLast h0 = .ref z := by
      have := List.getLast?_eq_getLast h0
      rw [List.getLast?_eq_getElem?, List.length_map, hl, Nat.add_sub_cancel, e1] at this
      exact (Option.some.inj this).symm.trans e2
    have h4 := List.dropLast_concat_getLast h0
    rw [h3] at h4
    rw [← h4]
    exact atI_last _ _
  · rw [e4, ← e6, ← e8, ← e9]
    rfl
theorem LPartsAt.other {H : Hp} {bs : List Addr} {Ls : List Lw} {o : Addr} {xs : List V} {u : HO} (h : LPartsAt H bs Ls) (hne : ∀ b ∈ bs, b ≠ o) (eo : H o = some (.lst xs)) : LPartsAt (upd H o u) bs Ls := ⟨h.1, fun i b hb => by
  obtain ⟨L, h1, as, h2, h3⟩ := h.2 i b hb
  exact ⟨L, h1, as, by rw [upd_ne (hne b (List.mem_of_getElem? hb))]; exact h2, h3.mono (Tups.ls eo)⟩⟩
def Sf (p l S : Addr) (as : List Addr) (Ls : List Lw) (H H' : Hp) (T : Nat) : Prop := H' S = some (.lst (as.map V.ref)) ∧ LaidsAt H' as Ls ∧ Pot H' p l T ∧ Keep p l H H'
theorem Sf.keep {p l S : Addr} {as : List Addr} {Ls : List Lw} {H H' H2 : Hp} {T U : Nat} (h : Sf p l S as Ls H H' T) (n1 : S ≠ p) (n2 : S ≠ l) (k : Keep p l H' H2) (hp : Pot H2 p l U) : Sf p l S as Ls H H2 U := ⟨k _ _ n1 n2 h.1, h.2.1.mono (k.tups h.2.2.1), hp, h.2.2.2.trans k⟩
theorem Sf.new {p l S a : Addr} {as : List Addr} {Ls : List Lw} {H H' : Hp} {T : Nat} {o : HO} (h : Sf p l S as Ls H H' T) (n : H' a = none) : Sf p l S as Ls H (upd H' a o) T := ⟨by rw [upd_ne (ne_of_none h.1 n)]; exact h.1, h.2.1.mono (Tups.new n), h.2.2.1.new n, h.2.2.2.new n⟩
theorem Sf.up {p l S : Addr} {as : List Addr} {Ls : List Lw} {H H' : Hp} {T U : Nat} (h : Sf p l S as Ls H H' T) (e : T ≤ U) : Sf p l S as Ls H H' U := ⟨h.1, h.2.1, h.2.2.1.mono e, h.2.2.2⟩
theorem cut_take (xs : List V) (n : Nat) : cutV xs none (some (n : Int)) = xs.take n := by
  unfold cutV
  rw [HT.sIx_none, HT.sIx_nat]
  show (xs.drop 0).take (min n xs.length - 0) = xs.take n
  rw [List.drop_zero, Nat.sub_zero]
  by_cases h : n ≤ xs.length
  · rw [Nat.min_eq_left h]
  · rw [Nat.min_eq_right (by omega), List.take_length, List.take_of_length_le (by omega)]
def spStrand : Sp := fun vs H Q _ => ∃ (p l : Addr) (T : Nat) (most : Int) (small : Bool), vs = [.ref p, .int most, .bl small] ∧ Pot H p l T ∧ T < 2 ^ 37 ∧ (most = 8 ∨ most = 60) ∧
  ∀ H' a Ls, Pot H' p l (T + 20000) → Keep p l H H' → StrandAt H' a Ls → Ls.length ≤ 60 → (∀ L ∈ Ls, GoodL L) → Q (.ref a) H'
theorem first_of {ns : List Int} {M : Int} (h : M ∈ ns) : ∃ j : Nat, ns[j]? = some M ∧ ∀ m z, m < j → ns[m]? = some z → z ≠ M := by
  induction ns with
  | nil => cases h
  | cons y r ih =>
    by_cases e : y = M
    · exact ⟨0, by rw [e]; rfl, fun m z hm _ => absurd hm (Nat.not_lt_zero _)⟩
    · have hr : M ∈ r := by
        rcases List.mem_cons.mp h with h | h
        · exact absurd h.symm e
        · exact h
      obtain ⟨j, h1, h2⟩ := ih hr
      refine ⟨j + 1, h1, fun m z hm hz => ?_⟩
      cases m with
      | zero =>
        have : y = z := Option.some.inj hz
        rw [← this]
        exact e
      | succ m => exact h2 m z (by omega) hz
theorem cut_drop (xs : List V) (n : Nat) (h : n ≤ xs.length) : cutV xs (some (n : Int)) none = xs.drop n := by
  unfold cutV
  rw [HT.sIx_none, HT.sIx_nat, Nat.min_eq_left h]
  exact List.take_of_length_le (by rw [List.length_drop]; exact Nat.le_refl _)
theorem LaidsAt.parts {H : Hp} {as : List Addr} {Ls : List Lw} {n : Nat} {b : Addr} {L : Lw} (h : LaidsAt H as Ls) (hn : n < as.length) (e : LaidAt H b L) : LaidsAt H (as.take n ++ [b] ++ as.drop (n + 1)) (Ls.set n L) := by
  have e1 : as.take n ++ [b] ++ as.drop (n + 1) = as.set n b := by
    rw [List.set_eq_take_append_cons_drop, if_pos hn, List.append_assoc]
    rfl
  rw [e1]
  exact h.set e n
def lasts (Ls : List Lw) : List Int := Ls.map lastOf
def spLetLast : Sp := fun vs H Q _ => ∃ (p l : Addr) (T : Nat) (a : Addr) (Ls : List Lw), vs = [.ref p, .ref a] ∧ Pot H p l T ∧ T < 2 ^ 38 ∧ StrandAt H a Ls ∧ Ls ≠ [] ∧ Ls.length ≤ 60 ∧ (∀ L ∈ Ls, GoodL L) ∧
  ∀ (H' : Hp) (b : Addr) (Ms : List Lw), Pot H' p l (T + 1) → Keep p l H H' → StrandAt H' b Ms → Ms.length = Ls.length → (∀ L ∈ Ms, GoodL L) → Q (.ref b) H'
theorem last_lt {L : Lw} (g : GoodL L) : lastOf L < 2 ^ 205 := by
  have h1 := longs_lt g.1
  have h2 := g.2.2.2.2.1
  have h3 : (2 : Int) ^ 204 + 2 ^ 130 < 2 ^ 205 := by decide
  have h4 := clip_le (le := L.le) (e := L.pl + longs L.ps)
  unfold lastOf
  omega
theorem slA {K : PySem.W.Frag} {H : Hp} {a : Addr} {xs : List V} {lo hi : Option Int} {Q : VK} (h : H a = some (.tup xs)) (q : ∀ H' p, Same H H' → H' p = some (.tup (cutV xs lo hi)) → Q (.ref p) H') : rSlA K (.ref a) lo hi H Q := by
  refine ⟨a, xs, rfl, SqT.of h, fun e => ?_, fun _ p np => q _ p (same_new (Same.refl H) np) upd_same⟩
  refine q H a (Same.refl H) ?_
  rw [h]
  unfold cutV
  rw [e.1, e.2, List.drop_zero, Nat.sub_zero, List.take_length]
theorem catA {K : PySem.W.Frag} {H : Hp} {a b : Addr} {xs ys : List V} {Q : VK} (ha : H a = some (.tup xs)) (hb : H b = some (.tup ys)) (hz : xs.length + ys.length ≤ sizeLine) (q : ∀ H' p, Same H H' → H' p = some (.tup (xs ++ ys)) → Q (.ref p) H') : rCatA K (.ref a) (.ref b) H Q := by
  refine ⟨a, b, xs, ys, rfl, rfl, SqT.of ha, SqT.of hb, hz, fun e => ?_, fun _ e => ?_, fun _ _ p np => q _ p (same_new (Same.refl H) np) upd_same⟩
  · refine q H b (Same.refl H) ?_
    rw [hb, e]
    rfl
  · refine q H a (Same.refl H) ?_
    rw [ha, e, List.append_nil]
theorem can_all {xs : List PyData} (h : ∀ x ∈ xs, x.canLay0 = true) : PyData.canLayAll0 xs = true := by
  induction xs with
  | nil => rfl
  | cons x r ih =>
    show (x.canLay0 && PyData.canLayAll0 r) = true
    rw [h x (by simp), ih fun y hy => h y (by simp [hy])]
    rfl
theorem Sh.can {d : PyData} (h : Sh d) : d.canLay0 = true := by
  induction h with
  | non => rfl
  | bl b => rfl
  | int h => rfl
  | lst _ ih => exact can_all ih
  | tup _ ih => exact can_all ih
theorem depth_all {xs : List PyData} {n : Nat} (h : ∀ x ∈ xs, x.depth ≤ n) : PyData.depthAll xs ≤ n := by
  induction xs with
  | nil => exact Nat.zero_le _
  | cons x r ih => exact Nat.max_le.mpr ⟨h x (by simp), ih fun y hy => h y (by simp [hy])⟩
def letD : Option Int → PyData
  | none => .none
  | some n => .int n
def laidD (L : Lw) : PyData := .tuple [wispD L.so L.ps, .int L.pl, letD L.le]
def strandD (Ls : List Lw) : PyData := .tuple (Ls.map laidD)
theorem laid_sh {L : Lw} (g : GoodL L) : Sh (laidD L) := by
  refine .tup fun x hx => ?_
  simp only [List.mem_cons, List.not_mem_nil, or_false] at hx
  rcases hx with rfl | rfl | rfl
  · exact wisp_sh g.2.1 g.2.2.1 g.1
  · exact sh_nat g.2.2.2.1 (Int.lt_trans g.2.2.2.2.1 (by decide))
  · cases h : L.le with
    | none => exact .non
    | some n =>
      have := g.2.2.2.2.2 n h
      have h0 := g.2.2.2.1
      exact .int (log_lt (by omega) (Int.lt_trans this.2 (by decide)))
theorem laid_depth (L : Lw) : (laidD L).depth ≤ 4 := by
  have := wisp_depth L.so L.ps
  refine Nat.succ_le_succ (depth_all fun x hx => ?_)
  simp only [List.mem_cons, List.not_mem_nil, or_false] at hx
  rcases hx with rfl | rfl | rfl
  · exact this
  · exact Nat.zero_le _
  · cases L.le with
    | none => exact Nat.zero_le _
    | some n => exact Nat.zero_le _
theorem strand_sh {Ls : List Lw} (g : ∀ L ∈ Ls, GoodL L) : Sh (strandD Ls) := .tup fun x hx => by
  obtain ⟨L, hL, rfl⟩ := List.mem_map.mp hx
  exact laid_sh (g L hL)
theorem strand_depth (Ls : List Lw) : (strandD Ls).depth ≤ 5 := Nat.succ_le_succ (depth_all fun x hx => by
  obtain ⟨L, hL, rfl⟩ := List.mem_map.mp hx
  exact laid_depth L)
theorem Sh.shaped {d : PyData} (h : Sh d) (hd : d.depth ≤ 64) : SeqAt.shaped d = true := Bool.and_eq_true_iff.mpr ⟨h.can, decide_eq_true hd⟩
theorem LaidAt.dp {K : PySem.W.Frag} {H : Hp} {a : Addr} {L : Lw} (h : LaidAt H a L) : Dp K H (.ref a) (laidD L) := by
  obtain ⟨wa, h1, h2⟩ := h
  refine .tup (SqT.of h1) (.cons h2.dp (.cons (.int _) (.cons ?_ .nil)))
  cases L.le with
  | none => exact .non
  | some n => exact .int n
theorem laids_dp {K : PySem.W.Frag} {H : Hp} : ∀ {as : List Addr} {Ls : List Lw}, LaidsAt H as Ls → DpAll K H (as.map V.ref) (Ls.map laidD)
  | [], [], _ => .nil
  | [], L :: r, h => absurd h.1 (by simp)
  | a :: r, [], h => absurd h.1 (by simp)
  | a :: as, L :: Ls, h => by
    obtain ⟨M, h1, h2⟩ := h.2 0 a rfl
    have e : L = M := Option.some.inj h1
    subst e
    exact .cons h2.dp (laids_dp ⟨Nat.succ.inj (by simpa using h.1), fun i b hb => h.2 (i + 1) b hb⟩)
theorem StrandAt.dp {K : PySem.W.Frag} {H : Hp} {a : Addr} {Ls : List Lw} (h : StrandAt H a Ls) : Dp K H (.ref a) (strandD Ls) := by
  obtain ⟨as, h1, h2⟩ := h
  exact .tup (SqT.of h1) (laids_dp h2)
theorem eq_nil (ds : List PyData) : PyData.eqv (.tuple ds) (.tuple []) = ds.isEmpty := by
  cases ds with
  | nil => rfl
  | cons x r => rfl
theorem ints_dp {K : PySem.W.Frag} {H : Hp} : ∀ ns : List Int, DpAll K H (ns.map V.int) (ns.map PyData.int)
  | [] => .nil
  | n :: r => .cons (.int n) (ints_dp r)
theorem ints_shaped (ns : List Int) : SeqAt.shaped (.tuple (ns.map PyData.int)) = true := by
  refine Bool.and_eq_true_iff.mpr ⟨can_all fun x hx => ?_, decide_eq_true (Nat.le_trans (Nat.succ_le_succ (depth_all (n := 0) fun x hx => ?_)) (by decide))⟩
  · obtain ⟨n, _, rfl⟩ := List.mem_map.mp hx
    rfl
  · obtain ⟨n, _, rfl⟩ := List.mem_map.mp hx
    exact Nat.le_refl _
def spRight7 : Sp := fun vs H Q _ => ∃ (p l : Addr) (T : Nat) (a : Addr) (Ls : List Lw), vs = [.ref p, .ref a] ∧ Pot H p l T ∧ T < 2 ^ 38 ∧ StrandAt H a Ls ∧ Ls.length ≤ 60 ∧ (∀ L ∈ Ls, GoodL L) ∧
  ∀ (H' : Hp), Pot H' p l (T + 5) → Keep p l H H' → Q (.bl true) H'
theorem end_is {Ls : List Lw} (g : ∀ L ∈ Ls, GoodL L) {m M : Int} (h : IsEnd Ls m) (h1 : M ∈ 0 :: lasts Ls) (h2 : ∀ y, y ∈ 0 :: lasts Ls → y ≤ M) : m = M := by
  obtain ⟨a1, a2, a3⟩ := h
  have h0 := h2 0 (by simp)
  by_cases hn : Ls = []
  · have e := a1 hn
    rw [hn] at h1
    have : M = 0 := by simpa [lasts] using h1
    omega
  · obtain ⟨L, hL, e⟩ := a2 hn
    have h3 := h2 m (List.mem_cons_of_mem _ (List.mem_map.mpr ⟨L, hL, e.symm⟩))
    have h4 := last_gt (g L hL)
    have h5 := (g L hL).2.2.2.1
    rcases List.mem_cons.mp h1 with h | h
    · omega
    · obtain ⟨L', hL', e'⟩ := List.mem_map.mp h
      have := a3 L' hL'
      omega
def Strs (H : Hp) (cs : List Addr) : Prop := ∀ c ∈ cs, ∃ Ls, StrandAt H c Ls ∧ Ls.length ≤ 60 ∧ ∀ L ∈ Ls, GoodL L
theorem Strs.mono {H H' : Hp} {cs : List Addr} (h : Strs H cs) (t : Tups H H') : Strs H' cs := fun c hc => by
  obtain ⟨Ls, h1, h2⟩ := h c hc
  exact ⟨Ls, h1.mono t, h2⟩
theorem ref_get {bs : List Addr} {i : Nat} {x : V} (h : (bs.map V.ref)[i]? = some x) : ∃ b, x = .ref b ∧ bs[i]? = some b := by
  rw [List.getElem?_map] at h
  cases q : bs[i]? with
  | none =>
    rw [q] at h
    cases h
  | some b =>
    rw [q] at h
    exact ⟨b, (Option.some.inj h).symm, rfl⟩
/-! ### dicts of numbers: update, sorted -/
section
variable {X : Cx}
def rUpd : V → List V → Hp → VK → Prop := fun x vs H Q => ∃ (a b : Addr) (kvs more : List (Key × V)), x = .ref a ∧ vs = [.ref b] ∧ H a = some (.dK kvs) ∧ H b = some (.dK more) ∧ a ≠ b ∧ kvs.length + more.length ≤ sizeLine ∧ Q .non (upd H a (.dK (mergeK kvs more)))
theorem mt_dupdate : MtR X "dict.update" rUpd := by
  intro pins s σ H x vs v us Q I rx rv h
  obtain ⟨a, b, kvs, more, rfl, rfl, ea, eb, ne, hz, q⟩ := h
  cases (show v = Value.ref a from rx)
  rw [Vals.ref1 rv]
  obtain ⟨z1, y1, vs1, rel1, dd1⟩ := dk_of I.hok ea
  obtain ⟨z2, y2, vs2, rel2, dd2⟩ := dk_of I.hok eb
  refine call_meetsIn PySem.F.slot_dict_update dd1.typeIs PySem.F.entry_dict_update (PySem.F.args_dict_update_2 _ _) (meets_dict_update (mixKind X.prog X.w) a b ne y2) ⟨vs1, vs2, dd1, dd2, by rw [← rel1.length, ← rel2.length]; exact hz, fun h' dd' _ hs => ?_⟩
  have he : ∃ o, h'.get? a = some o := dd'.elim fun o z => z.elim fun _ z => z.elim fun _ z => ⟨o, z.1⟩
  exact ⟨.non, _, d_write I (by rw [ea]; exact True.intro) hs he (dk_new (Nat.le_trans (length_mergeK more kvs) hz) y1 (KV.merge rel2 rel1) dd'), rfl, q⟩
def rSortD : List V → Hp → VK → Prop := fun xs H Q => ∃ (a : Addr) (kvs : List (Key × V)) (ks : List Int), xs = [.ref a] ∧ H a = some (.dK kvs) ∧ kvs.map (·.1) = ks.map Sum.inl ∧ ∀ (ys : List Int) (p : Addr), ys.Perm ks → ys.Pairwise (· ≤ ·) → H p = none → Q (.ref p) (upd H p (.lst (ys.map V.int)))
theorem call_sortD (hc : X.calm = true) : CallR X (.builtin "sorted") rSortD := by
  intro pins s σ H xs us Q I va h
  obtain ⟨a, kvs, ks, rfl, ea, hks, q⟩ := h
  rw [Vals.ref1 va]
  obtain ⟨z, lo, vs, rel, dd⟩ := dk_of I.hok ea
  obtain ⟨ep, hat⟩ := dd.dictAt
  have ek : vs.map (·.1) = ks.map Sum.inl := rel.keys.symm.trans hks
  have hl : vs.length = ks.length := by
    have e := congrArg List.length ek
    rw [List.length_map, List.length_map] at e
    exact e
  have hz : vs.length ≤ sizeLine := by rw [← rel.length]; exact z
  refine Calls.call_function_entry PyProof.Rows.kind_sorted PyProof.Rows.plain_sorted PyProof.Rows.entry_sorted (PyProof.Rows.args_sorted1 _) ?_
  unfold Builtin.«sorted»
  refine wpAny_bind (m := checkCount "sorted" 1 1 _) (wpAny_pure (wpAny_bind (PySem.W.kdu_collect (A := X.A.in1) (PySem.W.kdl_dict (knd := mixKind X.prog X.w) (kvs := vs) (ep := ep) lo) (I.ok.hd hc) hat hz fun h1 tk acc hk hacc => ?_)))
  have hal : acc.toList.length = ks.length := by rw [Array.length_toList, hacc.1, hl]
  have hS : IntsAre acc.toList ks := ints_each hal fun j v e => by
    obtain ⟨k, x, e1, e2⟩ := hacc.2 j v (by rw [← Array.getElem?_toList]; exact e)
    have e3 : (vs.map (·.1))[j]? = some k := by rw [List.getElem?_map, e1]; rfl
    rw [ek, List.getElem?_map] at e3
    cases e4 : ks[j]? with
    | none => rw [e4] at e3; cases e3
    | some y =>
      rw [e4] at e3
      cases (show Sum.inl y = k from Option.some.inj e3)
      rcases keyIs_shape (show keyIs (Sum.inl y) v = true from e2) with ⟨i, t, q1, q2⟩ | ⟨i, t, q1, q2⟩
      · cases q1
        exact ⟨y, t, rfl, q2⟩
      · cases q1
  have J : Inv X pins σ H { s with heap := h1, toks := tk } := I.kept hk
  have hz2 : acc.toList.length ≤ sizeLine := by rw [hal, ← hl]; exact hz
  refine wpAny_bind (wpAny_newList ?_ hz2)
  have hoL : (h1.push (seqObj "list" acc.toList.toArray 0)).get? h1.objs.size = some (seqObj "list" acc.toList.toArray 0) := Heap.get?_push_size _ rfl
  show wpAny _ _ _ _ _ { s with heap := h1.push (seqObj "list" acc.toList.toArray 0), toks := tk }
  refine wpAny_bind (wpAny_holding (wpAny_call_entry PyProof.Rows.slot_list_sort ⟨_, hoL, rfl⟩ PyProof.Rows.entry_list_sort (SrtO.list_sort_ord SrtO.swo_int hoL hz2 (fun h2 => SrtO.ints_sortable hS h2) fun out g1 g2 => ⟨_, rfl, ?_⟩) (PyProof.Rows.args_list_sort _)))
  obtain ⟨k1, k2, k3⟩ := SrtO.ints_out hS g1 g2
  obtain ⟨ep2, he2⟩ := PyProof.Rows.sortedHeap_at (vs := acc.toList) (out := out.toArray) hoL
  have hz3 : ((out.map SrtO.iv).map V.int).length ≤ sizeLine := by rw [List.length_map, k2.length_eq, ← hal]; exact hz2
  refine wpAny_pure ⟨_, rfl, .ref h1.objs.size, upd H h1.objs.size (.lst ((out.map SrtO.iv).map V.int)), J.laid (t' := tk) (fun b u e => ?_) (Nat.le_refl _) (show ObjOk X.prog X.w _ _ _ (.lst ((out.map SrtO.iv).map V.int)) from ⟨hz3, out, ep2, vals_of_ints k1, he2⟩), rfl, q _ _ k2 k3 (J.hok.fresh (Nat.le_refl _))⟩
  have hb : b < h1.objs.size := Heap.lt_size e
  rw [PyProof.Rows.sortedHeap_old (Nat.ne_of_lt hb) (by rw [size_push']; exact Nat.lt_succ_of_lt hb)]
  exact Heap.get?_push_of_some _ e
end
/-! ### zip of a tuple and a list -/
section
open PySem
variable {prog : Program} {w : World} {A : Around} {E : Value → Shared → Prop} {s : Shared}
theorem mixItem {z tI tO j1 j2 m1 m2 : Addr} {k : Nat} {us vs : Array Value} {u v a b : Value} {Q : Value → Shared → Prop} (D : ZipApart z tI tO j1 j2 m1 m2)
    (gz : IsZip s.heap z tI tO .none) (gI : IsPair s.heap tI (.ref j1) (.ref j2)) (gO : IsPair s.heap tO a b) (g1 : s.heap.IsTupleIter j1 m1 k) (g2 : s.heap.IsListIter j2 m2 k) (t1 : s.heap.IsTuple m1 us) (t2 : s.heap.IsList m2 vs) (e1 : us[k]? = some u) (e2 : vs[k]? = some v)
    (q : ∀ h', IsZip h' z tI tO (rawInt s.heap.objs.size) → IsPair h' tO u v → h'.IsTupleIter j1 m1 (k + 1) → h'.IsListIter j2 m2 (k + 1) → IsPair h' s.heap.objs.size u v → h'.objs.size = s.heap.objs.size + 1 →
      (∀ c o, ¬ c ∈ [z, tI, tO, j1, j2] ∨ c = tI → s.heap.get? c = some o → h'.get? c = some o) → Q (.ref s.heap.objs.size) { s with heap := h' }) :
    wpAny (model prog w) A (Builtin.«zip.__next__» ⟨[.ref z], []⟩) (fun r s' => ∃ x, r = .done (.ret x) ∧ Q x s') E s := by
  show wpAny _ _ (field (.ref z) 2 >>= _) _ _ _
  refine wpAny_bind (wpAny_field gz rfl (x := .bool false) rfl ?_)
  show wpAny _ _ (field (.ref z) 3 >>= _) _ _ _
  refine wpAny_bind (wpAny_field gz rfl (x := .ref tI) rfl (wpAny_bind (wpAny_seqItems gI rfl ?_)))
  show wpAny _ _ (Builtin.SmallTypes.ownedTupleIsFree (.ref z) >>= _) _ _ s
  refine wpAny_bind ?_; unfold Builtin.SmallTypes.ownedTupleIsFree
  refine wpAny_bind (wpAny_field gz rfl (x := .none) rfl (wpAny_pure ?_)); simp only [if_true]
  refine wpAny_bind (wpAny_rule (wpAny_bind (wpAny_field gz rfl (x := .ref tO) rfl (wpAny_bind (wpAny_setField_rec gz (by simp) fun p1 gz1 b1 => ?_)))))
  have gz1 : IsZip p1 z tI tO .ellipsis := gz1
  refine wpAny_bind ?_; simp only [List.forIn_cons, List.zipIdx_cons, List.forIn_nil, List.zipIdx_nil]
  -- the tuple's next one
  refine wpAny_bind (wpAny_bind (wpAny_onRaise ?_))
  show wpAny _ _ (Builtin.SmallTypes.nextOf (.ref j1) >>= _) _ _ _
  refine wpAny_bind (RZ.nextOf_tuple_item (g1.extBut b1.extBut D.i1z) (t1.extBut b1.extBut D.l1z) e1 fun p2 g12 b2 => wpAny_pure ?_)
  have gO2 : IsPair p2 tO a b := b2.extBut _ _ D.TOi1 (b1.extBut _ _ D.TOz gO)
  refine wpAny_bind (wpAny_seqItems gO2 rfl (wpAny_bind (wpAny_updateSeq_pair gO2 fun p3 gO3 b3 => wpAny_bind (wpAny_letGo (wpAny_pure ?_)))))
  have gO3 : IsPair p3 tO u b := gO3
  -- the list's next one
  refine wpAny_bind (wpAny_bind (wpAny_onRaise ?_))
  show wpAny _ _ (Builtin.SmallTypes.nextOf (.ref j2) >>= _) _ _ _
  have g23 := ((g2.extBut b1.extBut D.i2z).extBut b2.extBut D.i12.symm).extBut b3.extBut D.TOi2.symm
  have t23 := ((t2.extBut b1.extBut D.l2z).extBut b2.extBut D.l2i1).extBut b3.extBut D.l2TO
  refine wpAny_bind (wpAny_nextOf_list_item g23 t23 e2 fun p4 g24 b4 => wpAny_pure ?_)
  have gO4 : IsPair p4 tO u b := b4.extBut _ _ D.TOi2 gO3
  refine wpAny_bind (wpAny_seqItems gO4 rfl (wpAny_bind (wpAny_updateSeq_pair gO4 fun p5 gO5 b5 => wpAny_bind (wpAny_letGo (wpAny_pure (wpAny_pure ?_))))))
  have gO5 : IsPair p5 tO u v := gO5
  refine wpAny_bind (wpAny_seqItems gO5 rfl (wpAny_bind (wpAny_newTuple ?_)))
  have zs : p5.objs.size = s.heap.objs.size := by rw [b5.1, b4.1, b3.1, b2.1, b1.1]
  have gz5 : IsZip p5 z tI tO .ellipsis := b5.extBut _ _ D.TOz.symm (b4.extBut _ _ D.i2z.symm (b3.extBut _ _ D.TOz.symm (b2.extBut _ _ D.i1z.symm gz1)))
  have kp : ∀ c o, c ≠ z → c ≠ tO → c ≠ j1 → c ≠ j2 → s.heap.get? c = some o → p5.get? c = some o := fun c o n1 n2 n3 n4 e => by
    rw [b5.2 c n2, b4.2 c n4, b3.2 c n2, b2.2 c n3, b1.2 c n1]
    exact e
  have g15 : p5.IsTupleIter j1 m1 (k + 1) := g12.at fun o e => by
    rw [b5.2 _ D.TOi1.symm, b4.2 _ D.i12, b3.2 _ D.TOi1.symm]
    exact e
  have g25 : p5.IsListIter j2 m2 (k + 1) := g24.at fun o e => (b5.2 _ D.TOi2.symm).trans e
  have lz : z < p5.objs.size := Heap.lt_size gz5
  show wpAny _ _ (Builtin.SmallTypes.ownedTupleHandOut (.ref z) (.ref p5.objs.size) >>= _) _ _ _
  refine wpAny_bind ?_; unfold Builtin.SmallTypes.ownedTupleHandOut
  have gz6 : IsZip (p5.push { cls := .type "tuple", data := .seq #[u, v] }) z tI tO .ellipsis := Heap.get?_push_of_some _ gz5
  refine wpAny_bind (wpAny_setField_rec gz6 (by simp) fun p7 gz7 b7 => ?_)
  have gz7 : IsZip p7 z tI tO (rawInt p5.objs.size) := gz7
  refine wpAny_setField_rec gz7 (by simp) fun p8 gz8 b8 => wpAny_pure ⟨_, rfl, ?_⟩
  have gz8 : IsZip p8 z tI tO (rawInt p5.objs.size) := gz8
  have up : ∀ c o, c ≠ z → p5.get? c = some o → p8.get? c = some o := fun c o n e => by
    rw [b8.2 c n, b7.2 c n]
    exact Heap.get?_push_of_some _ e
  have gT : IsPair p8 p5.objs.size u v := by
    show p8.get? _ = _
    rw [b8.2 _ (Nat.ne_of_gt lz), b7.2 _ (Nat.ne_of_gt lz)]
    exact Heap.get?_push_size _ rfl
  have z8 : p8.objs.size = p5.objs.size + 1 := by rw [b8.1, b7.1, Heap.size_push]
  rw [zs] at gz8 gT z8
  show Q (.ref p5.objs.size) _
  rw [zs]
  refine q p8 gz8 (up _ _ D.TOz gO5) (g15.at fun o e => up _ o D.i1z e) (g25.at fun o e => up _ o D.i2z e) gT z8 fun c o n e => ?_
  have n4 : c ≠ z ∧ c ≠ tO ∧ c ≠ j1 ∧ c ≠ j2 := by
    rcases n with n | n
    · simp only [List.mem_cons, List.not_mem_nil, or_false, not_or] at n
      exact ⟨n.1, n.2.2.1, n.2.2.2.1, n.2.2.2.2⟩
    · subst n
      exact ⟨D.TIz, D.TITO, D.TIi1, D.TIi2⟩
  exact up c o n4.1 (kp c o n4.1 n4.2.1 n4.2.2.1 n4.2.2.2 e)
theorem mixEnd {z tI tO j1 j2 m1 m2 : Addr} {k : Nat} {us vs : Array Value} {a b : Value} {Q : Fin → Shared → Prop} (hh : A.handled = none) (D : ZipApart z tI tO j1 j2 m1 m2)
    (gz : IsZip s.heap z tI tO .none) (gI : IsPair s.heap tI (.ref j1) (.ref j2)) (gO : IsPair s.heap tO a b) (g1 : s.heap.IsTupleIter j1 m1 k) (g2 : s.heap.IsListIter j2 m2 k) (t1 : s.heap.IsTuple m1 us) (t2 : s.heap.IsList m2 vs) (hend : us[k]? = none ∨ vs[k]? = none)
    (q : ∀ h' x, (∀ c o, ¬ c ∈ [z, tI, tO, j1, j2] → s.heap.get? c = some o → h'.get? c = some o) → (∃ o, h'.get? x = some o ∧ o.cls = .type "StopIteration") → E (.ref x) { s with heap := h' }) :
    wpAny (model prog w) A (Builtin.«zip.__next__» ⟨[.ref z], []⟩) Q E s := by
  have four : ∀ c, ¬ c ∈ [z, tI, tO, j1, j2] → c ≠ z ∧ c ≠ tO ∧ c ≠ j1 ∧ c ≠ j2 := fun c n => by
    simp only [List.mem_cons, List.not_mem_nil, or_false, not_or] at n
    exact ⟨n.1, n.2.2.1, n.2.2.2.1, n.2.2.2.2⟩
  show wpAny _ _ (field (.ref z) 2 >>= _) _ _ _
  refine wpAny_bind (wpAny_field gz rfl (x := .bool false) rfl ?_)
  show wpAny _ _ (field (.ref z) 3 >>= _) _ _ _
  refine wpAny_bind (wpAny_field gz rfl (x := .ref tI) rfl (wpAny_bind (wpAny_seqItems gI rfl ?_)))
  show wpAny _ _ (Builtin.SmallTypes.ownedTupleIsFree (.ref z) >>= _) _ _ s
  refine wpAny_bind ?_; unfold Builtin.SmallTypes.ownedTupleIsFree
  refine wpAny_bind (wpAny_field gz rfl (x := .none) rfl (wpAny_pure ?_)); simp only [if_true]
  refine wpAny_bind (wpAny_rule (wpAny_bind (wpAny_field gz rfl (x := .ref tO) rfl (wpAny_bind (wpAny_setField_rec gz (by simp) fun p1 gz1 b1 => ?_)))))
  have gz1 : IsZip p1 z tI tO .ellipsis := gz1
  refine wpAny_bind ?_; simp only [List.forIn_cons, List.zipIdx_cons, List.forIn_nil, List.zipIdx_nil]
  refine wpAny_bind (wpAny_bind (wpAny_onRaise ?_))
  show wpAny _ _ (Builtin.SmallTypes.nextOf (.ref j1) >>= _) _ _ _
  have last : ∀ (h : Heap) (x : Addr), IsZip h z tI tO .ellipsis → (∃ o, h.get? x = some o ∧ o.cls = .type "StopIteration") → x ≠ z := fun h x gz ⟨o, e, ec⟩ n => by
    subst n
    rw [gz] at e
    cases e
    simp at ec
  cases e1 : us[k]? with
  | none =>
    refine wpAny_bind (RZ.nextOf_tuple_end hh (g1.extBut b1.extBut D.i1z) (t1.extBut b1.extBut D.l1z) e1 fun p2 x b2 ex => ?_)
    have gz2 : IsZip p2 z tI tO .ellipsis := b2 _ _ D.i1z.symm gz1
    have nz := last p2 x gz2 ex
    obtain ⟨o, eo, ec⟩ := ex
    refine wpAny_setField_rec gz2 (by simp) fun p3 _ b3 => q p3 x (fun c o n e => ?_) ⟨o, (b3.2 _ nz).trans eo, ec⟩
    have n4 := four c n
    rw [b3.2 c n4.1]
    exact b2 _ _ n4.2.2.1 ((b1.2 c n4.1).trans e)
  | some u =>
    have e2 : vs[k]? = none := by
      rcases hend with h | h
      · rw [e1] at h
        cases h
      · exact h
    refine wpAny_bind (RZ.nextOf_tuple_item (g1.extBut b1.extBut D.i1z) (t1.extBut b1.extBut D.l1z) e1 fun p2 g12 b2 => wpAny_pure ?_)
    have gO2 : IsPair p2 tO a b := b2.extBut _ _ D.TOi1 (b1.extBut _ _ D.TOz gO)
    refine wpAny_bind (wpAny_seqItems gO2 rfl (wpAny_bind (wpAny_updateSeq_pair gO2 fun p3 gO3 b3 => wpAny_bind (wpAny_letGo (wpAny_pure ?_)))))
    refine wpAny_bind (wpAny_bind (wpAny_onRaise ?_))
    show wpAny _ _ (Builtin.SmallTypes.nextOf (.ref j2) >>= _) _ _ _
    have g23 := ((g2.extBut b1.extBut D.i2z).extBut b2.extBut D.i12.symm).extBut b3.extBut D.TOi2.symm
    have t23 := ((t2.extBut b1.extBut D.l2z).extBut b2.extBut D.l2i1).extBut b3.extBut D.l2TO
    refine wpAny_bind (wpAny_nextOf_list_end hh g23 t23 e2 fun p4 x b4 ex => ?_)
    have gz4 : IsZip p4 z tI tO .ellipsis := b4 _ _ D.i2z.symm (b3.extBut _ _ D.TOz.symm (b2.extBut _ _ D.i1z.symm gz1))
    have nz := last p4 x gz4 ex
    obtain ⟨o, eo, ec⟩ := ex
    refine wpAny_setField_rec gz4 (by simp) fun p5 _ b5 => q p5 x (fun c o n e => ?_) ⟨o, (b5.2 _ nz).trans eo, ec⟩
    have n4 := four c n
    rw [b5.2 c n4.1]
    refine b4 _ _ n4.2.2.2 ?_
    rw [b3.2 c n4.2.1, b2.2 c n4.2.2.1, b1.2 c n4.1]
    exact e
theorem mixNextItem {z tI tO j1 j2 m1 m2 : Addr} {k : Nat} {us vs : Array Value} {u v a b : Value} {Q : Option Value → Shared → Prop} (D : ZipApart z tI tO j1 j2 m1 m2)
    (gz : IsZip s.heap z tI tO .none) (gI : IsPair s.heap tI (.ref j1) (.ref j2)) (gO : IsPair s.heap tO a b) (g1 : s.heap.IsTupleIter j1 m1 k) (g2 : s.heap.IsListIter j2 m2 k) (t1 : s.heap.IsTuple m1 us) (t2 : s.heap.IsList m2 vs) (e1 : us[k]? = some u) (e2 : vs[k]? = some v)
    (q : ∀ h', IsZip h' z tI tO (rawInt s.heap.objs.size) → IsPair h' tO u v → h'.IsTupleIter j1 m1 (k + 1) → h'.IsListIter j2 m2 (k + 1) → IsPair h' s.heap.objs.size u v → h'.objs.size = s.heap.objs.size + 1 →
      (∀ c o, ¬ c ∈ [z, tI, tO, j1, j2] ∨ c = tI → s.heap.get? c = some o → h'.get? c = some o) → Q (some (.ref s.heap.objs.size)) { s with heap := h' }) :
    wpAny (model prog w) A (pyNext (.ref z)) Q E s := by
  have ty : s.TypeIs (.ref z) "zip" := ⟨_, gz, rfl⟩
  unfold pyNext; refine wpAny_bind (wpAny_attempt (wpAny_callSpecial?_slot (name := Str.ofString "__next__") ty F.slot_zip_next ?_))
  exact wpAny_call_entry F.slot_zip_next ty F.entry_zip_next (mixItem D gz gI gO g1 g2 t1 t2 e1 e2 fun h' r1 r2 r3 r4 r5 r6 r7 => wpAny_pure (q h' r1 r2 r3 r4 r5 r6 r7)) (F.args_zip_next_1 _)
theorem mixNextEnd {z tI tO j1 j2 m1 m2 : Addr} {k : Nat} {us vs : Array Value} {a b : Value} {Q : Option Value → Shared → Prop} (hh : A.handled = none) (D : ZipApart z tI tO j1 j2 m1 m2)
    (gz : IsZip s.heap z tI tO .none) (gI : IsPair s.heap tI (.ref j1) (.ref j2)) (gO : IsPair s.heap tO a b) (g1 : s.heap.IsTupleIter j1 m1 k) (g2 : s.heap.IsListIter j2 m2 k) (t1 : s.heap.IsTuple m1 us) (t2 : s.heap.IsList m2 vs) (hend : us[k]? = none ∨ vs[k]? = none)
    (q : ∀ h', (∀ c o, ¬ c ∈ [z, tI, tO, j1, j2] → s.heap.get? c = some o → h'.get? c = some o) → Q none { s with heap := h' }) : wpAny (model prog w) A (pyNext (.ref z)) Q E s := by
  have ty : s.TypeIs (.ref z) "zip" := ⟨_, gz, rfl⟩
  unfold pyNext; refine wpAny_bind (wpAny_attempt (wpAny_callSpecial?_slot (name := Str.ofString "__next__") ty F.slot_zip_next ?_))
  refine wpAny_call_entry F.slot_zip_next ty F.entry_zip_next (mixEnd hh D gz gI gO g1 g2 t1 t2 hend fun h' x kp ⟨o, eo, ec⟩ => ?_) (F.args_zip_next_1 _)
  exact wpAny_bind (wpAny_isInstance (T := "StopIteration") (b := true) ⟨o, eo, ec⟩ isSubtype_stop (wpAny_pure (q _ kp)))
end
section
open PySem
/-- the tuple at a and the list at b as they stand at each turn -/
def ItzM (K : PySem.W.Frag) (a b : Addr) : It where
  go i H := ∃ (us vs : List V) (x y : V), SqT K H a us ∧ SqL K H b vs ∧ us[i]? = some x ∧ vs[i]? = some y
  yld i H v H' := ∃ c x y, v = .ref c ∧ H c = none ∧ H' = upd H c (.tup [x, y]) ∧ (∀ us, SqT K H a us → us[i]? = some x) ∧ ∀ vs, SqL K H b vs → vs[i]? = some y
  stop i H := ∃ us vs : List V, SqT K H a us ∧ SqL K H b vs ∧ (us.length ≤ i ∨ vs.length ≤ i)
theorem turnMix {P : Program} {w : World} {K : PySem.W.Frag} {el : List Expr} {n : Nat} {tp : Pos} {a b z tI tO j1 j2 : Addr} (D : ZipApart z tI tO j1 j2 a b) :
    Turn P w K (.Tuple el n tp) (ItzM K a b) [z, tI, tO, j1, j2] z (fun i h => IsZip h z tI tO .none ∧ IsPair h tI (.ref j1) (.ref j2) ∧ (∃ x y, IsPair h tO x y) ∧ h.IsTupleIter j1 a i ∧ h.IsListIter j2 b i) where
  mem := by simp
  obj := fun i h st c hc => by
    obtain ⟨gz, gI, ⟨x, y, gO⟩, ⟨o1, e1, _, d1⟩, o2, e2, _, d2⟩ := st
    simp only [List.mem_cons, List.not_mem_nil, or_false] at hc
    rcases hc with rfl | rfl | rfl | rfl | rfl
    · exact ⟨_, gz, fun v e => nomatch e⟩
    · exact ⟨_, gI, fun v e => nomatch e⟩
    · exact ⟨_, gO, fun v e => nomatch e⟩
    · exact ⟨o1, e1, fun v e => by rw [d1] at e; cases e⟩
    · exact ⟨o2, e2, fun v e => by rw [d2] at e; cases e⟩
  keep := fun i h h' st k => by
    obtain ⟨gz, gI, ⟨x, y, gO⟩, g1, g2⟩ := st
    exact ⟨k _ (by simp) _ gz, k _ (by simp) _ gI, ⟨x, y, k _ (by simp) _ gO⟩, g1.at fun o e => k _ (by simp) o e, g2.at fun o e => k _ (by simp) o e⟩
  item := by
    intro X eP ew eK hc i pins s σ H E I hf st hg
    subst eP ew eK
    obtain ⟨gz, gI, ⟨x0, y0, gO⟩, g1, g2⟩ := st
    obtain ⟨us, vs, x, y, s1, s2, e1, e2⟩ := hg
    obtain ⟨as, r1, t1, _⟩ := I.tuple s1
    obtain ⟨bs, r2, t2, _⟩ := I.list s2
    obtain ⟨u, eu, ru⟩ := r1.get e1
    obtain ⟨v, ev, rv⟩ := r2.get e2
    have lz : z < s.heap.objs.size := Heap.lt_size gz
    refine mixNextItem D gz gI gO g1 g2 t1 t2.isList (u := u) (v := v) (by simpa using eu) (by simpa using ev) fun h' k1 k2 k3 k4 k5 k6 k7 => ⟨_, rfl, ?_⟩
    refine wpAny_letOwnedTupleGo_zip (s := { s with heap := h' }) k1 fun h2 l1 sb => ?_
    have pr : h2.get? s.heap.objs.size = some { cls := .type "tuple", data := .seq #[u, v] } := (sb.2 _ (Nat.ne_of_gt lz)).trans k5
    have ok : ObjOk X.prog X.w (upd H s.heap.objs.size (.tup [x, y])) h2 s.heap.objs.size (.tup [x, y]) := ⟨by show 2 ≤ sizeLine; decide, [u, v], .cons ru (.cons rv .nil), _, pr, rfl, _, rfl⟩
    have J : Inv X pins σ (upd H s.heap.objs.size (.tup [x, y])) { s with heap := h2 } := I.turnedNew (t' := s.toks) (ch := [z, tI, tO, j1, j2]) (fun c o n e => by
      have nz : c ≠ z := fun e => n (by simp [e])
      exact (sb.2 c nz).trans (k7 c o (.inl n) e)) hf (Nat.le_refl _) ok
    refine ⟨.ref s.heap.objs.size, _, J, rfl, ⟨_, x, y, rfl, I.hok.fresh (Nat.le_refl _), rfl, fun l hl => ?_, fun l hl => ?_⟩, ⟨l1, ?_, ⟨u, v, ?_⟩, ?_, ?_⟩, fun c hcm => ?_⟩
    · rw [I.tuple_inj hl s1]
      exact e1
    · rw [I.list_inj hl s2]
      exact e2
    · exact (sb.2 _ D.TIz).trans (k7 _ _ (.inr rfl) gI)
    · exact (sb.2 _ D.TOz).trans k2
    · exact k3.at fun o e => (sb.2 _ D.i1z).trans e
    · exact k4.at fun o e => (sb.2 _ D.i2z).trans e
    · have lt : c < s.heap.objs.size := by
        have hc' := hcm
        simp only [List.mem_cons, List.not_mem_nil, or_false] at hc'
        rcases hc' with rfl | rfl | rfl | rfl | rfl
        · exact lz
        · exact Heap.lt_size gI
        · exact Heap.lt_size gO
        · exact g1.elim fun _ e => Heap.lt_size e.1
        · exact g2.elim fun _ e => Heap.lt_size e.1
      rw [upd_ne (Nat.ne_of_lt lt)]
      exact (hf c hcm).1
  done := by
    intro X eP ew eK hc i pins s σ H E I hf st hg
    subst eP ew eK
    obtain ⟨gz, gI, ⟨x0, y0, gO⟩, g1, g2⟩ := st
    obtain ⟨us, vs, s1, s2, he⟩ := hg
    obtain ⟨as, r1, t1, _⟩ := I.tuple s1
    obtain ⟨bs, r2, t2, _⟩ := I.list s2
    have l1 := r1.length
    have l2 := r2.length
    refine mixNextEnd (I.ok.hd hc) D gz gI gO g1 g2 t1 t2.isList ?_ fun h' kp => ⟨rfl, I.turnedL (t' := s.toks) (ch := [z, tI, tO, j1, j2]) (fun c o n e => kp c o n e) hf⟩
    rcases he with h | h
    · exact .inl (by simp; omega)
    · exact .inr (by simp; omega)
  self := fun A i s Q E st h => wpAny_pyIter_zip st.1 h
abbrev mx1 (h : Heap) (a : Addr) : Heap := h.push { cls := .type "tuple_iterator", data := .fields #[.ref a, .int 0 0] }
abbrev mx2 (h : Heap) (a b : Addr) : Heap := (mx1 h a).push { cls := .type "list_iterator", data := .fields #[.ref b, .int 0 0] }
abbrev mx3 (h : Heap) (a b : Addr) : Heap := (mx2 h a b).push { cls := .type "tuple", data := .seq #[.ref h.objs.size, .ref (mx1 h a).objs.size] }
abbrev mx4 (h : Heap) (a b : Addr) : Heap := (mx3 h a b).push { cls := .type "tuple", data := .seq #[.none, .none] }
abbrev mx5 (h : Heap) (a b : Addr) : Heap := (mx4 h a b).push { cls := .type "zip", data := .fields #[.none, .bool false, .bool false, .ref (mx2 h a b).objs.size, .ref (mx3 h a b).objs.size] }
theorem mixMade (a b : Addr) (us vs : Array Value) : Meets (Builtin.«zip.__new__» ⟨[.type "zip", .ref a, .ref b], []⟩) (fun _ R s => s.heap.IsTuple a us ∧ s.heap.IsList b vs ∧ R (.ok (.ret (.ref (mx4 s.heap a b).objs.size))) { s with heap := mx5 s.heap a b }) :=
  .of_wp fun prog w A R s h => by
    obtain ⟨hp, g, d, tk, os⟩ := s
    obtain ⟨t1, t2, q⟩ := h
    have sz := sub_zip
    have T1 : Heap.IsTuple (Shared.heap ⟨hp, g, d, tk, os⟩) a us := t1
    have T2 : Heap.IsList (Shared.heap ⟨hp.push { cls := .type "tuple_iterator", data := .fields #[.ref a, .int 0 0] }, g, d, tk, os⟩) b vs := Heap.IsList.push t2 _
    wp_walk using wpAny_pyIter_tuple T1, wpAny_pyIter_list T2
    exact ⟨_, rfl, q⟩
theorem mixCall {prog : Program} {w : World} {A : Around} {E : Value → Shared → Prop} {s : Shared} {a b : Addr} {us vs : Array Value} {Q : Value → Shared → Prop} (t1 : s.heap.IsTuple a us) (t2 : s.heap.IsList b vs)
    (q : ∀ h', IsZip h' (s.heap.objs.size + 4) (s.heap.objs.size + 2) (s.heap.objs.size + 3) .none ∧ IsPair h' (s.heap.objs.size + 2) (.ref s.heap.objs.size) (.ref (s.heap.objs.size + 1)) ∧ IsPair h' (s.heap.objs.size + 3) .none .none ∧ h'.IsTupleIter s.heap.objs.size a 0 ∧ h'.IsListIter (s.heap.objs.size + 1) b 0 →
      (∀ c o, s.heap.get? c = some o → h'.get? c = some o) → Q (.ref (s.heap.objs.size + 4)) { s with heap := h' }) : wpAny (model prog w) A (call (.type "zip") [.ref a, .ref b]) Q E s := by
  refine callType_new F.called_zip (by decide) (F.typeCall_zip_2 _ _) (F.newCall_zip_2 _ _) (fun ob => F.args_object_init_3 ob _ _) F.entry_zip_new (mixMade a b us vs) ⟨t1, t2, ?_⟩
  have n1 : (mx1 s.heap a).objs.size = s.heap.objs.size + 1 := Heap.size_push ..
  have n2 : (mx2 s.heap a b).objs.size = s.heap.objs.size + 2 := by rw [Heap.size_push, n1]
  have n3 : (mx3 s.heap a b).objs.size = s.heap.objs.size + 3 := by rw [Heap.size_push, n2]
  have n4 : (mx4 s.heap a b).objs.size = s.heap.objs.size + 4 := by rw [Heap.size_push, n3]
  have on : ∀ {h : Heap} {c : Addr} {o p : Obj}, h.get? c = some o → (h.push p).get? c = some o := fun e => Heap.get?_push_of_some _ e
  have f5 : (mx5 s.heap a b).get? (mx4 s.heap a b).objs.size = some _ := Heap.get?_push_size _ rfl
  have f4 : (mx5 s.heap a b).get? (mx3 s.heap a b).objs.size = some _ := on (Heap.get?_push_size _ rfl)
  have f3 : (mx5 s.heap a b).get? (mx2 s.heap a b).objs.size = some _ := on (on (Heap.get?_push_size _ rfl))
  have f2 : (mx5 s.heap a b).get? (mx1 s.heap a).objs.size = some _ := on (on (on (Heap.get?_push_size _ rfl)))
  have f1 : (mx5 s.heap a b).get? s.heap.objs.size = some _ := on (on (on (on (Heap.get?_push_size _ rfl))))
  rw [n2, n3, n4] at f5
  rw [n1, n2] at f3
  rw [n3] at f4
  rw [n1] at f2
  show _ ∧ _
  rw [n4]
  exact ⟨⟨_, f5, rfl⟩, q _ ⟨f5, f3, f4, ⟨_, f1, rfl, rfl⟩, _, f2, rfl, rfl⟩ fun c o e => on (on (on (on (on e))))⟩
def iMix (K : PySem.W.Frag) (ta : TA) : L2.TI := fun σ H R => ta σ H fun vs H1 => ∃ a b xs ys, vs = [.ref a, .ref b] ∧ SqT K H1 a xs ∧ SqL K H1 b ys ∧ R (ItzM K a b) H1
theorem pi_mix {X : Cx} {e e2 : Expr} {ta : TA} {p pos tp : Pos} {el : List Expr} {n : Nat} (hg : Gl X "zip") (hm : X.mg "zip" = none) (ha : PA X [e, e2] ta)
    (h1 : starEach [e, e2] X.env = (false, eval e X.env) :: starEach [e2] X.env := by rfl) (h2 : (backTo pos (starEach [e2] X.env)).any (·.1) = false := by rfl) : PI X (.Tuple el n tp) (.Call (.Name "zip" p) [e, e2] [] pos) (iMix X.K ta) := by
  constructor
  intro pins s σ H R I h
  refine Call_ (ld_blt I hg hm PyProof.Rows.boot_zip (PyProof.Rows.callWith_type1 (thn (ha.run pos pins s σ H _ I h) fun us s1 hz => ?_) h1 h2))
  obtain ⟨vs, H1, J, va, a, b, xs, ys, rfl, hx, hy, q⟩ := hz
  match us, va with
  | [_, _], .cons r1 (.cons r2 .nil) =>
    cases r1
    cases r2
    obtain ⟨as, rv1, t1, _⟩ := J.tuple hx
    obtain ⟨bs, rv2, t2, _⟩ := J.list hy
    have la : a < s1.heap.objs.size := t1.elim fun _ z => Heap.lt_size z.1
    refine mixCall t1 t2.isList fun h' st kp => wpAny_pyIter_zip st.1 ?_
    refine ⟨s1.heap.objs.size + 4, [s1.heap.objs.size + 4, s1.heap.objs.size + 2, s1.heap.objs.size + 3, s1.heap.objs.size, s1.heap.objs.size + 1], _, _, H1, rfl, J.kept (t' := s1.toks) kp, turnMix (PySem.W.ktu_apart s1.heap.objs.size a b la t2.lt), ⟨st.1, st.2.1, ⟨_, _, st.2.2.1⟩, st.2.2.2.1, st.2.2.2.2⟩, fun c hc => ?_, q⟩
    have le : s1.heap.objs.size ≤ c := by
      simp only [List.mem_cons, List.not_mem_nil, or_false] at hc
      rcases hc with rfl | rfl | rfl | rfl | rfl
      · exact Nat.le_add_right _ _
      · exact Nat.le_add_right _ _
      · exact Nat.le_add_right _ _
      · exact Nat.le_refl _
      · exact Nat.le_add_right _ _
    exact J.fpOk le (J.hok.fresh le)
theorem walk_mix {K : PySem.W.Frag} {a b : Addr} {xs ys : List V} (hl : xs.length = ys.length) : Walk (ItzM K a b) xs.length (fun H => SqT K H a xs ∧ SqL K H b ys) (YPair (fun i => xs[i]?) (fun i => ys[i]?)) where
  goes i H hi q := ⟨xs, ys, xs[i], ys[i]'(hl ▸ hi), q.1, q.2, List.getElem?_eq_getElem hi, List.getElem?_eq_getElem (hl ▸ hi)⟩
  stops H q := ⟨xs, ys, q.1, q.2, .inl (Nat.le_refl _)⟩
  yields i H v H' _ q y := by
    obtain ⟨c, x, z, k1, k2, k3, k4, k5⟩ := y
    exact ⟨c, x, z, k1, k2, k3, k4 xs q.1, k5 ys q.2⟩
end
/-! ### enumerate of a tuple -/
section
open PySem
theorem enuMade (a : Addr) (us : Array Value) (n : Nat) (dc : Option Addr) (sl : Array (Option Value)) : Meets (Builtin.«enumerate.__new__» ⟨[.type "enumerate", .ref a], []⟩) (fun _ R s => s.heap.get? a = some { cls := .type "tuple", dict := dc, data := .seq us n, slots := sl } ∧
      R (.ok (.ret (.ref (s.heap.push { cls := .type "tuple_iterator", data := .fields #[.ref a, .int 0 0] }).objs.size)))
        { s with heap := (s.heap.push { cls := .type "tuple_iterator", data := .fields #[.ref a, .int 0 0] }).push { cls := .type "enumerate", data := .fields #[.none, .bool false, .ref s.heap.objs.size, rawInt 0, .none, .none] } }) :=
  .of_wp fun prog w A R s h => by
    obtain ⟨hp, g, d, tk, os⟩ := s
    obtain ⟨e, q⟩ := h
    have su := sub_enumerate
    have T : Heap.IsTuple (Shared.heap ⟨hp, g, d, tk, os⟩) a us := ⟨_, e, rfl, n, rfl⟩
    wp_walk using PySem.AutoSeq1.wpAny_loadPart' e
    refine wpAny_stack_any fun st => wpAny_pure ?_
    split
    · rename_i c _ _ _ _ _
      cases (c == Value.type "enumerate")
      · wp_walk using PySem.AutoSeq1.wpAny_loadPart' e, wpAny_pyIter_tuple T
        exact ⟨_, rfl, q⟩
      · wp_walk using PySem.AutoSeq1.wpAny_loadPart' e, wpAny_pyIter_tuple T
        exact ⟨_, rfl, q⟩
    · wp_walk using PySem.AutoSeq1.wpAny_loadPart' e, wpAny_pyIter_tuple T
      exact ⟨_, rfl, q⟩
variable {prog : Program} {w : World} {A : Around} {E : Value → Shared → Prop} {s : Shared}
theorem enuCall {a : Addr} {us : Array Value} {Q : Value → Shared → Prop} (t : s.heap.IsTuple a us)
    (q : ∀ h', IsEnum h' (s.heap.objs.size + 1) s.heap.objs.size 0 .none → h'.IsTupleIter s.heap.objs.size a 0 → (∀ b o, s.heap.get? b = some o → h'.get? b = some o) → Q (.ref (s.heap.objs.size + 1)) { s with heap := h' }) :
    wpAny (model prog w) A (call (.type "enumerate") [.ref a]) Q E s := by
  obtain ⟨⟨c, dc, dt, sl⟩, e, ec, n, ed⟩ := t
  have ec : c = .type "tuple" := ec
  have ed : dt = .seq us n := ed
  subst ec ed
  refine callType_new F.called_enumerate (by decide) (F.typeCall_enumerate_1 _) (F.newCall_enumerate_1 _) (fun ob => F.args_object_init_2 ob _) F.entry_enumerate_new (enuMade a us n dc sl) ⟨e, ?_⟩
  have z : (s.heap.push { cls := .type "tuple_iterator", data := .fields #[.ref a, .int 0 0] }).objs.size = s.heap.objs.size + 1 := Heap.size_push ..
  have g2 : ((s.heap.push { cls := .type "tuple_iterator", data := .fields #[.ref a, .int 0 0] }).push { cls := .type "enumerate", data := .fields #[.none, .bool false, .ref s.heap.objs.size, rawInt 0, .none, .none] }).get? (s.heap.push { cls := .type "tuple_iterator", data := .fields #[.ref a, .int 0 0] }).objs.size = some _ := Heap.get?_push_size _ rfl
  show _ ∧ _
  rw [z] at g2 ⊢
  exact ⟨⟨_, g2, rfl⟩, q _ g2 ⟨_, Heap.get?_push_of_some _ (Heap.get?_push_size _ rfl), rfl, rfl⟩ fun b o x => Heap.get?_push_of_some _ (Heap.get?_push_of_some _ x)⟩
theorem enuItem {e j a : Addr} {i : Nat} {us : Array Value} {x old : Value} {Q : Value → Shared → Prop} (g : IsEnum s.heap e j i old) (gj : s.heap.IsTupleIter j a i) (t : s.heap.IsTuple a us) (ex : us[i]? = some x) (ne : e ≠ j)
    (q : ∀ h', IsEnumOut h' e j ((i : Int) + 1) x s.heap.objs.size → h'.IsTupleIter j a (i + 1) → h'.get? s.heap.objs.size = some { cls := .type "tuple", data := .seq #[.int i s.toks, x] } →
      (∀ b o, b ≠ e → b ≠ j → s.heap.get? b = some o → h'.get? b = some o) → Q (.ref s.heap.objs.size) { s with heap := h', toks := s.toks + 1 }) :
    wpAny (model prog w) A (Builtin.«enumerate.__next__» ⟨[.ref e], []⟩) (fun r s' => ∃ v, r = .done (.ret v) ∧ Q v s') E s := by
  obtain ⟨hp, gg, dd, tk, os⟩ := s
  show wpAny _ _ (field (.ref e) 2 >>= _) _ _ _
  refine wpAny_bind (wpAny_field g rfl (x := .ref j) rfl (wpAny_bind (RZ.nextOf_tuple_item gj t ex fun p1 gj1 b1 => ?_)))
  have b1 : Heap.SameBut j hp p1 := b1
  have g1 : IsEnum p1 e j i old := (b1.2 e ne).trans g
  show wpAny _ _ (field (.ref e) 3 >>= _) _ _ ⟨p1, gg, dd, tk, os⟩
  refine wpAny_bind (wpAny_field g1 rfl (x := rawInt i) rfl ?_)
  show wpAny _ _ (field (.ref e) 4 >>= _) _ _ ⟨p1, gg, dd, tk, os⟩
  refine wpAny_bind (wpAny_field g1 rfl (x := .none) rfl ?_)
  show wpAny _ _ (mkInt i >>= _) _ _ ⟨p1, gg, dd, tk, os⟩
  refine wpAny_bind (wpAny_mkInt ?_)
  show wpAny _ _ (setField (.ref e) 3 (rawInt ((i : Int) + 1)) >>= _) _ _ ⟨p1, gg, dd, tk + 1, os⟩
  refine wpAny_bind (wpAny_setField_rec g1 (by simp) fun p2 g2 b2 => ?_)
  have b2 : Heap.SameBut e p1 p2 := b2
  have g2 : IsEnum p2 e j ((i : Int) + 1) old := g2
  show wpAny _ _ (setField (.ref e) 4 .none >>= _) _ _ ⟨p2, gg, dd, tk + 1, os⟩
  refine wpAny_bind (wpAny_setField_rec g2 (by simp) fun p3 g3 b3 => ?_)
  have b3 : Heap.SameBut e p2 p3 := b3
  have g3 : IsEnum p3 e j ((i : Int) + 1) old := g3
  show wpAny _ _ (newTuple [.int i tk, x] >>= _) _ _ ⟨p3, gg, dd, tk + 1, os⟩
  refine wpAny_bind (wpAny_newTuple ?_)
  have zs : p3.objs.size = hp.objs.size := by rw [b3.1, b2.1, b1.1]
  have g4 : IsEnum (p3.push { cls := .type "tuple", data := .seq #[.int i tk, x] }) e j ((i : Int) + 1) old := Heap.get?_push_of_some _ g3
  have t4 : (p3.push { cls := .type "tuple", data := .seq #[.int i tk, x] }).get? hp.objs.size = some { cls := .type "tuple", data := .seq #[.int i tk, x] } := by
    rw [← zs]
    exact Heap.get?_push_size _ rfl
  have k4 : ∀ b o, b ≠ e → b ≠ j → hp.get? b = some o → (p3.push { cls := .type "tuple", data := .seq #[.int i tk, x] }).get? b = some o := fun b o n1 n2 h => Heap.get?_push_of_some _ (by
    rw [b3.2 b n1, b2.2 b n1, b1.2 b n2]
    exact h)
  have j4 : (p3.push { cls := .type "tuple", data := .seq #[.int i tk, x] }).IsTupleIter j a (i + 1) := gj1.at fun o h => Heap.get?_push_of_some _ (by
    rw [b3.2 j ne.symm, b2.2 j ne.symm]
    exact h)
  have el : e < hp.objs.size := Heap.lt_size g
  show wpAny _ _ (Builtin.SmallTypes.ownedTupleIsFree (.ref e) >>= _) _ _ ⟨p3.push { cls := .type "tuple", data := .seq #[.int i tk, x] }, gg, dd, tk + 1, os⟩
  rw [zs]
  generalize p3.push { cls := .type "tuple", data := .seq #[.int i tk, x] } = p4 at g4 t4 k4 j4
  refine wpAny_bind ?_; unfold Builtin.SmallTypes.ownedTupleIsFree
  refine wpAny_bind (wpAny_field g4 rfl (x := .none) rfl (wpAny_pure ?_)); simp only [if_true]
  refine wpAny_bind (wpAny_rule (wpAny_bind (wpAny_field g4 rfl (x := old) rfl (wpAny_bind (wpAny_setField_rec g4 (by simp) fun p5 g5 b5 => ?_)))))
  have b5 : Heap.SameBut e p4 p5 := b5
  have g5 : IsEnum p5 e j ((i : Int) + 1) x := g5
  show wpAny _ _ (Builtin.SmallTypes.ownedTupleHandOut (.ref e) (.ref hp.objs.size) >>= _) _ _ ⟨p5, gg, dd, tk + 1, os⟩
  refine wpAny_bind ?_; unfold Builtin.SmallTypes.ownedTupleHandOut
  refine wpAny_bind (wpAny_setField_rec g5 (by simp) fun p6 g6 b6 => ?_)
  have b6 : Heap.SameBut e p5 p6 := b6
  have g6 : IsEnumOut p6 e j ((i : Int) + 1) x hp.objs.size := g6
  refine wpAny_setField_rec g6 (by simp) fun p7 g7 b7 => ?_
  have b7 : Heap.SameBut e p6 p7 := b7
  have up : ∀ b o, b ≠ e → p4.get? b = some o → p7.get? b = some o := fun b o n h => by
    rw [b7.2 b n, b6.2 b n, b5.2 b n]
    exact h
  exact wpAny_bind (wpAny_letGo (wpAny_pure ⟨_, rfl, q p7 g7 (j4.at fun o h => up _ o ne.symm h) (up _ _ (Nat.ne_of_gt el) t4) fun b o n1 n2 h => up b o n1 (k4 b o n1 n2 h)⟩))
theorem enuNextItem {e j a : Addr} {i : Nat} {us : Array Value} {x old : Value} {Q : Option Value → Shared → Prop} (g : IsEnum s.heap e j i old) (gj : s.heap.IsTupleIter j a i) (t : s.heap.IsTuple a us) (ex : us[i]? = some x) (ne : e ≠ j)
    (q : ∀ h', IsEnumOut h' e j ((i : Int) + 1) x s.heap.objs.size → h'.IsTupleIter j a (i + 1) → h'.get? s.heap.objs.size = some { cls := .type "tuple", data := .seq #[.int i s.toks, x] } →
      (∀ b o, b ≠ e → b ≠ j → s.heap.get? b = some o → h'.get? b = some o) → Q (some (.ref s.heap.objs.size)) { s with heap := h', toks := s.toks + 1 }) : wpAny (model prog w) A (pyNext (.ref e)) Q E s := by
  have ty : s.TypeIs (.ref e) "enumerate" := ⟨_, g, rfl⟩
  unfold pyNext; refine wpAny_bind (wpAny_attempt (wpAny_callSpecial?_slot (name := Str.ofString "__next__") ty F.slot_enumerate_next ?_))
  exact wpAny_call_entry F.slot_enumerate_next ty F.entry_enumerate_next (enuItem g gj t ex ne fun h' r1 r2 r3 r4 => wpAny_pure (q h' r1 r2 r3 r4)) (F.args_enumerate_next_1 _)
theorem enuNextEnd {e j a : Addr} {i : Nat} {us : Array Value} {old : Value} {Q : Option Value → Shared → Prop} (hh : A.handled = none) (g : IsEnum s.heap e j i old) (gj : s.heap.IsTupleIter j a i) (t : s.heap.IsTuple a us) (ex : us[i]? = none)
    (q : ∀ h', Heap.ExtBut j s.heap h' → Q none { s with heap := h' }) : wpAny (model prog w) A (pyNext (.ref e)) Q E s := by
  have ty : s.TypeIs (.ref e) "enumerate" := ⟨_, g, rfl⟩
  unfold pyNext; refine wpAny_bind (wpAny_attempt (wpAny_callSpecial?_slot (name := Str.ofString "__next__") ty F.slot_enumerate_next ?_))
  refine wpAny_call_entry F.slot_enumerate_next ty F.entry_enumerate_next ?_ (F.args_enumerate_next_1 _)
  show wpAny _ _ (field (.ref e) 2 >>= _) _ _ _
  refine wpAny_bind (wpAny_field g rfl (x := .ref j) rfl (wpAny_bind (RZ.nextOf_tuple_end hh gj t ex fun h' x b ⟨o, eo, ec⟩ => ?_)))
  exact wpAny_bind (wpAny_isInstance (T := "StopIteration") (b := true) ⟨o, eo, ec⟩ isSubtype_stop (wpAny_pure (q _ b)))
/-- the tuple at a, each item in a new pair -/
def IteT (K : PySem.W.Frag) (a : Addr) : It where
  go i H := ∃ (us : List V) (x : V), SqT K H a us ∧ us[i]? = some x
  yld i H v H' := ∃ c x, v = .ref c ∧ H c = none ∧ H' = upd H c (.tup [.int (i : Nat), x]) ∧ ∀ us, SqT K H a us → us[i]? = some x
  stop i H := ∃ us : List V, SqT K H a us ∧ us.length ≤ i
theorem turnEnuT {P : Program} {w : World} {K : PySem.W.Frag} {el : List Expr} {n : Nat} {tp : Pos} (a e j : Addr) :
    Turn P w K (.Tuple el n tp) (IteT K a) [e, j] e (fun i h => (∃ old, IsEnum h e j ((i : Nat) : Int) old) ∧ h.IsTupleIter j a i ∧ e ≠ j) where
  mem := by simp
  obj := fun i h st b hb => by
    obtain ⟨⟨old, g⟩, ⟨o, eo, _, ed⟩, _⟩ := st
    simp only [List.mem_cons, List.not_mem_nil, or_false] at hb
    rcases hb with rfl | rfl
    · exact ⟨_, g, fun v q => nomatch q⟩
    · exact ⟨o, eo, fun v q => by rw [ed] at q; cases q⟩
  keep := fun i h h' st k => by
    obtain ⟨⟨old, g⟩, gj, ne⟩ := st
    exact ⟨⟨old, k _ (by simp) _ g⟩, gj.at fun o q => k _ (by simp) o q, ne⟩
  item := by
    intro X eP ew eK hc i pins s σ H E I hf st hg
    subst eP ew eK
    obtain ⟨⟨old, g⟩, gj, ne⟩ := st
    obtain ⟨us, x, hq, ex⟩ := hg
    obtain ⟨as, r1, t1, _⟩ := I.tuple hq
    obtain ⟨u, eu, ru⟩ := r1.get ex
    have el : e < s.heap.objs.size := Heap.lt_size g
    have jl : j < s.heap.objs.size := gj.elim fun _ q => Heap.lt_size q.1
    refine enuNextItem g gj t1 (x := u) (by simpa using eu) ne fun h' k1 k2 k3 k4 => ⟨_, rfl, ?_⟩
    refine wpAny_letOwnedTupleGo_enum (s := { s with heap := h', toks := s.toks + 1 }) k1 fun h2 l1 sb => ?_
    have pr : h2.get? s.heap.objs.size = some { cls := .type "tuple", data := .seq #[.int i s.toks, u] } := (sb.2 _ (Nat.ne_of_gt el)).trans k3
    have ok : ObjOk X.prog X.w (upd H s.heap.objs.size (.tup [.int (i : Nat), x])) h2 s.heap.objs.size (.tup [.int (i : Nat), x]) := ⟨by show 2 ≤ sizeLine; decide, [.int i s.toks, u], .cons ⟨_, rfl⟩ (.cons ru .nil), _, pr, rfl, _, rfl⟩
    have J : Inv X pins σ (upd H s.heap.objs.size (.tup [.int (i : Nat), x])) { s with heap := h2, toks := s.toks + 1 } := I.turnedNew (ch := [e, j]) (fun b o n q => by
      have n1 : b ≠ e := fun z => n (by simp [z])
      have n2 : b ≠ j := fun z => n (by simp [z])
      exact (sb.2 b n1).trans (k4 b o n1 n2 q)) hf (Nat.le_refl _) ok
    refine ⟨.ref s.heap.objs.size, _, J, rfl, ⟨_, x, rfl, I.hok.fresh (Nat.le_refl _), rfl, fun ys hy => ?_⟩, ⟨⟨u, ?_⟩, k2.at fun o q => (sb.2 j ne.symm).trans q, ne⟩, fun b hb => ?_⟩
    · rw [I.tuple_inj hy hq]
      exact ex
    · rw [show ((i + 1 : Nat) : Int) = (i : Int) + 1 by omega]
      exact l1
    · have lt : b < s.heap.objs.size := by
        have hb' := hb
        simp only [List.mem_cons, List.not_mem_nil, or_false] at hb'
        rcases hb' with rfl | rfl
        · exact el
        · exact jl
      rw [upd_ne (Nat.ne_of_lt lt)]
      exact (hf b hb).1
  done := by
    intro X eP ew eK hc i pins s σ H E I hf st hg
    subst eP ew eK
    obtain ⟨⟨old, g⟩, gj, ne⟩ := st
    obtain ⟨us, hq, hx⟩ := hg
    obtain ⟨as, r1, t1, _⟩ := I.tuple hq
    obtain ⟨f0, f1, f2, f3, f4, f5⟩ := hf j (by simp)
    have l1 := r1.length
    exact enuNextEnd (I.ok.hd hc) g gj t1 (by simp; omega) fun h' b => ⟨rfl, I.turned (t' := s.toks) (fun c o n q => b c o n q) f0 f1 f3 f4 f5⟩
  self := fun A i s Q E st h => st.1.elim fun _ g => wpAny_pyIter_enum g h
def iEnuT (K : PySem.W.Frag) (ta : TA) : L2.TI := fun σ H R => ta σ H fun vs H1 => ∃ a xs, vs = [.ref a] ∧ SqT K H1 a xs ∧ R (IteT K a) H1
theorem pi_enuT {X : Cx} {e : Expr} {ta : TA} {p pos tp : Pos} {el : List Expr} {n : Nat} (hg : Gl X "enumerate") (hm : X.mg "enumerate" = none) (ha : PA X [e] ta) (h1 : starEach [e] X.env = [(false, eval e X.env)] := by rfl) :
    PI X (.Tuple el n tp) (.Call (.Name "enumerate" p) [e] [] pos) (iEnuT X.K ta) := by
  constructor
  intro pins s σ H R I h
  refine Call_ (ld_blt I hg hm boot_enumerate (PyProof.Rows.callWith_type1 (thn (ha.run pos pins s σ H _ I h) fun us s1 hz => ?_) h1 rfl))
  obtain ⟨vs, H1, J, va, a, xs, rfl, hx, q⟩ := hz
  match us, va with
  | [_], .cons r1 .nil =>
    cases r1
    obtain ⟨as, rv, t1, _⟩ := J.tuple hx
    refine enuCall t1 fun h' g gj kp => wpAny_pyIter_enum g ?_
    refine ⟨s1.heap.objs.size + 1, [s1.heap.objs.size + 1, s1.heap.objs.size], _, _, H1, rfl, J.kept (t' := s1.toks) kp, turnEnuT a (s1.heap.objs.size + 1) s1.heap.objs.size, ⟨⟨.none, g⟩, gj, Nat.succ_ne_self _⟩, fun b hb => ?_, q⟩
    have le : s1.heap.objs.size ≤ b := by
      simp only [List.mem_cons, List.not_mem_nil, or_false] at hb
      rcases hb with rfl | rfl
      · exact Nat.le_add_right _ _
      · exact Nat.le_refl _
    exact J.fpOk le (J.hok.fresh le)
theorem walk_enuT {K : PySem.W.Frag} {a : Addr} {xs : List V} : Walk (IteT K a) xs.length (fun H => SqT K H a xs) (YPair (fun i => some (.int (i : Nat))) (fun i => xs[i]?)) where
  goes i H hi q := ⟨xs, xs[i], q, List.getElem?_eq_getElem hi⟩
  stops H q := ⟨xs, q, Nat.le_refl _⟩
  yields i H v H' _ q y := by
    obtain ⟨c, x, k1, k2, k3, k4⟩ := y
    exact ⟨c, .int (i : Nat), x, k1, k2, k3, rfl, k4 xs q⟩
end
/-! ### weights between two places -/
abbrev mnI (x y : Int) : Int := if y < x then y else x
abbrev mxI (x y : Int) : Int := if y > x then y else x
def ovl (a b : Int) (t : Int × Int × Int) : Int := mxI 0 (mnI t.2.1 b - mxI t.1 a)
def wsum (a b : Int) (ts : List (Int × Int × Int)) : Int := (ts.map fun t => t.2.2 * ovl a b t).sum
def WL (a b : Int) (Ls : List Lw) : Int := (Ls.map fun L => wsum a b (partsOf L.le L.ps L.pl)).sum
def thickS (Ls : List Lw) (p : Int) : Int := (Ls.map fun L => thickL L p).sum
theorem ovl_add {a b c : Int} (h1 : a ≤ b) (h2 : b ≤ c) (t : Int × Int × Int) : ovl a b t + ovl b c t = ovl a c t := by
  unfold ovl mxI mnI
  (repeat' split) <;> omega
theorem ovl_same (c : Int) (t : Int × Int × Int) : ovl c c t = 0 := by
  unfold ovl mxI mnI
  (repeat' split) <;> omega
theorem wsum_cons (a b : Int) (t : Int × Int × Int) (r : List (Int × Int × Int)) : wsum a b (t :: r) = t.2.2 * ovl a b t + wsum a b r := by
  unfold wsum
  rw [List.map_cons, List.sum_cons]
theorem wsum_app (a b : Int) (r s : List (Int × Int × Int)) : wsum a b (r ++ s) = wsum a b r + wsum a b s := by
  unfold wsum
  rw [List.map_append, List.sum_append]
theorem wsum_add {a b c : Int} (h1 : a ≤ b) (h2 : b ≤ c) : ∀ ts, wsum a b ts + wsum b c ts = wsum a c ts
  | [] => rfl
  | t :: r => by
    rw [wsum_cons, wsum_cons, wsum_cons, ← wsum_add h1 h2 r, ← ovl_add h1 h2 t, Int.mul_add]
    omega
theorem wsum_same (c : Int) : ∀ ts, wsum c c ts = 0
  | [] => rfl
  | t :: r => by rw [wsum_cons, wsum_same c r, ovl_same, Int.mul_zero]; rfl
theorem WL_cons (a b : Int) (L : Lw) (r : List Lw) : WL a b (L :: r) = wsum a b (partsOf L.le L.ps L.pl) + WL a b r := by
  unfold WL
  rw [List.map_cons, List.sum_cons]
theorem WL_add {a b c : Int} (h1 : a ≤ b) (h2 : b ≤ c) : ∀ Ls, WL a b Ls + WL b c Ls = WL a c Ls
  | [] => rfl
  | L :: r => by
    have := wsum_add h1 h2 (partsOf L.le L.ps L.pl)
    have := WL_add h1 h2 r
    rw [WL_cons, WL_cons, WL_cons]
    omega
theorem WL_same (c : Int) : ∀ Ls, WL c c Ls = 0
  | [] => rfl
  | L :: r => by rw [WL_cons, wsum_same, WL_same c r]; rfl
theorem WL_snoc (a b : Int) (Ls : List Lw) (L : Lw) : WL a b (Ls ++ [L]) = WL a b Ls + wsum a b (partsOf L.le L.ps L.pl) := by
  unfold WL
  rw [List.map_append, List.sum_append]
  simp
/-- both ways of parting are one -/
theorem parts_none {n : Int} : ∀ (ps : List (Int × Int)) (st : Int), (∀ p ∈ ps, 1 ≤ p.2) → n ≤ st → partsOf (some n) ps st = []
  | [], _, _, _ => rfl
  | (t, g) :: r, st, hg, h => by
    have hg1 : 1 ≤ g := hg (t, g) (by simp)
    have hc : clip (some n) (st + g) = n := by
      show (if n < st + g then n else st + g) = n
      rw [if_pos (by omega)]
    show (if st < clip (some n) (st + g) then [(st, clip (some n) (st + g), t)] else []) ++ partsOf (some n) r (clip (some n) (st + g)) = []
    rw [hc, if_neg (by omega), parts_none r n (fun x hx => hg x (by simp [hx])) (Int.le_refl _)]
    rfl
theorem parts_eq {le : Option Int} : ∀ (ps : List (Int × Int)) (st : Int), (∀ p ∈ ps, 1 ≤ p.2) → lawParts le ps st = partsOf le ps st
  | [], _, _ => rfl
  | (t, g) :: r, st, hg => by
    have hg1 : 1 ≤ g := hg (t, g) (by simp)
    have hr : ∀ p ∈ r, 1 ≤ p.2 := fun x hx => hg x (by simp [hx])
    show (if st < clip le (st + g) then [(st, clip le (st + g), t)] else []) ++ lawParts le r (st + g) = (if st < clip le (st + g) then [(st, clip le (st + g), t)] else []) ++ partsOf le r (clip le (st + g))
    cases le with
    | none => rw [parts_eq r (st + g) hr]; rfl
    | some n =>
      by_cases h : n < st + g
      · have hc : clip (some n) (st + g) = n := by
          show (if n < st + g then n else st + g) = n
          rw [if_pos h]
        rw [hc, law_nil r (st + g) hr (.inr ⟨n, rfl, by omega⟩), parts_none r n hr (Int.le_refl _)]
      · have hc : clip (some n) (st + g) = st + g := by
          show (if n < st + g then n else st + g) = st + g
          rw [if_neg h]
        rw [hc, parts_eq r (st + g) hr]
theorem law_mem {le : Option Int} : ∀ (ps : List (Int × Int)) (st : Int), (∀ p ∈ ps, 1 ≤ p.2) → ∀ x ∈ lawParts le ps st, st ≤ x.1 ∧ x.1 < x.2.1 ∧ x.2.1 ≤ st + longs ps ∧ ∃ g, (x.2.2, g) ∈ ps
  | [], _, _, x, h => by cases h
  | (t, g) :: r, st, hg, x, h => by
    have hg1 : 1 ≤ g := hg (t, g) (by simp)
    have hr : ∀ p ∈ r, 1 ≤ p.2 := fun x hx => hg x (by simp [hx])
    have h0 := longs_nonneg hr
    have h : x ∈ (if st < clip le (st + g) then [(st, clip le (st + g), t)] else []) ++ lawParts le r (st + g) := h
    rw [longs_cons]
    show _ ∧ _ ∧ x.2.1 ≤ st + (g + longs r) ∧ _
    rcases List.mem_append.mp h with h | h
    · by_cases hc : st < clip le (st + g)
      · rw [if_pos hc] at h
        simp only [List.mem_cons, List.not_mem_nil, or_false] at h
        subst h
        have := clip_le (le := le) (e := st + g)
        exact ⟨Int.le_refl _, hc, by show clip le (st + g) ≤ _; omega, g, by simp⟩
      · rw [if_neg hc] at h
        cases h
    · obtain ⟨h1, h2, h3, g', h4⟩ := law_mem r (st + g) hr x h
      exact ⟨by omega, h2, by omega, g', by simp [h4]⟩
theorem part_ok {L : Lw} (g : GoodL L) {x : Int × Int × Int} (h : x ∈ partsOf L.le L.ps L.pl) : x.1 < x.2.1 ∧ 0 ≤ x.2.2 ∧ x.2.2 < 2 ^ 200 ∧ x.2.1 - x.1 < 2 ^ 210 := by
  have hp : ∀ p ∈ L.ps, 1 ≤ p.2 := fun p hp => (g.1.2.2 p hp).2.2.1
  rw [← parts_eq L.ps L.pl hp] at h
  obtain ⟨h1, h2, h3, g', h4⟩ := law_mem L.ps L.pl hp x h
  have h5 := g.1.2.2 _ h4
  have h6 := longs_lt g.1
  have h7 : (2 : Int) ^ 204 < 2 ^ 210 := by decide
  exact ⟨h2, by have := h5.1; show 0 ≤ x.2.2; have h8 : 1 ≤ x.2.2 := this; omega, h5.2.1, by omega⟩
theorem mulW_of {i j : Int} (h0 : 0 ≤ i) (h1 : i < 2 ^ 250) (h2 : 0 ≤ j) (h3 : j < 2 ^ 250) : CMulW i j := by
  have a := log_lt h0 h1
  have b := log_lt h2 h3
  unfold CMulW
  omega
theorem ovl_le {a b : Int} {t : Int × Int × Int} (h : t.1 < t.2.1) : 0 ≤ ovl a b t ∧ ovl a b t ≤ t.2.1 - t.1 := by
  unfold ovl mxI mnI
  (repeat' split) <;> omega
theorem ovl_mul {L : Lw} (g : GoodL L) {x : Int × Int × Int} (h : x ∈ partsOf L.le L.ps L.pl) (a b : Int) : CMulW x.2.2 (ovl a b x) := by
  obtain ⟨h1, h2, h3, h4⟩ := part_ok g h
  obtain ⟨h5, h6⟩ := ovl_le (a := a) (b := b) h1
  have h7 : (2 : Int) ^ 210 < 2 ^ 250 := by decide
  have h8 : (2 : Int) ^ 200 < 2 ^ 250 := by decide
  exact mulW_of h2 (by omega) h5 (by omega)
theorem ovl_in {a b : Int} {t : Int × Int × Int} (h : t.1 < t.2.1) (hab : a ≤ b) (h1 : t.1 < b) (h2 : t.2.1 > a) : mnI t.2.1 b - mxI t.1 a = ovl a b t := by
  unfold ovl mxI mnI
  (repeat' split) <;> omega
theorem ovl_out {a b : Int} {t : Int × Int × Int} (h : ¬ (t.1 < b ∧ t.2.1 > a)) : ovl a b t = 0 := by
  unfold ovl mxI mnI
  (repeat' split) <;> omega
/-- at one place -/
theorem ovl_one (p s e t : Int) : ovl p (p + 1) (s, e, t) = if s ≤ p ∧ p < e then 1 else 0 := by
  show (if mnI e (p + 1) - mxI s p > 0 then mnI e (p + 1) - mxI s p else 0) = _
  unfold mxI mnI
  (repeat' split) <;> omega
theorem one_none : ∀ (ps : List (Int × Int)) (st p : Int), (∀ x ∈ ps, 1 ≤ x.2) → wsum p (p + 1) (lawParts none ps st) = if p < st then 0 else thickAt ps (p - st)
  | [], st, p, _ => by
    show 0 = if p < st then 0 else 0
    split <;> rfl
  | (t, g) :: r, st, p, hg => by
    have hg1 : 1 ≤ g := hg (t, g) (by simp)
    have hr : ∀ p ∈ r, 1 ≤ p.2 := fun x hx => hg x (by simp [hx])
    have e : lawParts none ((t, g) :: r) st = (st, st + g, t) :: lawParts none r (st + g) := by
      show (if st < st + g then [(st, st + g, t)] else []) ++ lawParts none r (st + g) = _
      rw [if_pos (by omega)]
      rfl
    rw [e, wsum_cons, one_none r (st + g) p hr, ovl_one]
    show t * (if st ≤ p ∧ p < st + g then 1 else 0) + _ = if p < st then 0 else (if p - st < g then t else thickAt r (p - st - g))
    rw [show p - (st + g) = p - st - g by omega]
    by_cases h1 : p < st
    · rw [if_pos h1, if_neg (by omega), if_pos (by omega)]
      omega
    · by_cases h2 : p < st + g
      · rw [if_neg h1, if_pos (by omega), if_pos (by omega), if_pos (by omega)]
        omega
      · rw [if_neg h1, if_neg (by omega), if_neg (by omega), if_neg (by omega)]
        omega
theorem one_some (n : Int) : ∀ (ps : List (Int × Int)) (st p : Int), (∀ x ∈ ps, 1 ≤ x.2) → wsum p (p + 1) (lawParts (some n) ps st) = if p < st ∨ n ≤ p then 0 else thickAt ps (p - st)
  | [], st, p, _ => by
    show 0 = if p < st ∨ n ≤ p then 0 else 0
    split <;> rfl
  | (t, g) :: r, st, p, hg => by
    have hg1 : 1 ≤ g := hg (t, g) (by simp)
    have hr : ∀ p ∈ r, 1 ≤ p.2 := fun x hx => hg x (by simp [hx])
    have e : wsum p (p + 1) (lawParts (some n) ((t, g) :: r) st) = t * (if st ≤ p ∧ p < st + g ∧ p < n then 1 else 0) + wsum p (p + 1) (lawParts (some n) r (st + g)) := by
      show wsum p (p + 1) ((if st < clip (some n) (st + g) then [(st, clip (some n) (st + g), t)] else []) ++ lawParts (some n) r (st + g)) = _
      rw [wsum_app]
      congr 1
      show wsum p (p + 1) (if st < (if n < st + g then n else st + g) then [(st, (if n < st + g then n else st + g), t)] else []) = _
      by_cases h : st < (if n < st + g then n else st + g)
      · rw [if_pos h, wsum_cons, ovl_one]
        show t * _ + 0 = t * _
        rw [Int.add_zero]
        congr 1
        by_cases h3 : n < st + g
        · rw [if_pos h3] at h ⊢
          by_cases h4 : st ≤ p ∧ p < n
          · rw [if_pos h4, if_pos (by omega)]
          · rw [if_neg h4, if_neg (by omega)]
        · rw [if_neg h3] at h ⊢
          by_cases h4 : st ≤ p ∧ p < st + g
          · rw [if_pos h4, if_pos (by omega)]
          · rw [if_neg h4, if_neg (by omega)]
      · rw [if_neg h]
        show 0 = _
        have : ¬ (st ≤ p ∧ p < st + g ∧ p < n) := by
          split at h <;> omega
        rw [if_neg this, Int.mul_zero]
    rw [e, one_some n r (st + g) p hr]
    show _ = if p < st ∨ n ≤ p then 0 else (if p - st < g then t else thickAt r (p - st - g))
    rw [show p - (st + g) = p - st - g by omega]
    by_cases h1 : p < st ∨ n ≤ p
    · rw [if_pos h1, if_neg (by omega), if_pos (by omega)]
      omega
    · by_cases h2 : p < st + g
      · rw [if_neg h1, if_pos (by omega), if_pos (by omega), if_pos (by omega)]
        omega
      · rw [if_neg h1, if_neg (by omega), if_neg (by omega), if_neg (by omega)]
        omega
theorem one_thick {L : Lw} (g : GoodL L) (p : Int) : wsum p (p + 1) (partsOf L.le L.ps L.pl) = thickL L p := by
  have hp : ∀ p ∈ L.ps, 1 ≤ p.2 := fun p hp => (g.1.2.2 p hp).2.2.1
  rw [← parts_eq L.ps L.pl hp]
  unfold thickL
  cases L.le with
  | none => exact one_none L.ps L.pl p hp
  | some n =>
    rw [one_some n L.ps L.pl p hp]
    show _ = if p < L.pl then 0 else if n ≤ p then 0 else _
    by_cases h1 : p < L.pl
    · rw [if_pos h1, if_pos (.inl h1)]
    · by_cases h2 : n ≤ p
      · rw [if_neg h1, if_pos h2, if_pos (.inr h2)]
      · rw [if_neg h1, if_neg h2, if_neg (by omega)]
theorem WL_one (p : Int) : ∀ (Ls : List Lw), (∀ L ∈ Ls, GoodL L) → WL p (p + 1) Ls = thickS Ls p
  | [], _ => rfl
  | L :: r, g => by
    rw [WL_cons, WL_one p r fun L' h => g L' (by simp [h]), one_thick (g L (by simp))]
    unfold thickS
    rw [List.map_cons, List.sum_cons]
theorem WL_sum {Ls : List Lw} (g : ∀ L ∈ Ls, GoodL L) (a : Int) : ∀ n : Nat, ((List.range n).map fun (i : Nat) => thickS Ls (a + i)).sum = WL a (a + n) Ls
  | 0 => by
    show 0 = WL a (a + 0) Ls
    rw [Int.add_zero, WL_same]
  | n + 1 => by
    rw [List.range_succ, List.map_append, List.sum_append, WL_sum g a n]
    show _ + (thickS Ls (a + n) + 0) = _
    rw [Int.add_zero, ← WL_one _ Ls g, WL_add (by omega) (by omega)]
    congr 1
    omega
/-- keys that are numbers -/
def IK (kvs : List (Key × V)) : Prop := ∀ x ∈ kvs, ∃ i : Int, x.1 = Sum.inl i
theorem IK.put {kvs : List (Key × V)} (h : IK kvs) (i : Int) (v : V) : IK (putK kvs (Sum.inl i) v) := by
  unfold putK
  intro x hx
  split at hx
  · obtain ⟨y, hy, rfl⟩ := List.mem_map.mp hx
    split
    · exact h y hy
    · exact h y hy
  · rcases List.mem_append.mp hx with hx | hx
    · exact h x hx
    · simp only [List.mem_cons, List.not_mem_nil, or_false] at hx
      rw [hx]
      exact ⟨i, rfl⟩
theorem IK.merge : ∀ {more kvs : List (Key × V)}, IK kvs → IK more → IK (mergeK kvs more)
  | [], _, h, _ => h
  | (k, v) :: r, kvs, h, hm => by
    obtain ⟨i, e⟩ := hm (k, v) (by simp)
    have e : k = Sum.inl i := e
    subst e
    exact IK.merge (more := r) (h.put i v) fun x hx => hm x (by simp [hx])
theorem IK.keys : ∀ {kvs : List (Key × V)}, IK kvs → ∃ ks : List Int, kvs.map (·.1) = ks.map Sum.inl ∧ ks.length = kvs.length
  | [], _ => ⟨[], rfl, rfl⟩
  | x :: r, h => by
    obtain ⟨i, e⟩ := h x (by simp)
    obtain ⟨ks, e2, e3⟩ := IK.keys (kvs := r) fun y hy => h y (by simp [hy])
    exact ⟨i :: ks, by rw [List.map_cons, List.map_cons, e, e2], by rw [List.length_cons, List.length_cons, e3]⟩
theorem small2000 {n : Nat} (h : n ≤ 5000) : n < sizeLine := Nat.lt_of_le_of_lt h (by decide)
def spThickS : Sp := fun vs H Q _ => ∃ (a : Addr) (Ls : List Lw) (p : Int), vs = [.ref a, .int p] ∧ StrandAt H a Ls ∧ Ls.length ≤ 60 ∧ ∀ H', Same H H' → Q (.int (thickS Ls p)) H'
def spBetween : Sp := fun vs H Q _ => ∃ (a : Addr) (Ls : List Lw) (x y : Int), vs = [.ref a, .int x, .int y] ∧ StrandAt H a Ls ∧ Ls.length ≤ 60 ∧ (∀ L ∈ Ls, GoodL L) ∧ ∀ H', Same H H' → Q (.int (WL x y Ls)) H'
def spDue8 : Sp := fun vs H Q _ => ∃ (o : Addr) (bs : List Addr) (Ls : List Lw) (x y : Int), vs = [.ref o, .int x, .int y] ∧ H o = some (.lst (bs.map V.ref)) ∧ LPartsAt H bs Ls ∧ (∀ L ∈ Ls, GoodL L) ∧ x ≤ y ∧ Q (.int (WL x y Ls)) H
def spEnds8 : Sp := fun vs H Q _ => ∃ (o : Addr) (bs : List Addr) (Ls : List Lw), vs = [.ref o] ∧ H o = some (.lst (bs.map V.ref)) ∧ LPartsAt H bs Ls ∧ Ls.length ≤ 60 ∧ (∀ L ∈ Ls, GoodL L) ∧
  ∀ (H' : Hp) (r : Addr) (ns : List Int), Same H H' → H r = none → H' r = some (.lst (ns.map V.int)) → ns.length ≤ 1200 → Q (.ref r) H'
def spRight8 : Sp := fun vs H Q _ => ∃ (p l : Addr) (T : Nat) (a : Addr) (Ls : List Lw) (small : Bool), vs = [.ref p, .ref a, .bl small] ∧ Pot H p l T ∧ T < 2 ^ 36 ∧ StrandAt H a Ls ∧ Ls.length ≤ 60 ∧ (∀ L ∈ Ls, GoodL L) ∧
  ∀ H', Pot H' p l (T + 1000) → Keep p l H H' → Q (.bl true) H'
theorem bulk_all {xs : List PyData} {n : Nat} (h : ∀ x ∈ xs, x.bulk + 1 ≤ n) : PyData.bulkAll xs ≤ n * xs.length := by
  induction xs with
  | nil => exact Nat.zero_le _
  | cons x r ih =>
    have h1 := h x (by simp)
    have h2 := ih fun y hy => h y (by simp [hy])
    show x.bulk + 1 + PyData.bulkAll r ≤ n * (r.length + 1)
    rw [Nat.mul_add]
    omega
theorem laid_bulk {L : Lw} (g : GoodL L) : (laidD L).bulk ≤ 40 := by
  have h1 := wisp_bulk L.so L.ps
  have h2 := g.1.2.1
  have h3 : (letD L.le).bulk = 0 := by
    cases L.le with
    | none => rfl
    | some n => rfl
  show (wispD L.so L.ps).bulk + 1 + (0 + 1 + ((letD L.le).bulk + 1 + 0)) ≤ 40
  omega
theorem strand_bulk {Ls : List Lw} (g : ∀ L ∈ Ls, GoodL L) (hl : Ls.length ≤ 60) : (strandD Ls).bulk ≤ 20000 := by
  have h := bulk_all (xs := Ls.map laidD) (n := 41) fun x hx => by
    obtain ⟨L, hL, rfl⟩ := List.mem_map.mp hx
    have := laid_bulk (g L hL)
    omega
  rw [List.length_map] at h
  show PyData.bulkAll (Ls.map laidD) ≤ 20000
  omega
theorem TableAt.keep {p l : Addr} {H H' : Hp} {T : Nat} {b : Addr} {ts : List (Int × Int × Int)} (h : TableAt H b ts) (hne : ts ≠ []) (k : Keep p l H H') (hp : Pot H p l T) : TableAt H' b ts := by
  obtain ⟨as, h1, h2⟩ := h
  have hp' := hp
  obtain ⟨ns, c, m, t, e1, e2, _⟩ := hp'
  have ha : as ≠ [] := fun e => by
    have := h2.1
    rw [e, List.length_map] at this
    exact hne (List.length_eq_zero_iff.mp this.symm)
  refine ⟨as, k _ _ (fun e => ?_) (fun e => ?_) h1, h2.mono (k.tups hp)⟩
  · subst e
    rw [h1] at e1
    cases as with
    | nil => exact ha rfl
    | cons x r => cases r with
      | nil => simp at e1
      | cons y r => simp at e1
  · subst e
    rw [h1] at e2
    cases as with
    | nil => exact ha rfl
    | cons x r => cases ns with
      | nil => simp at e2
      | cons y r => simp at e2
theorem law_ne {L : Lw} (g : GoodL L) : lawParts L.le L.ps L.pl ≠ [] := by
  have hp : ∀ x ∈ L.ps, 1 ≤ x.2 := fun x hx => (g.1.2.2 x hx).2.2.1
  have hne : L.ps ≠ [] := fun e => by
    have := g.1.1
    rw [e] at this
    exact absurd this (by decide)
  obtain ⟨ys, b', t, e⟩ := law_last (le := L.le) L.ps L.pl hne hp fun n hn => (g.2.2.2.2.2 n hn).1
  rw [e]
  simp
theorem LPartsAt.keep {p l : Addr} {H H' : Hp} {T : Nat} {bs : List Addr} {Ls : List Lw} (h : LPartsAt H bs Ls) (g : ∀ L ∈ Ls, GoodL L) (k : Keep p l H H') (hp : Pot H p l T) : LPartsAt H' bs Ls := ⟨h.1, fun i b hb => by
  obtain ⟨L, h1, h2⟩ := h.2 i b hb
  exact ⟨L, h1, h2.keep (law_ne (g L (List.mem_of_getElem? h1))) k hp⟩⟩
theorem ne_same (d : PyData) (h : d.canLay0 = true) : (!PyData.eqv d d) = false := by
  rw [PySem.SeqAt.eqv_refl d h]
  rfl
/-! ### what runs where -/
def s0 (Ls : List Lw) (p : Int) : Int := (Ls.map fun L => if L.so = 0 then thickL L p else 0).sum
def s1 (Ls : List Lw) (p : Int) : Int := (Ls.map fun L => if L.so = 0 then 0 else thickL L p).sum
theorem s01 (p : Int) : ∀ Ls : List Lw, s0 Ls p + s1 Ls p = thickS Ls p
  | [] => rfl
  | L :: r => by
    have ih := s01 p r
    unfold s0 s1 thickS at ih ⊢
    rw [List.map_cons, List.map_cons, List.map_cons, List.sum_cons, List.sum_cons, List.sum_cons]
    split <;> omega
theorem s0_snoc (Ls : List Lw) (L : Lw) (p : Int) : s0 (Ls ++ [L]) p = s0 Ls p + if L.so = 0 then thickL L p else 0 := by
  unfold s0
  rw [List.map_append, List.sum_append]
  simp
theorem s1_snoc (Ls : List Lw) (L : Lw) (p : Int) : s1 (Ls ++ [L]) p = s1 Ls p + if L.so = 0 then 0 else thickL L p := by
  unfold s1
  rw [List.map_append, List.sum_append]
  simp
theorem strong_w (p : Int) : ∀ ts : List (Int × Int × Int), strongOf p ts = wsum p (p + 1) ts
  | [] => rfl
  | (a, b, c) :: r => by
    rw [strong_cons, wsum_cons, strong_w p r, ovl_one]
    show (if (decide (a ≤ p) && decide (p < b)) = true then c else 0) + _ = c * (if a ≤ p ∧ p < b then 1 else 0) + _
    by_cases h : a ≤ p ∧ p < b
    · rw [if_pos h, if_pos (by simp [h.1, h.2]), Int.mul_one]
    · rw [if_neg h, if_neg (by simp only [Bool.and_eq_true, decide_eq_true_eq]; exact h), Int.mul_zero]
theorem strong_L {L : Lw} (g : GoodL L) (p : Int) : strongOf p (lawParts L.le L.ps L.pl) = thickL L p := by
  have hp : ∀ p ∈ L.ps, 1 ≤ p.2 := fun p hp => (g.1.2.2 p hp).2.2.1
  rw [strong_w, parts_eq L.ps L.pl hp, one_thick g]
theorem hits_none {le : Option Int} (ps : List (Int × Int)) (st p : Int) (hg : ∀ x ∈ ps, 1 ≤ x.2) (h : p < st) : (lawParts le ps st).filter (inRow p) = [] := by
  rw [List.filter_eq_nil_iff]
  intro x hx
  have := (law_mem ps st hg x hx).1
  unfold inRow
  simp only [Bool.and_eq_true, decide_eq_true_eq]
  omega
theorem hits_one {le : Option Int} : ∀ (ps : List (Int × Int)) (st p : Int), (∀ x ∈ ps, 1 ≤ x.2) → ((lawParts le ps st).filter (inRow p)).length ≤ 1
  | [], _, _, _ => Nat.zero_le _
  | (t, g) :: r, st, p, hg => by
    have hg1 : 1 ≤ g := hg (t, g) (by simp)
    have hr : ∀ p ∈ r, 1 ≤ p.2 := fun x hx => hg x (by simp [hx])
    show (((if st < clip le (st + g) then [(st, clip le (st + g), t)] else []) ++ lawParts le r (st + g)).filter (inRow p)).length ≤ 1
    rw [List.filter_append, List.length_append]
    by_cases h : p < st + g
    · rw [hits_none r (st + g) p hr h]
      have : ((if st < clip le (st + g) then [(st, clip le (st + g), t)] else []).filter (inRow p)).length ≤ 1 := by
        refine Nat.le_trans (List.length_filter_le _ _) ?_
        split
        · exact Nat.le_refl _
        · exact Nat.zero_le _
      exact this
    · have e : (if st < clip le (st + g) then [(st, clip le (st + g), t)] else []).filter (inRow p) = [] := by
        rw [List.filter_eq_nil_iff]
        intro x hx
        split at hx
        · simp only [List.mem_cons, List.not_mem_nil, or_false] at hx
          subst hx
          have := clip_le (le := le) (e := st + g)
          show ¬ (decide (st ≤ p) && decide (p < clip le (st + g))) = true
          simp only [Bool.and_eq_true, decide_eq_true_eq]
          omega
        · cases hx
      rw [e]
      have := hits_one (le := le) r (st + g) p hr
      show 0 + _ ≤ 1
      omega
theorem hits_L {L : Lw} (g : GoodL L) (p : Int) (k : Int) : ((lawParts L.le L.ps L.pl).filter (inRow p)).map (fun _ => k) = if 0 < thickL L p then [k] else [] := by
  have hp : ∀ p ∈ L.ps, 1 ≤ p.2 := fun p hp => (g.1.2.2 p hp).2.2.1
  have h1 := hits_one (le := L.le) L.ps L.pl p hp
  have h2 := strong_L g p
  unfold strongOf at h2
  cases q : (lawParts L.le L.ps L.pl).filter (inRow p) with
  | nil =>
    rw [q] at h2
    have h2 : (0 : Int) = thickL L p := h2
    rw [if_neg (by omega)]
    rfl
  | cons x r =>
    rw [q] at h1 h2
    have hr : r = [] := by
      cases r with
      | nil => rfl
      | cons y r => exact absurd h1 (by simp)
    subst hr
    have hx : x ∈ (lawParts L.le L.ps L.pl).filter (inRow p) := by rw [q]; simp
    have hx := (List.mem_filter.mp hx).1
    obtain ⟨_, _, _, g', h4⟩ := law_mem L.ps L.pl hp x hx
    have h5 : 1 ≤ x.2.2 := (g.1.2.2 _ h4).1
    have h2 : x.2.2 + 0 = thickL L p := h2
    rw [if_pos (by omega)]
    rfl
def spSorts : Sp := fun vs H Q _ => ∃ (a t : Addr) (Ls : List Lw) (p : Int), vs = [.ref a, .ref t] ∧ StrandAt H a Ls ∧ H t = some (.lst ((Ls.map fun L => thickL L p).map V.int)) ∧ (∀ L ∈ Ls, GoodL L) ∧ ∀ H' o, Same H H' → H o = none → H' o = some (.tup [.int (s0 Ls p), .int (s1 Ls p)]) → Q (.ref o) H'
def spBy : Sp := fun vs H Q _ => ∃ (a : Addr) (Ls : List Lw) (p : Int), vs = [.ref a, .int p] ∧ StrandAt H a Ls ∧ Ls.length ≤ 60 ∧ (∀ L ∈ Ls, GoodL L) ∧ ∀ H' o, Same H H' → H o = none → H' o = some (.tup [.int (s0 Ls p), .int (s1 Ls p)]) → Q (.ref o) H'
def spAt6 : Sp := fun vs H Q _ => ∃ (a o : Addr) (bs : List Addr) (Ls : List Lw) (p : Int), vs = [.ref a, .ref o, .int p] ∧ StrandAt H a Ls ∧ Ls.length ≤ 60 ∧ (∀ L ∈ Ls, GoodL L) ∧ H o = some (.lst (bs.map V.ref)) ∧ LPartsAt H bs Ls ∧
  ∀ (H' : Hp) (r t1 t2 : Addr), Same H H' → H' r = some (.tup [.ref t1, .ref t2]) → H' t1 = some (.tup ((numsFrom 0 (Ls.map fun L => thickL L p)).map V.int)) → H' t2 = some (.tup [.int (s0 Ls p), .int (s1 Ls p)]) → Q (.ref r) H'
def spSpots6 : Sp := fun vs H Q _ => ∃ (p l : Addr) (T : Nat) (o : Addr) (bs : List Addr) (Ls : List Lw), vs = [.ref p, .ref o] ∧ Pot H p l T ∧ T < 2 ^ 37 ∧ H o = some (.lst (bs.map V.ref)) ∧ LPartsAt H bs Ls ∧ Ls.length ≤ 60 ∧ (∀ L ∈ Ls, GoodL L) ∧
  ∀ (H' : Hp) (r : Addr) (ns : List Int), Pot H' p l (T + 100) → Keep p l H H' → H r = none → H' r = some (.lst (ns.map V.int)) → ns.length ≤ 100 → Q (.ref r) H'
def spRight6 : Sp := fun vs H Q _ => ∃ (p l : Addr) (T : Nat) (a : Addr) (Ls : List Lw), vs = [.ref p, .ref a] ∧ Pot H p l T ∧ T < 2 ^ 36 ∧ StrandAt H a Ls ∧ Ls.length ≤ 60 ∧ (∀ L ∈ Ls, GoodL L) ∧
  ∀ H', Pot H' p l (T + 1000) → Keep p l H H' → Q (.bl true) H'
theorem ints_ti (ns : List Int) (h : ns.length ≤ 5000) : TI (.tuple (ns.map PyData.int)) := by
  refine .tup (fun x hx => ?_) (by rw [List.length_map]; exact h)
  obtain ⟨n, _, rfl⟩ := List.mem_map.mp hx
  exact .int n
theorem ints_d (ns : List Int) : (PyData.tuple (ns.map PyData.int)).depth < 4 := by
  refine Nat.lt_of_le_of_lt (Nat.succ_le_succ (depth_all (n := 0) fun x hx => ?_)) (by decide)
  obtain ⟨n, _, rfl⟩ := List.mem_map.mp hx
  exact Nat.le_refl _
/-! ### what changes where -/
/-- what is written at the place k, from the parts in their order -/
def wr (k : Int) : List (Int × Int × Int) → List Int
  | [] => []
  | (s, e, t) :: r => (if s = k then [t] else []) ++ (if e = k then [0] else []) ++ wr k r
def lastD (xs : List Int) (d : Int) : Int := xs.getLast?.getD d
def Rise : List (Int × Int × Int) → Prop
  | [] => True
  | (s, e, _) :: r => s < e ∧ (∀ y ∈ r, e ≤ y.1 ∧ y.1 < y.2.1) ∧ Rise r
theorem rise_law {le : Option Int} : ∀ (ps : List (Int × Int)) (st : Int), (∀ p ∈ ps, 1 ≤ p.2) → Rise (lawParts le ps st)
  | [], _, _ => True.intro
  | (t, g) :: r, st, hg => by
    have hg1 : 1 ≤ g := hg (t, g) (by simp)
    have hr : ∀ p ∈ r, 1 ≤ p.2 := fun x hx => hg x (by simp [hx])
    have ih := rise_law (le := le) r (st + g) hr
    show Rise ((if st < clip le (st + g) then [(st, clip le (st + g), t)] else []) ++ lawParts le r (st + g))
    split
    · next h =>
      refine ⟨h, fun y hy => ?_, ih⟩
      have h1 := law_mem (le := le) r (st + g) hr y hy
      have h2 := clip_le (le := le) (e := st + g)
      exact ⟨by omega, h1.2.1⟩
    · exact ih
theorem wr_none {k b : Int} : ∀ {qs : List (Int × Int × Int)}, (∀ y ∈ qs, b ≤ y.1 ∧ y.1 < y.2.1) → k < b → wr k qs = []
  | [], _, _ => rfl
  | (s, e, t) :: r, h, hk => by
    have h1 := h (s, e, t) (by simp)
    have h1 : b ≤ s ∧ s < e := h1
    show (if s = k then [t] else []) ++ (if e = k then [0] else []) ++ wr k r = []
    rw [if_neg (by omega), if_neg (by omega), wr_none (fun y hy => h y (by simp [hy])) hk]
    rfl
theorem strong_none {k b : Int} : ∀ {qs : List (Int × Int × Int)}, (∀ y ∈ qs, b ≤ y.1 ∧ y.1 < y.2.1) → k < b → strongOf k qs = 0
  | [], _, _ => rfl
  | (s, e, t) :: r, h, hk => by
    have h1 : b ≤ s ∧ s < e := h (s, e, t) (by simp)
    rw [strong_cons, strong_none (fun y hy => h y (by simp [hy])) hk]
    show (if (decide (s ≤ k) && decide (k < e)) = true then t else 0) + 0 = 0
    rw [if_neg (by simp only [Bool.and_eq_true, decide_eq_true_eq]; omega)]
    rfl
theorem wr_ne {k : Int} : ∀ {qs : List (Int × Int × Int)}, wr k qs ≠ [] → ∃ y ∈ qs, y.1 = k ∨ y.2.1 = k
  | [], h => absurd rfl h
  | (s, e, t) :: r, h => by
    by_cases h1 : s = k
    · exact ⟨(s, e, t), by simp, .inl h1⟩
    · by_cases h2 : e = k
      · exact ⟨(s, e, t), by simp, .inr h2⟩
      · have h : (if s = k then [t] else []) ++ (if e = k then [0] else []) ++ wr k r ≠ [] := h
        rw [if_neg h1, if_neg h2] at h
        obtain ⟨y, hy, z⟩ := wr_ne (qs := r) h
        exact ⟨y, by simp [hy], z⟩
theorem lastD_app {xs ys : List Int} {d : Int} (h : ys ≠ []) : lastD (xs ++ ys) d = lastD ys d := by
  unfold lastD
  rw [List.getLast?_append]
  cases q : ys.getLast? with
  | none => exact absurd (List.getLast?_eq_none_iff.mp q) h
  | some y => rfl
/-- nothing begins or ends between j and k: at k it is as at j but for what is written there -/
theorem strong_step {j k : Int} (hjk : j < k) : ∀ (qs : List (Int × Int × Int)), Rise qs → (∀ y ∈ qs, (y.1 ≤ j ∨ k ≤ y.1) ∧ (y.2.1 ≤ j ∨ k ≤ y.2.1)) → strongOf k qs = lastD (wr k qs) (strongOf j qs)
  | [], _, _ => rfl
  | (s, e, t) :: r, hr, hn => by
    obtain ⟨hse, hlo, hrr⟩ := hr
    have h1 : (s ≤ j ∨ k ≤ s) ∧ (e ≤ j ∨ k ≤ e) := hn (s, e, t) (by simp)
    have ih := strong_step hjk r hrr fun y hy => hn y (by simp [hy])
    rw [strong_cons, strong_cons, ih]
    show (if (decide (s ≤ k) && decide (k < e)) = true then t else 0) + _ = lastD ((if s = k then [t] else []) ++ (if e = k then [0] else []) ++ wr k r) ((if (decide (s ≤ j) && decide (j < e)) = true then t else 0) + strongOf j r)
    have cond : ∀ x : Int, ((decide (s ≤ x) && decide (x < e)) = true) ↔ (s ≤ x ∧ x < e) := fun x => by simp only [Bool.and_eq_true, decide_eq_true_eq]
    by_cases hw : wr k r = []
    · rw [hw, List.append_nil]
      have e0 : lastD [] (strongOf j r) = strongOf j r := rfl
      rw [e0]
      by_cases he : e = k
      · have z : strongOf j r = 0 := strong_none (b := e) hlo (by omega)
        rw [if_pos he, if_neg (by rw [cond]; omega), z, lastD_app (by simp)]
        rfl
      · rw [if_neg he, List.append_nil]
        by_cases hs : s = k
        · have z : strongOf j r = 0 := strong_none (b := e) hlo (by omega)
          rw [if_pos hs, if_pos (by rw [cond]; omega), z]
          show t + 0 = t
          omega
        · rw [if_neg hs]
          show _ = (if (decide (s ≤ j) && decide (j < e)) = true then t else 0) + strongOf j r
          by_cases hc : s ≤ j ∧ j < e
          · rw [if_pos ((cond k).mpr (by omega)), if_pos ((cond j).mpr hc)]
          · rw [if_neg (fun z => hc (by have := (cond k).mp z; omega)), if_neg (fun z => hc ((cond j).mp z))]
    · obtain ⟨y, hy, hk⟩ := wr_ne hw
      have h2 := hlo y hy
      rw [lastD_app hw, if_neg (by rw [cond]; omega), Int.zero_add]
      unfold lastD
      cases q : (wr k r).getLast? with
      | none => exact absurd (List.getLast?_eq_none_iff.mp q) hw
      | some y => rfl
theorem thick_step {L : Lw} (g : GoodL L) {j k : Int} (hjk : j < k) (hn : ∀ y ∈ partsOf L.le L.ps L.pl, (y.1 ≤ j ∨ k ≤ y.1) ∧ (y.2.1 ≤ j ∨ k ≤ y.2.1)) : thickL L k = lastD (wr k (partsOf L.le L.ps L.pl)) (thickL L j) := by
  have hp : ∀ p ∈ L.ps, 1 ≤ p.2 := fun p hp => (g.1.2.2 p hp).2.2.1
  rw [← parts_eq L.ps L.pl hp] at hn ⊢
  rw [← strong_L g, ← strong_L g]
  exact strong_step hjk _ (rise_law L.ps L.pl hp) hn
/-! ### keys that are numbers, no two alike -/
def IKN (kvs : List (Key × V)) : Prop := IK kvs ∧ (kvs.map (·.1)).Nodup
theorem put_keys (kvs : List (Key × V)) (k : Key) (v : V) (h : (kvs.map (·.1)).Nodup) : ((putK kvs k v).map (·.1)).Nodup := by
  unfold putK
  split
  · have e : (kvs.map (fun kv => if kv.1 = k then (kv.1, v) else kv)).map (·.1) = kvs.map (·.1) := by
      rw [List.map_map]
      refine List.map_congr_left fun x _ => ?_
      show (if x.1 = k then (x.1, v) else x).1 = x.1
      split <;> rfl
    rw [e]
    exact h
  · next hn =>
    rw [List.map_append]
    refine List.nodup_append.mpr ⟨h, by simp, fun x hx y hy e => ?_⟩
    simp only [List.map_cons, List.map_nil, List.mem_cons, List.not_mem_nil, or_false] at hy
    obtain ⟨z, hz, ez⟩ := List.mem_map.mp hx
    exact hn (List.any_eq_true.mpr ⟨z, hz, decide_eq_true (by rw [ez, e, hy])⟩)
theorem IKN.put {kvs : List (Key × V)} (h : IKN kvs) (i : Int) (v : V) : IKN (putK kvs (Sum.inl i) v) := ⟨h.1.put i v, put_keys _ _ _ h.2⟩
theorem keys_of {kvs : List (Key × V)} (h : IKN kvs) : ∃ ks : List Int, kvs.map (·.1) = ks.map Sum.inl ∧ ks.length = kvs.length ∧ ks.Nodup ∧ ∀ k, k ∈ ks ↔ ∃ v, valV kvs (Sum.inl k) = some v := by
  obtain ⟨ks, e, hl⟩ := h.1.keys
  refine ⟨ks, e, hl, ?_, fun k => ?_⟩
  · have := h.2
    rw [e] at this
    exact (List.pairwise_map.mp this).imp fun h e => h (congrArg Sum.inl e)
  · have m : k ∈ ks ↔ (Sum.inl k : Key) ∈ kvs.map (·.1) := by
      rw [e]
      constructor
      · exact fun h => List.mem_map.mpr ⟨k, h, rfl⟩
      · intro h
        obtain ⟨x, hx, ex⟩ := List.mem_map.mp h
        cases ex
        exact hx
    rw [m]
    constructor
    · intro hm
      obtain ⟨z, hz, ez⟩ := List.mem_map.mp hm
      cases hv : valV kvs (Sum.inl k) with
      | some v => exact ⟨v, rfl⟩
      | none =>
        have := valV_any (Sum.inl k : Key) kvs
        rw [hv] at this
        have h2 : (kvs.any fun kv => decide (kv.1 = Sum.inl k)) = true := List.any_eq_true.mpr ⟨z, hz, decide_eq_true ez⟩
        rw [h2] at this
        cases this
    · rintro ⟨v, hv⟩
      have := valV_any (Sum.inl k : Key) kvs
      rw [hv] at this
      obtain ⟨z, hz, ez⟩ := List.any_eq_true.mp this
      exact List.mem_map.mpr ⟨z, hz, of_decide_eq_true ez⟩
theorem sorted_strict {ys ks : List Int} (hp : ys.Perm ks) (hs : ys.Pairwise (· ≤ ·)) (hn : ks.Nodup) : ys.Pairwise (· < ·) := by
  have hn' : ys.Nodup := hp.nodup_iff.mpr hn
  exact (hs.and hn').imp fun ⟨h1, h2⟩ => by omega
/-- two lists that rise, with the same members, are one -/
theorem rise_eq : ∀ {xs ys : List Int}, xs.Pairwise (· < ·) → ys.Pairwise (· < ·) → (∀ k, k ∈ xs ↔ k ∈ ys) → xs = ys
  | [], [], _, _, _ => rfl
  | [], y :: r, _, _, h => absurd ((h y).mpr (by simp)) (by simp)
  | x :: r, [], _, _, h => absurd ((h x).mp (by simp)) (by simp)
  | x :: r, y :: s, hx, hy, h => by
    have hx' := List.pairwise_cons.mp hx
    have hy' := List.pairwise_cons.mp hy
    have e : x = y := by
      rcases List.mem_cons.mp ((h x).mp (by simp)) with e | e
      · exact e
      · rcases List.mem_cons.mp ((h y).mpr (by simp)) with e2 | e2
        · exact e2.symm
        · have h1 := hy'.1 x e
          have h2 := hx'.1 y e2
          omega
    subst e
    congr 1
    refine rise_eq hx'.2 hy'.2 fun k => ?_
    constructor
    · intro hk
      rcases List.mem_cons.mp ((h k).mp (by simp [hk])) with e | e
      · have := hx'.1 k hk
        omega
      · exact e
    · intro hk
      rcases List.mem_cons.mp ((h k).mpr (by simp [hk])) with e | e
      · have := hy'.1 k hk
        omega
      · exact e
/-! ### a dict of lists of pairs -/
theorem Tups.dk {H : Hp} {a : Addr} {kvs : List (Key × V)} {o : HO} (h : H a = some (.dK kvs)) : Tups H (upd H a o) := fun c ys e => by
  by_cases n : c = a
  · subst n
    rw [h] at e
    cases e
  · rw [upd_ne n]
    exact e
def DAtK (H0 H : Hp) (d : Addr) (kvs : List (Key × V)) (N : Nat) (ks : Int → Prop) (W : Int → List (Int × Int)) : Prop := H d = some (.dK kvs) ∧ IKN kvs ∧ kvs.length ≤ N ∧ (∀ k, ks k ↔ ∃ v, valV kvs (Sum.inl k) = some v) ∧ (∀ k, ¬ ks k → W k = []) ∧
  (∀ k v, valV kvs (Sum.inl k) = some v → ∃ q as, v = .ref q ∧ H0 q = none ∧ q ≠ d ∧ H q = some (.lst (as.map V.ref)) ∧ TupsAt H as ((W k).map stepV)) ∧ ∀ k k' v, valV kvs (Sum.inl k) = some v → valV kvs (Sum.inl k') = some v → k = k'
theorem DAtK.new {H0 H : Hp} {d : Addr} {kvs : List (Key × V)} {N : Nat} {ks : Int → Prop} {W : Int → List (Int × Int)} (h : DAtK H0 H d kvs N ks W) {z : Addr} {o : HO} (n : H z = none) : DAtK H0 (upd H z o) d kvs N ks W := by
  obtain ⟨h1, h2, h3, h4, h5, h6, h7⟩ := h
  refine ⟨?_, h2, h3, h4, h5, fun k v e => ?_, h7⟩
  · rw [upd_ne (ne_of_none h1 n)]
    exact h1
  · obtain ⟨q, as, e1, e2, e3, e4, e5⟩ := h6 k v e
    refine ⟨q, as, e1, e2, e3, ?_, e5.mono (Tups.new n)⟩
    rw [upd_ne (ne_of_none e4 n)]
    exact e4
/-- a new key, its list empty -/
theorem DAtK.put {H0 H : Hp} {d : Addr} {kvs : List (Key × V)} {N : Nat} {ks : Int → Prop} {W : Int → List (Int × Int)} (h : DAtK H0 H d kvs N ks W) {z : Addr} {k : Int} (ez : H z = some (.lst [])) (nz : H0 z = none) (zf : ∀ k v, valV kvs (Sum.inl k) = some v → v ≠ .ref z) (nk : valV kvs (Sum.inl k) = none) :
    DAtK H0 (upd H d (.dK (putK kvs (Sum.inl k) (.ref z)))) d (putK kvs (Sum.inl k) (.ref z)) (N + 1) (fun x => ks x ∨ x = k) W := by
  obtain ⟨h1, h2, h3, h4, h5, h6, h7⟩ := h
  have zd : z ≠ d := fun e => by
    rw [e, h1] at ez
    cases ez
  have vp : ∀ x : Int, valV (putK kvs (Sum.inl k) (.ref z)) (Sum.inl x) = if x = k then some (.ref z) else valV kvs (Sum.inl x) := fun x => by
    rw [valV_put]
    by_cases e : x = k
    · rw [if_pos e, if_pos (by rw [e])]
    · rw [if_neg e, if_neg (fun q => e (Sum.inl.inj q))]
  have wk : W k = [] := h5 k fun z => by
    obtain ⟨v, e⟩ := (h4 k).mp z
    rw [nk] at e
    cases e
  refine ⟨upd_same, h2.put k _, Nat.le_trans (length_putK _ _ _) (Nat.succ_le_succ h3), fun x => ?_, fun x n => h5 x fun y => n (.inl y), fun x v e => ?_, fun x y v e e' => ?_⟩
  · rw [vp]
    by_cases e : x = k
    · rw [if_pos e]
      exact ⟨fun _ => ⟨_, rfl⟩, fun _ => .inr e⟩
    · rw [if_neg e, ← h4]
      exact ⟨fun y => y.resolve_right e, .inl⟩
  · rw [vp] at e
    by_cases n : x = k
    · rw [if_pos n] at e
      cases e
      refine ⟨z, [], rfl, nz, zd, ?_, ?_⟩
      · rw [upd_ne zd]
        exact ez
      · rw [n, wk]
        exact TupsAt.nil
    · rw [if_neg n] at e
      obtain ⟨q, as, e1, e2, e3, e4, e5⟩ := h6 x v e
      refine ⟨q, as, e1, e2, e3, ?_, e5.mono (Tups.dk h1)⟩
      rw [upd_ne e3]
      exact e4
  · rw [vp] at e e'
    by_cases n : x = k
    · rw [if_pos n] at e
      cases e
      by_cases n' : y = k
      · rw [n, n']
      · rw [if_neg n'] at e'
        exact absurd rfl (zf y _ e')
    · rw [if_neg n] at e
      by_cases n' : y = k
      · rw [if_pos n'] at e'
        cases e'
        exact absurd rfl (zf x _ e)
      · rw [if_neg n'] at e'
        exact h7 x y v e e'
/-- a pair more in a key's list -/
theorem DAtK.app {H0 H : Hp} {d : Addr} {kvs : List (Key × V)} {N : Nat} {ks : Int → Prop} {W : Int → List (Int × Int)} (h : DAtK H0 H d kvs N ks W) {k : Int} {q c : Addr} {as : List Addr} {p : Int × Int} (eq : valV kvs (Sum.inl k) = some (.ref q)) (el : H q = some (.lst (as.map V.ref))) (et : TupsAt H as ((W k).map stepV)) (ec : H c = some (.tup (stepV p))) :
    DAtK H0 (upd H q (.lst (as.map V.ref ++ [.ref c]))) d kvs N ks (fun x => if x = k then W k ++ [p] else W x) := by
  obtain ⟨h1, h2, h3, h4, h5, h6, h7⟩ := h
  obtain ⟨q', as', e1, _, qd, _, _⟩ := h6 k _ eq
  cases e1
  refine ⟨?_, h2, h3, h4, fun x n => ?_, fun x v e => ?_, h7⟩
  · rw [upd_ne qd.symm]
    exact h1
  · show (if x = k then W k ++ [p] else W x) = []
    rw [if_neg (fun z => n ((h4 x).mpr (by rw [z]; exact ⟨_, eq⟩))), h5 x n]
  · obtain ⟨r, bs, e1, e2, e3, e4, e5⟩ := h6 x v e
    by_cases n : x = k
    · subst n
      have e6 := Option.some.inj (e.symm.trans eq)
      rw [e1] at e6
      cases e6
      refine ⟨q, as ++ [c], e1, e2, e3, ?_, ?_⟩
      · rw [upd_same, List.map_append]
        rfl
      · show TupsAt _ _ ((if x = x then W x ++ [p] else W x).map stepV)
        rw [if_pos rfl, List.map_append]
        exact (et.snoc ec).mono (Tups.ls el)
    · have rq : r ≠ q := fun z => n (h7 x k v e (by rw [e1, z]; exact eq))
      refine ⟨r, bs, e1, e2, e3, ?_, ?_⟩
      · rw [upd_ne rq]
        exact e4
      · show TupsAt _ _ ((if x = k then W k ++ [p] else W x).map stepV)
        rw [if_neg n]
        exact e5.mono (Tups.ls el)
theorem DAtK.congr {H0 H : Hp} {d : Addr} {kvs : List (Key × V)} {N M : Nat} {ks ks' : Int → Prop} {W W' : Int → List (Int × Int)} (h : DAtK H0 H d kvs N ks W) (hn : N ≤ M) (h1 : ∀ k, ks k ↔ ks' k) (h2 : ∀ k, W k = W' k) : DAtK H0 H d kvs M ks' W' := by
  have e1 : ks = ks' := funext fun k => propext (h1 k)
  have e2 : W = W' := funext h2
  subst e1 e2
  exact ⟨h.1, h.2.1, Nat.le_trans h.2.2.1 hn, h.2.2.2⟩
def Wall (k : Int) : Nat → List Lw → List (Int × Int)
  | _, [] => []
  | n, L :: r => (wr k (partsOf L.le L.ps L.pl)).map (fun t => ((n : Int), t)) ++ Wall k (n + 1) r
theorem wall_snoc (k : Int) (L : Lw) : ∀ (Ls : List Lw) (n : Nat), Wall k n (Ls ++ [L]) = Wall k n Ls ++ (wr k (partsOf L.le L.ps L.pl)).map fun t => (((n + Ls.length : Nat) : Int), t)
  | [], n => by
    show _ ++ [] = [] ++ _
    rw [List.append_nil]
    rfl
  | M :: r, n => by
    show _ ++ Wall k (n + 1) (r ++ [L]) = (_ ++ Wall k (n + 1) r) ++ _
    rw [wall_snoc k L r (n + 1), List.append_assoc, List.length_cons, show n + 1 + r.length = n + (r.length + 1) by omega]
theorem wr_snoc (k s e t : Int) : ∀ qs : List (Int × Int × Int), wr k (qs ++ [(s, e, t)]) = wr k qs ++ ((if s = k then [t] else []) ++ (if e = k then [0] else []))
  | [] => by
    show _ ++ _ ++ [] = [] ++ _
    rw [List.append_nil]
    rfl
  | (a, b, c) :: r => by
    show _ ++ _ ++ wr k (r ++ [(s, e, t)]) = _ ++ _ ++ wr k r ++ _
    rw [wr_snoc k s e t r, List.append_assoc _ (wr k r)]
theorem wr_len (k : Int) : ∀ qs : List (Int × Int × Int), (wr k qs).length ≤ 2 * qs.length
  | [] => Nat.le_refl _
  | (a, b, c) :: r => by
    have := wr_len k r
    show ((if a = k then [c] else []) ++ (if b = k then [0] else []) ++ wr k r).length ≤ 2 * (r.length + 1)
    rw [List.length_append, List.length_append]
    have h1 : (if a = k then [c] else []).length ≤ 1 := by split <;> simp
    have h2 : (if b = k then [(0 : Int)] else []).length ≤ 1 := by split <;> simp
    omega
theorem wall_len (k : Int) : ∀ (Ls : List Lw) (n : Nat), (∀ L ∈ Ls, GoodL L) → (Wall k n Ls).length ≤ 20 * Ls.length
  | [], _, _ => Nat.le_refl _
  | L :: r, n, g => by
    have h1 := wall_len k r (n + 1) fun M h => g M (by simp [h])
    have h2 := wr_len k (partsOf L.le L.ps L.pl)
    have h3 := part_len (le := L.le) L.ps L.pl
    have h4 := (g L (by simp)).1.2.1
    show ((wr k (partsOf L.le L.ps L.pl)).map (fun t => ((n : Int), t)) ++ Wall k (n + 1) r).length ≤ 20 * (r.length + 1)
    rw [List.length_append, List.length_map]
    omega
def Keys (Ls : List Lw) (k : Int) : Prop := k = 0 ∨ ∃ L ∈ Ls, ∃ y ∈ partsOf L.le L.ps L.pl, y.1 = k ∨ y.2.1 = k
def spChanges : Sp := fun vs H Q _ => ∃ (a : Addr) (Ls : List Lw), vs = [.ref a] ∧ StrandAt H a Ls ∧ Ls.length ≤ 60 ∧ (∀ L ∈ Ls, GoodL L) ∧
  ∀ (H' : Hp) (d : Addr) (kvs : List (Key × V)), Same H H' → H d = none → DAtK H H' d kvs 1300 (Keys Ls) (fun k => Wall k 0 Ls) → Q (.ref d) H'
theorem DAtK.same {H0 H H' : Hp} {d : Addr} {kvs : List (Key × V)} {N : Nat} {ks : Int → Prop} {W : Int → List (Int × Int)} (h : DAtK H0 H d kvs N ks W) (s : Same H H') : DAtK H0 H' d kvs N ks W := by
  obtain ⟨h1, h2, h3, h4, h5, h6, h7⟩ := h
  refine ⟨s _ _ h1, h2, h3, h4, h5, fun k v e => ?_, h7⟩
  obtain ⟨q, as, e1, e2, e3, e4, e5⟩ := h6 k v e
  exact ⟨q, as, e1, e2, e3, s _ _ e4, e5.mono (Tups.same s)⟩
theorem hu1 {u c : Nat} (h : u + 64 < c) : u + 1 < c := by omega
/-- what stands behind setdefault(k, []).append((n, t)); o: a list beside it -/
def Aft (H0 H : Hp) (d o : Addr) (xs : List V) (N : Nat) (ks : Int → Prop) (W : Int → List (Int × Int)) (k : Int) (p : Int × Int) (H6 : Hp) : Prop := ∃ kvs6, DAtK H0 H6 d kvs6 (N + 1) (fun x => ks x ∨ x = k) (fun x => if x = k then W k ++ [p] else W x) ∧ Same H0 H6 ∧ Tups H H6 ∧ H6 o = some (.lst xs) ∧ ∀ k v, valV kvs6 (Sum.inl k) = some v → v ≠ .ref o
theorem DAtK.found {H0 H : Hp} {d o : Addr} {xs : List V} {kvs : List (Key × V)} {N : Nat} {ks : Int → Prop} {W : Int → List (Int × Int)} (h : DAtK H0 H d kvs N ks W) (s : Same H0 H) (eo : H o = some (.lst xs)) (nv : ∀ k v, valV kvs (Sum.inl k) = some v → v ≠ .ref o) {Z : Addr} (nZ : H Z = none) {k : Int} {v : V} (hv : valV kvs (Sum.inl k) = some v) (p : Int × Int) :
    ∃ (q : Addr) (as : List Addr), v = .ref q ∧ upd H Z (.lst []) q = some (.lst (as.map V.ref)) ∧ as.length = (W k).length ∧ ∀ P, upd H Z (.lst []) P = none → Aft H0 H d o xs N ks W k p (upd (upd (upd H Z (.lst [])) P (.tup (stepV p))) q (.lst (as.map V.ref ++ [.ref P]))) := by
  have hZ := h.new (o := .lst []) nZ
  obtain ⟨q, as, rfl, n0, qd, el, et⟩ := hZ.2.2.2.2.2.1 k v hv
  refine ⟨q, as, rfl, el, ?_, fun P nP => ⟨kvs, ?_, ?_, ?_, ?_, nv⟩⟩
  · rw [et.1, List.length_map]
  · have hP := hZ.new (o := .tup (stepV p)) nP
    refine (hP.app hv ((upd_ne (ne_of_none el nP)).trans el) (et.mono (Tups.new nP)) upd_same).congr (Nat.le_succ _) (fun x => ⟨.inl, fun z => z.elim id fun z => ?_⟩) fun _ => rfl
    rw [z]
    exact (h.2.2.2.1 k).mpr ⟨_, hv⟩
  · exact same_mine (same_new (same_new s nZ) nP) n0
  · exact ((Tups.new nZ).trans (Tups.new nP)).trans (Tups.ls ((upd_ne (ne_of_none el nP)).trans el))
  · have oq : o ≠ q := fun z => nv k _ hv (by rw [z])
    have eZ : upd H Z (.lst []) o = some (.lst xs) := (upd_ne (ne_of_none eo nZ)).trans eo
    rw [upd_ne oq, upd_ne (ne_of_none eZ nP)]
    exact eZ
theorem DAtK.fresh {H0 H : Hp} {d o : Addr} {xs : List V} {kvs : List (Key × V)} {N : Nat} {ks : Int → Prop} {W : Int → List (Int × Int)} (h : DAtK H0 H d kvs N ks W) (s : Same H0 H) (nd : H0 d = none) (eo : H o = some (.lst xs)) (nv : ∀ k v, valV kvs (Sum.inl k) = some v → v ≠ .ref o) {Z : Addr} (nZ : H Z = none) {k : Int} (hn : valV kvs (Sum.inl k) = none) (p : Int × Int) :
    upd (upd H Z (.lst [])) d (.dK (putK kvs (Sum.inl k) (.ref Z))) Z = some (.lst []) ∧ ∀ P, upd (upd H Z (.lst [])) d (.dK (putK kvs (Sum.inl k) (.ref Z))) P = none → Aft H0 H d o xs N ks W k p (upd (upd (upd (upd H Z (.lst [])) d (.dK (putK kvs (Sum.inl k) (.ref Z)))) P (.tup (stepV p))) Z (.lst ([] ++ [.ref P]))) := by
  have hZ := h.new (o := .lst []) nZ
  have dZ : d ≠ Z := ne_of_none h.1 nZ
  have zf : ∀ k v, valV kvs (Sum.inl k) = some v → v ≠ .ref Z := fun k v e z => by
    obtain ⟨q, as, e1, _, _, e4, _⟩ := h.2.2.2.2.2.1 k v e
    rw [z] at e1
    cases e1
    rw [nZ] at e4
    cases e4
  have nZ0 : H0 Z = none := s.free nZ
  have hp := hZ.put (k := k) upd_same nZ0 zf hn
  have eZ : upd (upd H Z (.lst [])) d (.dK (putK kvs (Sum.inl k) (.ref Z))) Z = some (.lst []) := by
    rw [upd_ne dZ.symm]
    exact upd_same
  have vk : ∀ x : Int, valV (putK kvs (Sum.inl k) (.ref Z)) (Sum.inl x) = if x = k then some (.ref Z) else valV kvs (Sum.inl x) := fun x => by
    rw [valV_put]
    by_cases e : x = k
    · rw [if_pos e, if_pos (by rw [e])]
    · rw [if_neg e, if_neg (fun q => e (Sum.inl.inj q))]
  have wk : W k = [] := h.2.2.2.2.1 k fun z => by
    obtain ⟨v, e⟩ := (h.2.2.2.1 k).mp z
    rw [hn] at e
    cases e
  refine ⟨eZ, fun P nP => ⟨putK kvs (Sum.inl k) (.ref Z), ?_, ?_, ?_, ?_, ?_⟩⟩
  · have hP := hp.new (o := .tup (stepV p)) nP
    exact hP.app (as := []) (k := k) (by rw [vk, if_pos rfl]) ((upd_ne (ne_of_none eZ nP)).trans eZ) (by rw [wk]; exact TupsAt.nil) upd_same
  · exact same_mine (same_new (same_mine (same_new s nZ) nd) nP) nZ0
  · exact (((Tups.new nZ).trans (Tups.dk hZ.1)).trans (Tups.new nP)).trans (Tups.ls ((upd_ne (ne_of_none eZ nP)).trans eZ))
  · have e1 : upd H Z (.lst []) o = some (.lst xs) := (upd_ne (ne_of_none eo nZ)).trans eo
    have od : o ≠ d := fun z => by
      rw [z, h.1] at eo
      cases eo
    have e2 : upd (upd H Z (.lst [])) d (.dK (putK kvs (Sum.inl k) (.ref Z))) o = some (.lst xs) := (upd_ne od).trans e1
    rw [upd_ne (ne_of_none eo nZ), upd_ne (ne_of_none e2 nP)]
    exact e2
  · intro x v e z
    rw [vk] at e
    by_cases n : x = k
    · rw [if_pos n, z] at e
      cases e
      rw [nZ] at eo
      cases eo
    · rw [if_neg n] at e
      exact nv x v e z
/-! ### stretches: places, what is there -/
def Places (Ls : List Lw) (ys : List Int) : Prop := ys.Pairwise (· < ·) ∧ (∀ k, k ∈ ys ↔ Keys Ls k) ∧ ys.length ≤ 1300
def SegAt (H : Hp) (a : Addr) (Ls : List Lw) (s e : Int) : Prop := ∃ n t, H a = some (.tup [.int s, .int e, .ref n, .ref t]) ∧ H n = some (.tup ((numsFrom 0 (Ls.map fun L => thickL L s)).map V.int)) ∧ H t = some (.tup [.int (s0 Ls s), .int (s1 Ls s)])
theorem SegAt.mono {H H' : Hp} {a : Addr} {Ls : List Lw} {s e : Int} (h : SegAt H a Ls s e) (t : Tups H H') : SegAt H' a Ls s e := by
  obtain ⟨n, u, h1, h2, h3⟩ := h
  exact ⟨n, u, t _ _ h1, t _ _ h2, t _ _ h3⟩
def SegsAt (H : Hp) (as : List Addr) (Ls : List Lw) (ps : List (Int × Int)) : Prop := as.length = ps.length ∧ ∀ (i : Nat) (a : Addr), as[i]? = some a → ∃ s e, ps[i]? = some (s, e) ∧ SegAt H a Ls s e
theorem SegsAt.mono {H H' : Hp} {as : List Addr} {Ls : List Lw} {ps : List (Int × Int)} (h : SegsAt H as Ls ps) (t : Tups H H') : SegsAt H' as Ls ps := ⟨h.1, fun i a e => by
  obtain ⟨s, e', h1, h2⟩ := h.2 i a e
  exact ⟨s, e', h1, h2.mono t⟩⟩
theorem SegsAt.nil {H : Hp} {Ls : List Lw} : SegsAt H [] Ls [] := ⟨rfl, fun i a h => by simp at h⟩
theorem SegsAt.snoc {H : Hp} {as : List Addr} {Ls : List Lw} {ps : List (Int × Int)} {a : Addr} {s e : Int} (h : SegsAt H as Ls ps) (g : SegAt H a Ls s e) : SegsAt H (as ++ [a]) Ls (ps ++ [(s, e)]) := by
  refine ⟨by rw [List.length_append, List.length_append, h.1]; rfl, fun i b hb => ?_⟩
  by_cases hi : i < as.length
  · rw [List.getElem?_append_left hi] at hb
    obtain ⟨s', e', h1, h2⟩ := h.2 i b hb
    exact ⟨s', e', by rw [List.getElem?_append_left (by rw [← h.1]; exact hi)]; exact h1, h2⟩
  · rw [List.getElem?_append_right (by omega)] at hb
    have hz : i - as.length = 0 := by
      cases hk : i - as.length with
      | zero => rfl
      | succ n =>
        rw [hk] at hb
        simp at hb
    rw [hz] at hb
    have : a = b := Option.some.inj hb
    subst this
    refine ⟨s, e, ?_, g⟩
    rw [List.getElem?_append_right (by rw [← h.1]; omega), ← h.1, hz]
    rfl
abbrev pairs (ys : List Int) : List (Int × Int) := ys.zip (ys.drop 1)
def spStretches : Sp := fun vs H Q _ => ∃ (a : Addr) (Ls : List Lw), vs = [.ref a] ∧ StrandAt H a Ls ∧ Ls.length ≤ 60 ∧ (∀ L ∈ Ls, GoodL L) ∧
  ∀ (H' : Hp) (o : Addr) (as : List Addr) (ys : List Int), Same H H' → H o = none → H' o = some (.tup (as.map V.ref)) → SegsAt H' as Ls (pairs ys) → Places Ls ys → Q (.ref o) H'
/-- what is written, one behind the other -/
def wrt (xs : List Int) (ws : List (Int × Int)) : List Int := ws.foldl (fun xs p => xs.set p.1.toNat p.2) xs
theorem wrt_snoc (xs : List Int) (ws : List (Int × Int)) (p : Int × Int) : wrt xs (ws ++ [p]) = (wrt xs ws).set p.1.toNat p.2 := by
  unfold wrt
  rw [List.foldl_append]
  rfl
theorem wrt_len (xs : List Int) (ws : List (Int × Int)) : (wrt xs ws).length = xs.length := by
  unfold wrt
  induction ws generalizing xs with
  | nil => rfl
  | cons p r ih =>
    show (List.foldl _ (xs.set p.1.toNat p.2) r).length = _
    rw [ih, List.length_set]
theorem wrt_one (x : Int) (ys pre : List Int) : ∀ (ts : List Int) (x : Int), wrt (pre ++ x :: ys) (ts.map fun t => ((pre.length : Int), t)) = pre ++ lastD ts x :: ys
  | [], x => rfl
  | t :: r, x => by
    show wrt ((pre ++ x :: ys).set ((pre.length : Int)).toNat t) (r.map fun t => ((pre.length : Int), t)) = _
    have e : (pre ++ x :: ys).set ((pre.length : Int)).toNat t = pre ++ t :: ys := by
      rw [Int.toNat_natCast, List.set_append_right _ _ (Nat.le_refl _), Nat.sub_self]
      rfl
    rw [e, wrt_one x ys pre r t]
    congr 2
    unfold lastD
    cases r with
    | nil => rfl
    | cons u s =>
      rw [List.getLast?_cons_cons]
      have hne : (u :: s).getLast? = some ((u :: s).getLast (by simp)) := List.getLast?_eq_some_getLast (by simp)
      rw [hne]
      rfl
theorem wrt_app (xs : List Int) (u v : List (Int × Int)) : wrt xs (u ++ v) = wrt (wrt xs u) v := by
  unfold wrt
  rw [List.foldl_append]
theorem wrt_all (k j : Int) : ∀ (Ls : List Lw) (pre : List Int) (n : Nat), pre.length = n → (∀ L ∈ Ls, thickL L k = lastD (wr k (partsOf L.le L.ps L.pl)) (thickL L j)) → wrt (pre ++ Ls.map fun L => thickL L j) (Wall k n Ls) = pre ++ Ls.map fun L => thickL L k
  | [], pre, n, _, _ => rfl
  | L :: r, pre, n, hn, h => by
    show wrt (pre ++ thickL L j :: r.map fun L => thickL L j) ((wr k (partsOf L.le L.ps L.pl)).map (fun t => ((n : Int), t)) ++ Wall k (n + 1) r) = pre ++ thickL L k :: r.map fun L => thickL L k
    rw [wrt_app, ← hn, wrt_one 0, ← h L (by simp)]
    have ih := wrt_all k j r (pre ++ [thickL L k]) (pre.length + 1) (by rw [List.length_append]; rfl) fun M hM => h M (by simp [hM])
    rw [List.append_assoc, List.append_assoc] at ih
    exact ih
theorem keys_nonneg {Ls : List Lw} (g : ∀ L ∈ Ls, GoodL L) {k : Int} (h : Keys Ls k) : 0 ≤ k := by
  rcases h with h | ⟨L, hL, y, hy, h⟩
  · omega
  · have gL := g L hL
    have hp : ∀ p ∈ L.ps, 1 ≤ p.2 := fun p hp => (gL.1.2.2 p hp).2.2.1
    rw [← parts_eq L.ps L.pl hp] at hy
    have h1 := law_mem L.ps L.pl hp y hy
    have h2 := gL.2.2.2.1
    omega
theorem places_step {Ls : List Lw} (g : ∀ L ∈ Ls, GoodL L) {ys : List Int} (hp : Places Ls ys) {j k : Int} (hjk : j < k) (hn : ∀ y ∈ ys, y ≤ j ∨ k ≤ y) : ∀ L ∈ Ls, thickL L k = lastD (wr k (partsOf L.le L.ps L.pl)) (thickL L j) := fun L hL =>
  thick_step (g L hL) hjk fun y hy => ⟨hn _ ((hp.2.1 _).mpr (.inr ⟨L, hL, y, hy, .inl rfl⟩)), hn _ ((hp.2.1 _).mpr (.inr ⟨L, hL, y, hy, .inr rfl⟩))⟩
theorem thick_ahead {L : Lw} (g : GoodL L) : thickL L (-1) = 0 := by
  unfold thickL
  have := g.2.2.2.1
  rw [if_pos (by omega)]
theorem places_zero {Ls : List Lw} (g : ∀ L ∈ Ls, GoodL L) {ys : List Int} (hp : Places Ls ys) : ∃ r, ys = 0 :: r := by
  cases ys with
  | nil => exact absurd ((hp.2.1 0).mpr (.inl rfl)) (by simp)
  | cons y r =>
    have h1 := keys_nonneg g ((hp.2.1 y).mp (by simp))
    rcases List.mem_cons.mp ((hp.2.1 0).mpr (.inl rfl)) with e | e
    · exact ⟨r, by rw [← e]⟩
    · have h2 := (List.pairwise_cons.mp hp.1).1 0 e
      omega
/-- the place ahead of the i-th -/
def prevOf (ys : List Int) (i : Nat) : Int := if i = 0 then -1 else ys.getD (i - 1) 0
theorem prev_lt {Ls : List Lw} (g : ∀ L ∈ Ls, GoodL L) {ys : List Int} (hp : Places Ls ys) {i : Nat} {k : Int} (hk : ys[i]? = some k) : prevOf ys i < k ∧ ∀ y ∈ ys, y ≤ prevOf ys i ∨ k ≤ y := by
  have hi : i < ys.length := (List.getElem?_eq_some_iff.mp hk).1
  have ek : ys[i] = k := (List.getElem?_eq_some_iff.mp hk).2
  have srt := List.pairwise_iff_getElem.mp hp.1
  unfold prevOf
  by_cases h0 : i = 0
  · subst h0
    rw [if_pos rfl]
    have h1 := keys_nonneg g ((hp.2.1 k).mp (List.mem_of_getElem? hk))
    refine ⟨by omega, fun y hy => ?_⟩
    obtain ⟨m, hm, rfl⟩ := List.getElem_of_mem hy
    by_cases hm0 : m = 0
    · subst hm0
      right
      omega
    · have := srt 0 m hi hm (by omega)
      right
      omega
  · rw [if_neg h0, List.getD_eq_getElem?_getD, List.getElem?_eq_getElem (show i - 1 < ys.length by omega)]
    have h1 := srt (i - 1) i (by omega) hi (by omega)
    refine ⟨by simp only [Option.getD_some]; omega, fun y hy => ?_⟩
    simp only [Option.getD_some]
    obtain ⟨m, hm, rfl⟩ := List.getElem_of_mem hy
    by_cases h2 : m ≤ i - 1
    · left
      by_cases h3 : m = i - 1
      · subst h3
        exact Int.le_refl _
      · have := srt m (i - 1) hm (by omega) (by omega)
        omega
    · right
      by_cases h3 : m = i
      · subst h3
        omega
      · have := srt i m hi hm (by omega)
        omega
theorem prev_succ {ys : List Int} {i : Nat} {k : Int} (hk : ys[i]? = some k) : prevOf ys (i + 1) = k := by
  unfold prevOf
  rw [if_neg (by omega), Nat.add_sub_cancel, List.getD_eq_getElem?_getD, hk]
  rfl
theorem pairs_take {ys : List Int} {i : Nat} {s e : Int} (h1 : ys[i]? = some s) (h2 : (ys.drop 1)[i]? = some e) : (pairs ys).take (i + 1) = (pairs ys).take i ++ [(s, e)] := by
  rw [List.take_add_one]
  have : (pairs ys)[i]? = some (s, e) := by
    rw [List.getElem?_zip_eq_some]
    exact ⟨h1, h2⟩
  rw [this]
  rfl
theorem wall_num (k : Int) : ∀ (Ls : List Lw) (n : Nat) (p : Int × Int), p ∈ Wall k n Ls → ∃ m : Nat, m < n + Ls.length ∧ p.1 = m
  | [], _, p, h => by cases h
  | L :: r, n, p, h => by
    have h : p ∈ (wr k (partsOf L.le L.ps L.pl)).map (fun t => ((n : Int), t)) ++ Wall k (n + 1) r := h
    rcases List.mem_append.mp h with h | h
    · obtain ⟨t, _, rfl⟩ := List.mem_map.mp h
      exact ⟨n, by rw [List.length_cons]; omega, rfl⟩
    · obtain ⟨m, hm, e⟩ := wall_num k r (n + 1) p h
      exact ⟨m, by rw [List.length_cons]; omega, e⟩
theorem ixN_at {n j : Nat} (h : j < n) : ixN n (j : Int) = some j := by
  unfold ixN
  rw [if_pos (Int.natCast_nonneg j), if_pos (Int.ofNat_lt.mpr h), Int.toNat_natCast]
/-! ### a pot of three numbers: the great number at hand, the seed, how many were drawn -/
def PotC (H : Hp) (p : Addr) (T : Nat) : Prop := ∃ (c m : Int) (t : Nat), H p = some (.lst [.int c, .int m, .int (t : Int)]) ∧ 0 ≤ c ∧ 0 ≤ m ∧ m < 2 ^ 62 ∧ t ≤ T
theorem PotC.mono {H : Hp} {p : Addr} {T U : Nat} (h : PotC H p T) (e : T ≤ U) : PotC H p U := by
  obtain ⟨c, m, t, h1, h2, h3, h4, h5⟩ := h
  exact ⟨c, m, t, h1, h2, h3, h4, Nat.le_trans h5 e⟩
theorem PotC.new {H : Hp} {p a : Addr} {T : Nat} {o : HO} (h : PotC H p T) (n : H a = none) : PotC (upd H a o) p T := by
  obtain ⟨c, m, t, h1, h2⟩ := h
  exact ⟨c, m, t, by rw [upd_ne (ne_of_none h1 n)]; exact h1, h2⟩
theorem PotC.other {H : Hp} {p a : Addr} {T : Nat} {o : HO} (h : PotC H p T) (n : a ≠ p) : PotC (upd H a o) p T := by
  obtain ⟨c, m, t, h1, h2⟩ := h
  exact ⟨c, m, t, by rw [upd_ne n.symm]; exact h1, h2⟩
theorem PotC.notP {H : Hp} {p a : Addr} {T : Nat} {xs : List V} (h : PotC H p T) (e : H a = some (.tup xs)) : a ≠ p := by
  obtain ⟨c, m, t, h1, h2⟩ := h
  exact ne_of e h1 (by intro z; cases z)
theorem PotC.fresh {H : Hp} {p a : Addr} {T : Nat} (h : PotC H p T) (e : H a = none) : a ≠ p := by
  obtain ⟨c, m, t, h1, h2⟩ := h
  exact (ne_of_none h1 e).symm
theorem PotC.same {H H' : Hp} {p : Addr} {T : Nat} (h : PotC H p T) (e : Same H H') : PotC H' p T := by
  obtain ⟨c, m, t, h1, h2⟩ := h
  exact ⟨c, m, t, e _ _ h1, h2⟩
theorem Keep.tupsC {p : Addr} {H H' : Hp} {T : Nat} (k : Keep p p H H') (h : PotC H p T) : Tups H H' := fun a xs e => k a _ (h.notP e) (h.notP e) e
theorem Keep.freeC {p a : Addr} {H H' : Hp} {T : Nat} (k : Keep p p H H') (hp : PotC H' p T) (h : H' a = none) : H a = none := by
  have n := hp.fresh h
  cases q : H a with
  | none => rfl
  | some o =>
    rw [k a o n n q] at h
    cases h
theorem Keep.at {p a : Addr} {H H' : Hp} {o : HO} (k : Keep p p H H') (n : a ≠ p) (e : H a = some o) : H' a = some o := k a o n n e
def spBeginC (K : PySem.W.Frag) : Sp := fun vs H Q _ => ∃ (a : Addr) (ns : List Int) (i : Int), vs = [.ref a, .int i] ∧ SqL K H a (ns.map V.int) ∧ ns.length ≤ 63 ∧ 0 ≤ i ∧ i < 1000 ∧
  ∀ H' p, Same H H' → H p = none → PotC H' p 0 → Q (.ref p) H'
def spTakeC : Sp := fun vs H Q _ => ∃ (p : Addr) (T : Nat) (many : Int), vs = [.ref p, .int many] ∧ PotC H p T ∧ T < 2 ^ 40 ∧ CDivW 0 many ∧
  ∀ d H', 0 ≤ d → d < many → PotC H' p (T + 1) → Keep p p H H' → Q (.int d) H'
theorem wdiv {b : Int} (h : 0 < b) (h1 : b < 2 ^ 250) : CDivW 0 b := wide_div (b := 250) h (by
  have : (b.natAbs : Int) = b := by omega
  have h2 : (b.natAbs : Int) < ((2 ^ 250 : Nat) : Int) := by rw [this]; exact h1
  exact Int.ofNat_lt.mp h2) (by decide) (by decide)
theorem wmul {i j : Int} (h0 : 0 ≤ i) (h1 : i < 2 ^ 250) (h2 : 0 ≤ j) (h3 : j < 2 ^ 250) : CMulW i j := by
  refine wide_mul (a := 250) (b := 250) ?_ ?_ (by decide) (by decide) (by decide)
  · have e : (i.natAbs : Int) = i := by omega
    have h : (i.natAbs : Int) < ((2 ^ 250 : Nat) : Int) := by rw [e]; exact h1
    exact Int.ofNat_lt.mp h
  · have e : (j.natAbs : Int) = j := by omega
    have h : (j.natAbs : Int) < ((2 ^ 250 : Nat) : Int) := by rw [e]; exact h3
    exact Int.ofNat_lt.mp h
theorem Keep.from {p : Addr} {H H1 H2 : Hp} (k : Keep p p H1 H2) (s : Same H H1) (np : H p = none) : Same H H2 := fun b o e => k b o (ne_of_none e np) (ne_of_none e np) (s b o e)
theorem pairD {K : PySem.W.Frag} {H : Hp} {a : Addr} {i j : Int} (h : H a = some (.tup [.int i, .int j])) : Dp K H (.ref a) (.tuple [.int i, .int j]) := .tup (SqT.of h) (.cons (.int _) (.cons (.int _) .nil))
/-! ### sum of a tuple, list(range(n)) -/
section
variable {X : Cx}
theorem tup_total {prog : Program} {w : World} {A : Around} {E : Value → Shared → Prop} {s : Shared} {l : Addr} {xs : Array (Int × Tok)} {Q : Value → Shared → Prop} (hh : A.handled = none) (hl : s.heap.IsTuple l (intItems xs))
    (h : ∀ h' tk t', (∀ b o, s.heap.get? b = some o → h'.get? b = some o) → Q (.int (preSum (numAt xs) xs.size) t') { s with heap := h', toks := tk }) : wpAny (model prog w) A (call (.builtin "sum") [.ref l]) Q E s := by
  have lt : l < s.heap.objs.size := by
    obtain ⟨o, e, _⟩ := hl
    exact Heap.lt_size e
  have nn : (s.heap.push { cls := .type "tuple_iterator", data := .fields #[.ref l, .int 0 0] }).objs.size = s.heap.objs.size + 1 := Heap.size_push _ _
  refine call_sum_walkG (wpAny_pyIter_tuple hl ⟨_, _, _, _, _, _, numAt xs, rfl, Walks.tuple (A := A.in1) hh _ l (Nat.ne_of_lt lt) (intItems xs), ⟨⟨_, Heap.get?_push_size _ rfl, rfl, rfl⟩, ?_⟩, fun b hb => ?_, (fun _ _ => intItems_at), fun h' tk t' hk => ?_⟩)
  · obtain ⟨o, e, r⟩ := hl
    exact ⟨o, Heap.get?_push_of_some _ e, r⟩
  · show b < (s.heap.push { cls := .type "tuple_iterator", data := .fields #[.ref l, .int 0 0] }).objs.size
    rw [nn]
    simp only [List.mem_cons, List.not_mem_nil, or_false] at hb
    rcases hb with rfl | rfl
    · exact Nat.lt_succ_self _
    · exact Nat.lt_succ_of_lt lt
  · have z := h h' tk t' fun b o e => hk b o (fun hm => by
      simp only [List.mem_cons, List.not_mem_nil, or_false] at hm
      rw [hm] at e
      exact absurd (Heap.lt_size e) (Nat.lt_irrefl _)) (Heap.get?_push_of_some _ e)
    simpa [intItems] using z
theorem cr_sumT (hc : X.calm = true) : CallR X (.builtin "sum") (fun vs H Q => ∃ (a : Addr) (ns : List Int), vs = [V.ref a] ∧ SqT X.K H a (ns.map V.int) ∧ Q (.int ns.sum) H) := by
  intro pins s σ H vs us Q I r h
  obtain ⟨a, ns, rfl, hs, q⟩ := h
  obtain ⟨its, rv, hl, _⟩ := I.tuple hs
  rw [Vals.ref1 r]
  obtain ⟨xs, e⟩ := rv.ints.allInts.items
  have hn : numsOf (intItems xs).toList = ns := by rw [← e]; exact rv.ints.numsOf
  rw [nums_intItems] at hn
  rw [e] at hl
  refine tup_total (I.ok.hd hc) hl fun h' tk t' hk => ?_
  rw [preSum_eq, List.take_of_length_le (by simp), hn]
  exact ⟨.int _, H, I.kept hk, ⟨_, rfl⟩, q⟩
theorem cr_rangeN : CallR X (.type "range") (fun vs H Q => ∃ j, vs = [V.int j] ∧ ∀ p, H p = none → Q (.ref p) (upd H p (.rng 0 j))) := by
  intro pins s σ H vs us Q I r h
  obtain ⟨j, rfl, q⟩ := h
  obtain ⟨u, rfl, ⟨t, rfl⟩⟩ := vals1 r
  refine call_range_1 ⟨.ref s.heap.objs.size, upd H s.heap.objs.size (.rng 0 j), I.laid (t' := s.toks + 1 + 1) (fun b o e => Heap.get?_push_of_some _ e) (Nat.le_refl _) ?_, rfl, q _ (I.hok.fresh (Nat.le_refl _))⟩
  exact ⟨s.toks, t, s.toks + 1, Heap.get?_push_size _ rfl⟩
def upTo (n : Nat) : List Int := (List.range n).map fun (i : Nat) => (i : Int)
theorem vals_upTo : ∀ (n : Nat) (vs : List Value), vs.length = n → (∀ (j : Nat) (v : Value), vs[j]? = some v → ∃ t, v = .int ((j : Nat) : Int) t) → Vals ((upTo n).map V.int) vs := by
  intro n
  induction n with
  | zero =>
    intro vs hl _
    cases vs with
    | nil => exact .nil
    | cons x r => cases hl
  | succ n ih =>
    intro vs hl hv
    have hne : vs ≠ [] := fun e => by rw [e] at hl; cases hl
    have e := List.dropLast_concat_getLast hne
    have h1 := ih vs.dropLast (by rw [List.length_dropLast, hl]; rfl) (fun j v hj => hv j v (by
      rw [← e]
      rw [List.getElem?_append_left (List.getElem?_eq_some_iff.mp hj).1]
      exact hj))
    obtain ⟨t, et⟩ := hv n (vs.getLast hne) (by
      rw [List.getLast_eq_getElem]
      have : vs.length - 1 = n := by omega
      simp only [this]
      exact List.getElem?_eq_getElem (by omega))
    have e2 : upTo (n + 1) = upTo n ++ [(n : Int)] := by
      unfold upTo
      rw [List.range_succ, List.map_append]
      rfl
    rw [e2, List.map_append, ← e]
    exact Vals.append h1 (.cons ⟨t, et⟩ .nil)
theorem call_listR (hc : X.calm = true) : CallR X (.type "list") (fun vs H Q => ∃ (r : Addr) (n : Nat), vs = [.ref r] ∧ H r = some (.rng 0 (n : Int)) ∧ n ≤ 1000 ∧ ∀ l, H l = none → Q (.ref l) (upd H l (.lst ((upTo n).map V.int)))) := by
  intro pins s σ H xs us Q I r h
  obtain ⟨p, n, rfl, hp, hn, q⟩ := h
  obtain ⟨u, rfl, rx⟩ := vals1 r
  cases rx
  obtain ⟨t1, t2, t3, ho⟩ := I.hok p _ hp
  have hsz : Builtin.Range.rangeSize 0 (n : Int) 1 = (n : Int) := by
    rw [rangeSize_one]
    split <;> omega
  refine call_list_range (n := n) (I.ok.hd hc) ho ?_ hsz (by omega) fun h' tk acc' c' hk hS hacc => ?_
  · exact small_one (by decide) (by decide) (by omega) (by omega)
  · have hv : Vals ((upTo n).map V.int) acc'.toList := vals_upTo n acc'.toList (by rw [Array.length_toList]; exact hacc.1) fun j v hj => by
      obtain ⟨t, e⟩ := hacc.2 j v (by rw [← Array.getElem?_toList]; exact hj)
      exact ⟨t, by rw [e]; simp⟩
    refine ⟨.ref s.heap.objs.size, _, I.laid (t' := tk) hk (Nat.le_refl _) (show ObjOk X.prog X.w _ h' _ (.lst ((upTo n).map V.int)) from ⟨?_, acc'.toList, c', hv, by simpa using hS⟩), rfl, q _ (I.hok.fresh (Nat.le_refl _))⟩
    show ((upTo n).map V.int).length ≤ sizeLine
    unfold upTo
    rw [List.length_map, List.length_map, List.length_range]
    exact Nat.le_trans hn (by decide)
end
theorem dpInts {K : PySem.W.Frag} (H : Hp) : ∀ ns : List Int, DpAll K H (ns.map V.int) (ns.map PyData.int)
  | [] => .nil
  | n :: r => .cons (.int n) (dpInts H r)
theorem shInts (ns : List Int) : SeqAt.shaped (.list (ns.map PyData.int)) = true := by
  have h1 : PyData.canLayAll0 (ns.map PyData.int) = true := by
    induction ns with
    | nil => rfl
    | cons n r ih => exact (Bool.and_eq_true_iff.mpr ⟨rfl, ih⟩)
  have h2 : PyData.depthAll (ns.map PyData.int) = 0 := by
    clear h1
    induction ns with
    | nil => rfl
    | cons n r ih =>
      show max 0 (PyData.depthAll (r.map PyData.int)) = 0
      rw [ih]
      rfl
  refine Bool.and_eq_true_iff.mpr ⟨h1, decide_eq_true ?_⟩
  show PyData.depthAll (ns.map PyData.int) + 1 ≤ 64
  rw [h2]
  decide
/-! ### t += u of tuples; defs with defaults -/
theorem noI_tup : typeLookup (.type "tuple") (dunderI "add") = pure none := by
  rw [typeLookup_type, builtinLookup_eq_fast]
  kernel_rfl
section
variable {X : Cx}
theorem ip_catA : PIp X .Add (rCatA X.K) := by
  intro pins s σ H x y v u Q I rx ry h
  obtain ⟨a, b, xs, ys, rfl, rfl, ha, hb, hz, q0, q1, q2⟩ := h
  cases rx
  cases ry
  obtain ⟨vs, r1, p1, _⟩ := I.tuple ha
  obtain ⟨ws, r2, p2, _⟩ := I.tuple hb
  have hzz : vs.length + ws.length ≤ sizeLine := by rw [← r1.length, ← r2.length]; exact hz
  have e : vs.toArray ++ ws.toArray = (vs ++ ws).toArray := by simp
  obtain ⟨⟨cls, dd, data, sl⟩, ho, hc, n, hd⟩ := id p1
  obtain ⟨⟨cls2, dd2, data2, sl2⟩, ho2, hc2, n2, hd2⟩ := id p2
  simp only at hc hd hc2 hd2
  subst hc hd hc2 hd2
  have go : ∀ {S : PySem.Spec}, Meets (Builtin.«tuple.__add__» ⟨[.ref a, .ref b], []⟩) S → S X.A (wants (EP X pins σ Q) X.xe) s → wpAny (model X.prog X.w) X.A (inplaceOp .Add (.ref a) (.ref b)) (EP X pins σ Q) X.xe s := fun g hS =>
    wpAny_inplaceOp_concat ⟨_, ho, rfl⟩ ⟨_, ho2, rfl⟩ noI_tup noFill_tuple_add seq_tuple_add (call_meets PySem.F.slot_tuple_add ⟨_, ho, rfl⟩ PySem.F.entry_tuple_add (PySem.F.args_tuple_add_2 _ _) g hS)
  by_cases hx : vs = []
  · subst hx
    exact go (tuple_addW0 a b ([] : List Value).toArray ws.toArray n n2 dd dd2 sl sl2 (by simp)) ⟨ho, ho2, .ref b, H, I, rfl, q0 (r1.nil_iff.mp rfl)⟩
  · by_cases hy : ws = []
    · exact go (tuple_addW1 a b vs.toArray ws.toArray n n2 dd dd2 sl sl2 (by simpa using hx) (by simp [hy])) ⟨ho, ho2, .ref a, H, I, rfl, q1 (fun z => hx (r1.nil_iff.mpr z)) (r2.nil_iff.mp hy)⟩
    · refine go (tuple_addW2 a b vs.toArray ws.toArray n n2 dd dd2 sl sl2 (by simpa using hx) (by simpa using hy) (by rw [List.size_toArray, List.size_toArray]; exact hzz)) ⟨ho, ho2, ?_⟩
      rw [e]
      refine ⟨.ref s.heap.objs.size, _, I.laid (t' := s.toks) (o := .tup (xs ++ ys)) (fun b ob q => Heap.get?_push_of_some _ q) (Nat.le_refl _) ⟨by rw [List.length_append]; exact hz, _, r1.append r2, IsTup.new _ _⟩, rfl, q2 (fun z => hx (r1.nil_iff.mpr z)) (fun z => hy (r2.nil_iff.mpr z)) _ (I.hok.fresh (Nat.le_refl _))⟩
end
def BD (K : PySem.W.Frag) (fd : FuncData) (ps : List Str) (dvs : List V) : Prop := ∃ ds, Vals dvs ds ∧ Binds K fd ps ds
theorem okD {P : Program} {w : World} {K : PySem.W.Frag} {mg : Str → Option Value} {base : Heap} {x qual : Str} {params : Arguments} {body : List Stmt} {scope : Scope} {dvs : List V} {kws : List (Str × V)} {f : Addr} {fd : FuncData} {N ps : List Str} {k : Nat} {sp : Sp}
    (F : FunD K x qual params body scope dvs kws f fd) (S : FnScope N ps scope) (ln : ∀ vs H Q E, sp vs H Q E → vs.length = ps.length)
    (hb : ∀ (cdv : Value) (A : Around) (outer : List Env) (s : Shared) (H : Hp) (vs : List V) (Q : VK) (E : XK), Room k (A.deeper (envOfC qual scope s.heap.objs.size f cdv)) → sp vs H Q E →
      ∃ t, PSs (cxOf CX0 P w K mg base N qual scope f cdv A outer s H E).nox body t ∧ t { nx := fun _ H' => Q .non H', rt := Q } (start N vs) H) : FnOk P w K mg base CX0 (k + 1) f fd ps sp :=
  F.ok S ln fun cdv A outer s H vs Q E hr h => by
    obtain ⟨t, h1, h2⟩ := hb cdv A outer s H vs Q E hr h
    exact ⟨t, h1.nox, h2⟩
/-! ### the first place that is thinner than low -/
def IsFirst (Ls : List Lw) (low now m : Int) : Prop := now ≤ m ∧ thickS Ls m < low ∧ ∀ p, now ≤ p → p < m → low ≤ thickS Ls p
theorem first_eq {Ls : List Lw} {low now m n : Int} (h1 : IsFirst Ls low now m) (h2 : IsFirst Ls low now n) : m = n := by
  obtain ⟨a1, a2, a3⟩ := h1
  obtain ⟨b1, b2, b3⟩ := h2
  rcases Int.lt_trichotomy m n with h | h | h
  · have := b3 m a1 h
    omega
  · exact h
  · have := a3 n b1 h
    omega
theorem thick_nonneg : ∀ (ps : List (Int × Int)) (k : Int), (∀ p ∈ ps, 0 ≤ p.1) → 0 ≤ thickAt ps k
  | [], _, _ => Int.le_refl _
  | (t, g) :: r, k, h => by
    show 0 ≤ if k < g then t else thickAt r (k - g)
    split
    · exact h (t, g) (by simp)
    · exact thick_nonneg r _ fun p hp => h p (by simp [hp])
theorem thick_over {L : Lw} (g : GoodL L) {p : Int} (h : lastOf L ≤ p) : thickL L p = 0 := by
  have h1 := thick_runs g p
  have h2 : 0 ≤ thickL L p := by
    unfold thickL
    split
    · exact Int.le_refl _
    · cases L.le with
      | none => exact thick_nonneg _ _ fun q hq => Int.le_trans (by decide) (g.1.2.2 q hq).1
      | some n =>
        show 0 ≤ if n ≤ p then 0 else _
        split
        · exact Int.le_refl _
        · exact thick_nonneg _ _ fun q hq => Int.le_trans (by decide) (g.1.2.2 q hq).1
  have h3 : ¬ 0 < thickL L p := fun z => by
    have := h1.mp z
    omega
  omega
theorem thickS_over {Ls : List Lw} (g : ∀ L ∈ Ls, GoodL L) {p : Int} (h : ∀ L ∈ Ls, lastOf L ≤ p) : thickS Ls p = 0 := by
  unfold thickS
  induction Ls with
  | nil => rfl
  | cons L r ih =>
    rw [List.map_cons, List.sum_cons, thick_over (g L (by simp)) (h L (by simp)), ih (fun M hM => g M (by simp [hM])) (fun M hM => h M (by simp [hM]))]
    rfl
theorem thickS_congr {Ls : List Lw} {p q : Int} (h : ∀ L ∈ Ls, thickL L p = thickL L q) : thickS Ls p = thickS Ls q := by
  unfold thickS
  rw [List.map_congr_left h]
theorem wr_not {k : Int} {qs : List (Int × Int × Int)} (h : ∀ y ∈ qs, y.1 ≠ k ∧ y.2.1 ≠ k) : wr k qs = [] := by
  cases hw : wr k qs with
  | nil => rfl
  | cons t r =>
    obtain ⟨y, hy, e⟩ := wr_ne (k := k) (qs := qs) (by rw [hw]; simp)
    have := h y hy
    rcases e with e | e
    · exact absurd e this.1
    · exact absurd e this.2
/-- where nothing begins or ends behind s, up to p, it is as at s -/
theorem thick_still {L : Lw} (g : GoodL L) {s p : Int} (hsp : s ≤ p) (hn : ∀ y ∈ partsOf L.le L.ps L.pl, (y.1 ≤ s ∨ p < y.1) ∧ (y.2.1 ≤ s ∨ p < y.2.1)) : thickL L p = thickL L s := by
  by_cases e : s = p
  · rw [e]
  · have h1 := thick_step g (j := s) (k := p) (by omega) fun y hy => ⟨(hn y hy).1.imp id Int.le_of_lt, (hn y hy).2.imp id Int.le_of_lt⟩
    rw [h1, wr_not fun y hy => ⟨fun z => by have := (hn y hy).1; omega, fun z => by have := (hn y hy).2; omega⟩]
    rfl
theorem pairs_get {ys : List Int} {i : Nat} {s e : Int} (h : (pairs ys)[i]? = some (s, e)) : ys[i]? = some s ∧ ys[i + 1]? = some e := by
  rw [List.getElem?_zip_eq_some] at h
  refine ⟨h.1, ?_⟩
  have := h.2
  rw [List.getElem?_drop] at this
  rw [Nat.add_comm]
  exact this
theorem places_still {Ls : List Lw} (g : ∀ L ∈ Ls, GoodL L) {ys : List Int} (hp : Places Ls ys) {i : Nat} {s e p : Int} (h : (pairs ys)[i]? = some (s, e)) (h1 : s ≤ p) (h2 : p < e) : thickS Ls p = thickS Ls s := by
  obtain ⟨e1, e2⟩ := pairs_get h
  obtain ⟨i1, g1⟩ := List.getElem?_eq_some_iff.mp e1
  obtain ⟨i2, g2⟩ := List.getElem?_eq_some_iff.mp e2
  have srt := List.pairwise_iff_getElem.mp hp.1
  have ok : ∀ y, Keys Ls y → y ≤ s ∨ p < y := fun y hy => by
    obtain ⟨m, hm, rfl⟩ := List.getElem_of_mem ((hp.2.1 y).mpr hy)
    by_cases hmi : m ≤ i
    · left
      by_cases hm2 : m = i
      · subst hm2
        omega
      · have := srt m i hm i1 (by omega)
        omega
    · right
      by_cases hm2 : m = i + 1
      · subst hm2
        omega
      · have := srt (i + 1) m i2 hm (by omega)
        omega
  exact thickS_congr fun L hL => thick_still (g L hL) h1 fun y hy => ⟨ok _ (.inr ⟨L, hL, y, hy, .inl rfl⟩), ok _ (.inr ⟨L, hL, y, hy, .inr rfl⟩)⟩
theorem end_key {Ls : List Lw} (g : ∀ L ∈ Ls, GoodL L) {m : Int} (h : IsEnd Ls m) : Keys Ls m := by
  cases hL : Ls with
  | nil => exact .inl (h.1 hL)
  | cons M r =>
    obtain ⟨L, hm, e⟩ := h.2.1 (by rw [hL]; simp)
    have gL := g L hm
    have hp : ∀ p ∈ L.ps, 1 ≤ p.2 := fun p hp => (gL.1.2.2 p hp).2.2.1
    obtain ⟨y, hy, ey⟩ := parts_has (le := L.le) L.ps L.pl hp (last_gt gL)
    rw [← hL]
    exact .inr ⟨L, hm, y, hy, .inr (by rw [ey, e]; rfl)⟩
theorem key_le {ys : List Int} (h : ys.Pairwise (· < ·)) {k : Int} (hk : k ∈ ys) {i : Nat} {e : Int} (he : ys[i]? = some e) (hi : i + 1 = ys.length) : k ≤ e := by
  obtain ⟨i1, g1⟩ := List.getElem?_eq_some_iff.mp he
  obtain ⟨m, hm, rfl⟩ := List.getElem_of_mem hk
  by_cases hmi : m = i
  · subst hmi
    omega
  · have := List.pairwise_iff_getElem.mp h m i hm i1 (by omega)
    omega
def spLasts : Sp := fun vs H Q _ => ∃ (a : Addr) (Ls : List Lw) (low now : Int), vs = [.ref a, .int low, .int now] ∧ StrandAt H a Ls ∧ Ls.length ≤ 60 ∧ (∀ L ∈ Ls, GoodL L) ∧ 1 ≤ low ∧ 0 ≤ now ∧ ∀ H' m, Same H H' → IsFirst Ls low now m → Q (.int m) H'
/-! ### rows drawn late -/
abbrev Wi := Int × List (Int × Int)
def RowAt (H : Hp) (as : List Addr) (Ws : List Wi) : Prop := as.length = Ws.length ∧ ∀ (i : Nat) (a : Addr), as[i]? = some a → ∃ W, Ws[i]? = some W ∧ WispAt H a W.1 W.2
theorem RowAt.mono {H H' : Hp} {as : List Addr} {Ws : List Wi} (h : RowAt H as Ws) (t : Tups H H') : RowAt H' as Ws := ⟨h.1, fun i a e => by
  obtain ⟨W, h1, h2⟩ := h.2 i a e
  exact ⟨W, h1, h2.mono t⟩⟩
theorem RowAt.take {H : Hp} {as : List Addr} {Ws : List Wi} (h : RowAt H as Ws) (n : Nat) : RowAt H (as.take n) (Ws.take n) := by
  refine ⟨by rw [List.length_take, List.length_take, h.1], fun i a e => ?_⟩
  rw [List.getElem?_take] at e
  split at e
  · next hi =>
    obtain ⟨W, h1, h2⟩ := h.2 i a e
    exact ⟨W, by rw [List.getElem?_take, if_pos hi]; exact h1, h2⟩
  · cases e
def GoodW (W : Wi) : Prop := Good W.2 ∧ 0 ≤ W.1 ∧ W.1 ≤ 1 ∧ longs W.2 < 2 ^ 110
def laidOf (W : Wi) (m : Int) : Lw := ⟨W.1, W.2, m, none⟩
def laidAll : List Wi → List Int → List Lw
  | W :: r, m :: s => laidOf W m :: laidAll r s
  | _, _ => []
theorem laidAll_len : ∀ (Ws : List Wi) (ms : List Int), Ws.length = ms.length → (laidAll Ws ms).length = Ws.length
  | [], [], _ => rfl
  | W :: r, m :: s, h => congrArg (· + 1) (laidAll_len r s (Nat.succ.inj h))
  | [], _ :: _, h => by cases h
  | _ :: _, [], h => by cases h
theorem laidAll_get : ∀ {Ws : List Wi} {ms : List Int} {i : Nat} {W : Wi} {m : Int}, Ws[i]? = some W → ms[i]? = some m → (laidAll Ws ms)[i]? = some (laidOf W m)
  | W :: r, m :: s, 0, _, _, h1, h2 => by
    cases h1
    cases h2
    rfl
  | W :: r, m :: s, i + 1, _, _, h1, h2 => laidAll_get (Ws := r) (ms := s) (i := i) h1 h2
  | [], _, i, _, _, h1, _ => by simp at h1
  | _ :: _, [], i, _, _, _, h2 => by simp at h2
theorem laidAll_mem : ∀ {Ws : List Wi} {ms : List Int} {L : Lw}, L ∈ laidAll Ws ms → ∃ W ∈ Ws, ∃ m ∈ ms, L = laidOf W m
  | W :: r, m :: s, L, h => by
    rcases List.mem_cons.mp h with rfl | h
    · exact ⟨W, by simp, m, by simp, rfl⟩
    · obtain ⟨V, hV, n, hn, e⟩ := laidAll_mem (Ws := r) (ms := s) h
      exact ⟨V, by simp [hV], n, by simp [hn], e⟩
  | [], _, L, h => by simp [laidAll] at h
  | _ :: _, [], L, h => by simp [laidAll] at h
theorem good_laid {W : Wi} {m : Int} (g : GoodW W) (h0 : 0 ≤ m) (h1 : m < 2 ^ 130) : GoodL (laidOf W m) := ⟨g.1, g.2.1, g.2.2.1, h0, h1, fun n e => by cases e⟩
theorem last_laid (W : Wi) (m : Int) : lastOf (laidOf W m) = m + longs W.2 := rfl
theorem first_le {Ls : List Lw} (g : ∀ L ∈ Ls, GoodL L) {low now m B : Int} (h : IsFirst Ls low now m) (l1 : 1 ≤ low) (hn : now ≤ B) (hB : ∀ L ∈ Ls, lastOf L ≤ B) : m ≤ B := by
  rcases Int.lt_or_le B m with hb | hb
  · have h1 := h.2.2 B hn hb
    rw [thickS_over g hB] at h1
    omega
  · exact hb
/-- each next one at the first place that is too thin without it -/
def LateP (Ls : List Lw) (Ws : List Wi) (low now : Int) (ms : List Int) : Prop := ms.length = Ws.length ∧ ∀ (i : Nat) (m : Int), ms[i]? = some m → IsFirst (Ls ++ laidAll (Ws.take i) (ms.take i)) low now m
theorem late_eq {Ls : List Lw} {Ws : List Wi} {low now : Int} {ms ns : List Int} (h1 : LateP Ls Ws low now ms) (h2 : LateP Ls Ws low now ns) : ms = ns := by
  have key : ∀ i, ms.take i = ns.take i := by
    intro i
    induction i with
    | zero => rfl
    | succ i ih =>
      rw [List.take_add_one, List.take_add_one, ih]
      congr 1
      by_cases hi : i < ms.length
      · have hi2 : i < ns.length := by rw [h2.1, ← h1.1]; exact hi
        have e1 : ms[i]? = some ms[i] := List.getElem?_eq_getElem hi
        have e2 : ns[i]? = some ns[i] := List.getElem?_eq_getElem hi2
        have f1 := h1.2 i _ e1
        have f2 := h2.2 i _ e2
        rw [ih] at f1
        rw [e1, e2, first_eq f1 f2]
      · rw [List.getElem?_eq_none (by omega), List.getElem?_eq_none (by rw [h2.1, ← h1.1]; omega)]
  have := key ms.length
  rw [List.take_length, List.take_of_length_le (by rw [h1.1, h2.1]; exact Nat.le_refl _)] at this
  exact this
def spLaidOut : Sp := fun vs H Q _ => ∃ (a b : Addr) (as : List Addr) (Ws : List Wi) (ms : List Int), vs = [.ref a, .ref b] ∧ H a = some (.tup (as.map V.ref)) ∧ RowAt H as Ws ∧ H b = some (.tup (ms.map V.int)) ∧ Ws.length = ms.length ∧ Ws.length ≤ 60 ∧
  ∀ H' o, Same H H' → H o = none → StrandAt H' o (laidAll Ws ms) → Q (.ref o) H'
def SX (H : Hp) (x : V) (Ls : List Lw) : Prop := (x = .non ∧ Ls = []) ∨ ∃ c, x = .ref c ∧ StrandAt H c Ls
theorem SX.mono {H H' : Hp} {x : V} {Ls : List Lw} (h : SX H x Ls) (t : Tups H H') : SX H' x Ls := by
  rcases h with h | ⟨c, h1, h2⟩
  · exact .inl h
  · exact .inr ⟨c, h1, h2.mono t⟩
def spStrandWith : Sp := fun vs H Q _ => ∃ (a b : Addr) (x : V) (as : List Addr) (Ws : List Wi) (ms : List Int) (Ls : List Lw), vs = [.ref a, .ref b, x] ∧ H a = some (.tup (as.map V.ref)) ∧ RowAt H as Ws ∧ H b = some (.tup (ms.map V.int)) ∧ Ws.length = ms.length ∧ SX H x Ls ∧ Ls.length + Ws.length ≤ 60 ∧
  ∀ H' o, Same H H' → StrandAt H' o (Ls ++ laidAll Ws ms) → Q (.ref o) H'
/-- what a row is drawn from -/
structure From (Ls : List Lw) (Ws : List Wi) (low now : Int) : Prop where
  few : Ls.length + Ws.length ≤ 60
  gl : ∀ L ∈ Ls, GoodL L
  gw : ∀ W ∈ Ws, GoodW W
  l1 : 1 ≤ low
  n0 : 0 ≤ now
  n1 : now ≤ 2 ^ 115
  b : ∀ L ∈ Ls, lastOf L ≤ 2 ^ 115
def spDrawn : Sp := fun vs H Q _ => ∃ (a : Addr) (x : V) (low now : Int) (as : List Addr) (Ws : List Wi) (Ls : List Lw), vs = [.ref a, .int low, x, .int now] ∧ H a = some (.tup (as.map V.ref)) ∧ RowAt H as Ws ∧ SX H x Ls ∧ From Ls Ws low now ∧
  ∀ H' o ms, Same H H' → H' o = some (.tup (ms.map V.int)) → LateP Ls Ws low now ms → (∀ m ∈ ms, 0 ≤ m ∧ m < 2 ^ 125) → Q (.ref o) H'
def spLasting : Sp := fun vs H Q _ => ∃ (a : Addr) (x : V) (low now : Int) (as : List Addr) (Ws : List Wi) (Ls : List Lw), vs = [.ref a, .int low, x, .int now] ∧ H a = some (.tup (as.map V.ref)) ∧ RowAt H as Ws ∧ SX H x Ls ∧ From Ls Ws low now ∧
  ∀ H' ms m, Same H H' → LateP Ls Ws low now ms → IsFirst (Ls ++ laidAll Ws ms) low now m → Q (.int m) H'
/-- the places so far, their bound -/
def SoFar (Ls : List Lw) (Ws : List Wi) (low now : Int) (i : Nat) (ms : List Int) : Prop := ms.length = i ∧ (∀ (j : Nat) (m : Int), ms[j]? = some m → IsFirst (Ls ++ laidAll (Ws.take j) (ms.take j)) low now m) ∧ ∀ m ∈ ms, 0 ≤ m ∧ m ≤ 2 ^ 115 + (i : Int) * 2 ^ 110
theorem so_far_good {Ls : List Lw} {Ws : List Wi} {low now : Int} (F : From Ls Ws low now) {i : Nat} {ms : List Int} (h : SoFar Ls Ws low now i ms) (hi : i ≤ Ws.length) :
    (∀ L ∈ Ls ++ laidAll (Ws.take i) ms, GoodL L) ∧ (Ls ++ laidAll (Ws.take i) ms).length ≤ 60 ∧ ∀ L ∈ Ls ++ laidAll (Ws.take i) ms, lastOf L ≤ 2 ^ 115 + ((i + 1 : Nat) : Int) * 2 ^ 110 := by
  have hi60 : (i : Int) ≤ 60 := by
    have := F.few
    omega
  have e1 : ((i + 1 : Nat) : Int) * 2 ^ 110 = (i : Int) * 2 ^ 110 + 2 ^ 110 := by
    rw [Int.natCast_add, Int.add_mul]
    rfl
  have e2 : (i : Int) * 2 ^ 110 ≤ 60 * 2 ^ 110 := Int.mul_le_mul_of_nonneg_right hi60 (by decide)
  have e3 : 0 ≤ (i : Int) * 2 ^ 110 := Int.mul_nonneg (by omega) (by decide)
  refine ⟨fun L hL => ?_, ?_, fun L hL => ?_⟩
  · rcases List.mem_append.mp hL with hL | hL
    · exact F.gl L hL
    · obtain ⟨W, hW, m, hm, rfl⟩ := laidAll_mem hL
      have := h.2.2 m hm
      exact good_laid (F.gw W (List.mem_of_mem_take hW)) this.1 (by omega)
  · rw [List.length_append, laidAll_len _ _ (by rw [List.length_take, h.1]; omega), List.length_take]
    have := F.few
    omega
  · rcases List.mem_append.mp hL with hL | hL
    · have := F.b L hL
      omega
    · obtain ⟨W, hW, m, hm, rfl⟩ := laidAll_mem hL
      have h1 := h.2.2 m hm
      have h2 := (F.gw W (List.mem_of_mem_take hW)).2.2.2
      rw [last_laid]
      omega
/-! ### what the law draws -/
def spOfB : Sp := fun vs H Q _ => ∃ (p : Addr) (T : Nat) (a : Addr) (xs : List V), vs = [.ref p, .ref a] ∧ PotC H p T ∧ T < 2 ^ 39 ∧ H a = some (.lst xs) ∧ a ≠ p ∧ 1 ≤ xs.length ∧ xs.length ≤ 1000 ∧
  ∀ H' (j : Nat) x, xs[j]? = some x → PotC H' p (T + 1) → Keep p p H H' → Q x H'
def spDWisp : Sp := fun vs H Q _ => ∃ (p : Addr) (T : Nat) (sty : Int), vs = [.ref p, .int sty] ∧ PotC H p T ∧ T < 2 ^ 37 ∧ 0 ≤ sty ∧ sty < 3 ∧
  ∀ H' a W, WispAt H' a W.1 W.2 → GoodW W → H a = none → PotC H' p (T + 100) → Keep p p H H' → Q (.ref a) H'
def spLeast : Sp := fun vs H Q _ => ∃ (p : Addr) (T : Nat) (sty : Int), vs = [.ref p, .int sty] ∧ PotC H p T ∧ T < 2 ^ 37 ∧ ∀ H' n, 1 ≤ n → n < 2 ^ 140 → PotC H' p (T + 2) → Keep p p H H' → Q (.int n) H'
def spStrongB : Sp := fun vs H Q _ => ∃ (a : Addr) (s : Int) (ps : List (Int × Int)) (k : Int), vs = [.ref a, .int k] ∧ WispAt H a s ps ∧ Q (.int (thickAt ps k)) H
def spThere : Sp := fun vs H Q _ => ∃ (a : Addr) (Ls : List Lw) (p : Int), vs = [.ref a, .int p] ∧ StrandAt H a Ls ∧ Q (.int (thickS Ls p)) H
theorem longs_le {ps : List (Int × Int)} {B : Int} (h : ∀ p ∈ ps, p.2 ≤ B) : longs ps ≤ ps.length * B := by
  induction ps with
  | nil => rw [show longs [] = 0 from rfl]; simp
  | cons p r ih =>
    have h1 := h p (by simp)
    have h2 := ih fun x hx => h x (by simp [hx])
    rw [longs_cons, List.length_cons, Int.natCast_add, Int.add_mul]
    simp only [Int.natCast_one, Int.one_mul]
    omega
/-! ### from border to border -/
def LKey (L : Lw) (k : Int) : Prop := k = L.pl ∨ L.le = some k ∨ ∃ j, j < L.ps.length ∧ k = L.pl + longs (L.ps.take (j + 1))
def BKey (Ls : List Lw) (now k : Int) : Prop := k = now ∨ ∃ L ∈ Ls, LKey L k
theorem clip_is (le : Option Int) (e : Int) : clip le e = e ∨ le = some (clip le e) := by
  unfold clip
  cases le with
  | none => exact .inl rfl
  | some n =>
    dsimp only
    split
    · exact .inr rfl
    · exact .inl rfl
theorem part_key {le : Option Int} : ∀ (ps : List (Int × Int)) (st : Int), ∀ y ∈ lawParts le ps st, (y.1 = st ∨ ∃ j, j < ps.length ∧ y.1 = st + longs (ps.take (j + 1))) ∧ (le = some y.2.1 ∨ ∃ j, j < ps.length ∧ y.2.1 = st + longs (ps.take (j + 1)))
  | [], _, y, h => by cases h
  | (t, g) :: r, st, y, h => by
    have h : y ∈ (if st < clip le (st + g) then [(st, clip le (st + g), t)] else []) ++ lawParts le r (st + g) := h
    have l1 : longs (((t, g) :: r).take 1) = g := by
      show longs [(t, g)] = g
      rw [longs_cons]
      show g + 0 = g
      omega
    have sh : ∀ j, st + g + longs (r.take (j + 1)) = st + longs (((t, g) :: r).take (j + 1 + 1)) := fun j => by
      show _ = st + longs ((t, g) :: r.take (j + 1))
      rw [longs_cons]
      show _ = st + (g + _)
      omega
    rcases List.mem_append.mp h with h | h
    · split at h
      · simp only [List.mem_cons, List.not_mem_nil, or_false] at h
        subst h
        refine ⟨.inl rfl, ?_⟩
        rcases clip_is le (st + g) with e | e
        · exact .inr ⟨0, by simp, by show clip le (st + g) = _; rw [e, l1]⟩
        · exact .inl e
      · cases h
    · obtain ⟨h1, h2⟩ := part_key r (st + g) y h
      refine ⟨?_, ?_⟩
      · rcases h1 with e | ⟨j, hj, e⟩
        · exact .inr ⟨0, by simp, by rw [e, l1]⟩
        · exact .inr ⟨j + 1, by rw [List.length_cons]; omega, by rw [e, sh]⟩
      · rcases h2 with e | ⟨j, hj, e⟩
        · exact .inl e
        · exact .inr ⟨j + 1, by rw [List.length_cons]; omega, by rw [e, sh]⟩
theorem part_lkey {L : Lw} (g : GoodL L) {y : Int × Int × Int} (h : y ∈ partsOf L.le L.ps L.pl) : LKey L y.1 ∧ LKey L y.2.1 := by
  rw [← parts_eq L.ps L.pl fun p hp => (g.1.2.2 p hp).2.2.1] at h
  obtain ⟨h1, h2⟩ := part_key L.ps L.pl y h
  refine ⟨?_, ?_⟩
  · rcases h1 with e | e
    · exact .inl e
    · exact .inr (.inr e)
  · rcases h2 with e | e
    · exact .inr (.inl e)
    · exact .inr (.inr e)
theorem near {ns : List Int} {p : Int} (h : ∃ a ∈ ns, a ≤ p) : ∃ b ∈ ns, b ≤ p ∧ ∀ k ∈ ns, k ≤ b ∨ p < k := by
  induction ns with
  | nil =>
    obtain ⟨a, ha, _⟩ := h
    cases ha
  | cons x r ih =>
    by_cases hr : ∃ a ∈ r, a ≤ p
    · obtain ⟨b, hb, h1, h2⟩ := ih hr
      by_cases hx : x ≤ p ∧ b < x
      · refine ⟨x, by simp, hx.1, fun k hk => ?_⟩
        rcases List.mem_cons.mp hk with rfl | hk
        · exact .inl (Int.le_refl _)
        · have := h2 k hk
          omega
      · refine ⟨b, by simp [hb], h1, fun k hk => ?_⟩
        rcases List.mem_cons.mp hk with rfl | hk
        · omega
        · exact h2 k hk
    · obtain ⟨a, ha, h1⟩ := h
      have : a = x := by
        rcases List.mem_cons.mp ha with e | e
        · exact e
        · exact absurd ⟨a, e, h1⟩ hr
      subst this
      refine ⟨a, by simp, h1, fun k hk => ?_⟩
      rcases List.mem_cons.mp hk with rfl | hk
      · exact .inl (Int.le_refl _)
      · right
        rcases Int.lt_or_le p k with z | z
        · exact z
        · exact absurd ⟨k, hk, z⟩ hr
def Borders (Ls : List Lw) (now : Int) (ns : List Int) : Prop := ns.Pairwise (· < ·) ∧ (∀ k, k ∈ ns ↔ BKey Ls now k ∧ now ≤ k) ∧ ns.length ≤ 1000
theorem border_first {Ls : List Lw} (g : ∀ L ∈ Ls, GoodL L) {now low m : Int} {ns : List Int} (hb : Borders Ls now ns) {i : Nat} (hi : ns[i]? = some m) (ht : thickS Ls m < low) (ha : ∀ (j : Nat) (k : Int), j < i → ns[j]? = some k → low ≤ thickS Ls k) : IsFirst Ls low now m := by
  have mem := List.mem_of_getElem? hi
  refine ⟨((hb.2.1 m).mp mem).2, ht, fun p p1 p2 => ?_⟩
  obtain ⟨b, hbm, b1, b2⟩ := near (ns := ns) (p := p) ⟨now, (hb.2.1 now).mpr ⟨.inl rfl, Int.le_refl _⟩, p1⟩
  have bn := ((hb.2.1 b).mp hbm).2
  have still : thickS Ls p = thickS Ls b := thickS_congr fun L hL => thick_still (g L hL) b1 fun y hy => by
    have ok : ∀ k, LKey L k → k ≤ b ∨ p < k := fun k hk => by
      by_cases hn : now ≤ k
      · exact b2 k ((hb.2.1 k).mpr ⟨.inr ⟨L, hL, hk⟩, hn⟩)
      · left
        omega
    obtain ⟨h1, h2⟩ := part_lkey (g L hL) hy
    exact ⟨ok _ h1, ok _ h2⟩
  rw [still]
  obtain ⟨j, hj, ej⟩ := List.getElem_of_mem hbm
  obtain ⟨i1, ei⟩ := List.getElem?_eq_some_iff.mp hi
  refine ha j b ?_ (by rw [← ej]; exact List.getElem?_eq_getElem hj)
  rcases Nat.lt_or_ge j i with z | z
  · exact z
  · by_cases e : j = i
    · subst e
      omega
    · have := List.pairwise_iff_getElem.mp hb.1 i j i1 hj (by omega)
      omega
theorem border_some {Ls : List Lw} (g : ∀ L ∈ Ls, GoodL L) {now low : Int} (l1 : 1 ≤ low) {ns : List Int} (hb : Borders Ls now ns) (ha : ∀ (j : Nat) (k : Int), j < ns.length → ns[j]? = some k → low ≤ thickS Ls k) : False := by
  have hnow := (hb.2.1 now).mpr ⟨.inl rfl, Int.le_refl _⟩
  have hl : 0 < ns.length := List.length_pos_of_mem hnow
  have hz : ns[ns.length - 1]? = some ns[ns.length - 1] := List.getElem?_eq_getElem (by omega)
  have le : ∀ k ∈ ns, k ≤ ns[ns.length - 1] := fun k hk => key_le hb.1 hk hz (by omega)
  have h1 := ha _ _ (by omega) hz
  rw [thickS_over g fun L hL => ?_] at h1
  · omega
  · have gl := g L hL
    have hlen := gl.1.1
    have hk : LKey L (L.pl + longs L.ps) := .inr (.inr ⟨L.ps.length - 1, by omega, by rw [show L.ps.length - 1 + 1 = L.ps.length by omega, List.take_length]⟩)
    have h2 : lastOf L ≤ L.pl + longs L.ps := clip_le
    have h3 : L.pl + longs L.ps ≤ ns[ns.length - 1] := by
      by_cases hn : now ≤ L.pl + longs L.ps
      · exact le _ ((hb.2.1 _).mpr ⟨.inr ⟨L, hL, hk⟩, hn⟩)
      · have := le now hnow
        omega
    omega
def spBorders : Sp := fun vs H Q _ => ∃ (a : Addr) (Ls : List Lw) (now : Int), vs = [.ref a, .int now] ∧ StrandAt H a Ls ∧ Ls.length ≤ 60 ∧ (∀ L ∈ Ls, GoodL L) ∧ ∀ H' o ns, Same H H' → H o = none → H' o = some (.lst (ns.map V.int)) → Borders Ls now ns → Q (.ref o) H'
def spFirstThin : Sp := fun vs H Q _ => ∃ (a : Addr) (Ls : List Lw) (low now : Int), vs = [.ref a, .int low, .int now] ∧ StrandAt H a Ls ∧ Ls.length ≤ 60 ∧ (∀ L ∈ Ls, GoodL L) ∧ 1 ≤ low ∧ ∀ H' m, Same H H' → IsFirst Ls low now m → Q (.int m) H'
theorem laid_ahead {W : Wi} {m p : Int} (h : p < m) : thickL (laidOf W m) p = 0 := by
  unfold thickL
  rw [if_pos (show p < (laidOf W m).pl from h)]
theorem laidAll_snoc : ∀ (Ws : List Wi) (ms : List Int) (W : Wi) (m : Int), Ws.length = ms.length → laidAll (Ws ++ [W]) (ms ++ [m]) = laidAll Ws ms ++ [laidOf W m]
  | [], [], W, m, _ => rfl
  | V :: r, n :: s, W, m, h => congrArg (laidOf V n :: ·) (laidAll_snoc r s W m (Nat.succ.inj h))
  | [], _ :: _, _, _, h => by cases h
  | _ :: _, [], _, _, h => by cases h
theorem thickS_app (As Bs : List Lw) (p : Int) : thickS (As ++ Bs) p = thickS As p + thickS Bs p := by
  unfold thickS
  rw [List.map_append, List.sum_append]
theorem thickS_one (L : Lw) (p : Int) : thickS [L] p = thickL L p := by
  unfold thickS
  simp
def spLate : Sp := fun vs H Q _ => ∃ (a c : Addr) (low now : Int) (as : List Addr) (Ws : List Wi) (Ls : List Lw), vs = [.ref a, .int low, .ref c, .int now] ∧ H a = some (.tup (as.map V.ref)) ∧ RowAt H as Ws ∧ StrandAt H c Ls ∧ From Ls Ws low now ∧
  ∀ H' o t d ms, Same H H' → H' o = some (.tup [.ref t, .ref d]) → H' t = some (.tup (ms.map V.int)) → StrandAt H' d (Ls ++ laidAll Ws ms) → LateP Ls Ws low now ms → (∀ m ∈ ms, 0 ≤ m ∧ m < 2 ^ 125) → Q (.ref o) H'
def DSet (H : Hp) (d : Addr) (n : Nat) (S : Int → Prop) : Prop := ∃ kvs : List (Key × V), H d = some (.dK kvs) ∧ IKN kvs ∧ kvs.length ≤ n ∧ ∀ k, (∃ v, valV kvs (Sum.inl k) = some v) ↔ S k
theorem DSet.put {H : Hp} {d : Addr} {n : Nat} {S S' : Int → Prop} (h : DSet H d n S) (k : Int) (hs : ∀ x, S' x ↔ S x ∨ x = k) : ∃ kvs : List (Key × V), H d = some (.dK kvs) ∧ kvs.length ≤ n ∧ DSet (upd H d (.dK (putK kvs (Sum.inl k) (.bl true)))) d (n + 1) S' := by
  obtain ⟨kvs, h1, h2, h3, h4⟩ := h
  refine ⟨kvs, h1, h3, _, upd_same, h2.put k _, Nat.le_trans (length_putK _ _ _) (Nat.succ_le_succ h3), fun x => ?_⟩
  rw [hs, ← h4, valV_put]
  by_cases e : x = k
  · rw [if_pos (by rw [e])]
    exact ⟨fun _ => .inr e, fun _ => ⟨_, rfl⟩⟩
  · rw [if_neg (fun z => e (Sum.inl.inj z))]
    exact ⟨.inl, fun z => z.resolve_right e⟩
theorem DSet.congr {H : Hp} {d : Addr} {n m : Nat} {S S' : Int → Prop} (h : DSet H d n S) (hn : n ≤ m) (hs : ∀ x, S' x ↔ S x) : DSet H d m S' := by
  obtain ⟨kvs, h1, h2, h3, h4⟩ := h
  exact ⟨kvs, h1, h2, Nat.le_trans h3 hn, fun x => by rw [hs, h4]⟩
/-! ### the law of rows drawn late -/
def spLaidSome : Sp := fun vs H Q _ => ∃ (p : Addr) (T : Nat) (sty : Int) (gr : Bool), vs = [.ref p, .int sty, .bl gr] ∧ PotC H p T ∧ T < 2 ^ 36 ∧ 0 ≤ sty ∧ sty < 3 ∧
  ∀ H' c Ls, StrandAt H' c Ls → Ls.length ≤ 30 → (∀ L ∈ Ls, GoodL L) → (∀ L ∈ Ls, lastOf L ≤ 2 ^ 115) → PotC H' p (T + 4000) → Keep p p H H' → Q (.ref c) H'
/-- a list of the places and the place at last -/
def AnsAt (H : Hp) (o : Addr) (ms : List Int) (m : Int) : Prop := ∃ t, H o = some (.lst [.ref t, .int m]) ∧ H t = some (.tup (ms.map V.int))
def spDue22 : Sp := fun vs H Q _ => ∃ (a c : Addr) (low now : Int) (as : List Addr) (Ws : List Wi) (Ls : List Lw), vs = [.ref a, .int low, .ref c, .int now] ∧ H a = some (.tup (as.map V.ref)) ∧ RowAt H as Ws ∧ StrandAt H c Ls ∧ From Ls Ws low now ∧
  ∀ H' o ms m, Same H H' → H o = none → AnsAt H' o ms m → LateP Ls Ws low now ms → IsFirst (Ls ++ laidAll Ws ms) low now m → Q (.ref o) H'
def WayOk (way : Int) (Ls : List Lw) (now : Int) : Prop := (way = 0 ∧ Ls = [] ∧ now = 0) ∨ (way = 1 ∧ now = 0) ∨ way = 2 ∨ (way = 3 ∧ Ls = [])
def spTold22 : Sp := fun vs H Q _ => ∃ (a c : Addr) (low now way : Int) (as : List Addr) (Ws : List Wi) (Ls : List Lw), vs = [.ref a, .int low, .ref c, .int now, .int way] ∧ H a = some (.tup (as.map V.ref)) ∧ RowAt H as Ws ∧ StrandAt H c Ls ∧ From Ls Ws low now ∧ WayOk way Ls now ∧
  ∀ H' o ms m, Same H H' → AnsAt H' o ms m → LateP Ls Ws low now ms → IsFirst (Ls ++ laidAll Ws ms) low now m → Q (.ref o) H'
def spSame22 : Sp := fun vs H Q _ => ∃ (o o2 : Addr) (ms : List Int) (m : Int), vs = [.ref o, .ref o2] ∧ AnsAt H o ms m ∧ AnsAt H o2 ms m ∧ ms.length ≤ 60 ∧ ∀ H', Same H H' → Q (.bl true) H'
theorem AnsAt.same {H H' : Hp} {o : Addr} {ms : List Int} {m : Int} (h : AnsAt H o ms m) (s : Same H H') : AnsAt H' o ms m := by
  obtain ⟨t, h1, h2⟩ := h
  exact ⟨t, s _ _ h1, s _ _ h2⟩
theorem ints_d1' (ns : List Int) : (PyData.tuple (ns.map PyData.int)).depth ≤ 1 := by
  show PyData.depthAll (ns.map PyData.int) + 1 ≤ 1
  have : PyData.depthAll (ns.map PyData.int) ≤ 0 := depth_all fun x hx => by
    obtain ⟨n, _, rfl⟩ := List.mem_map.mp hx
    exact Nat.le_refl _
  omega
def LotAt (p R : Addr) (low : Int) (H : Hp) (e : Addr) : Prop := ∃ (r c o : Addr) (now way : Int) (as : List Addr) (Ws : List Wi) (Ls : List Lw) (ms : List Int) (m : Int), H e = some (.tup [.ref r, .ref c, .int now, .int way, .ref o]) ∧ H r = some (.tup (as.map V.ref)) ∧ RowAt H as Ws ∧ StrandAt H c Ls ∧ From Ls Ws low now ∧ WayOk way Ls now ∧ AnsAt H o ms m ∧ LateP Ls Ws low now ms ∧ IsFirst (Ls ++ laidAll Ws ms) low now m ∧ o ≠ p ∧ o ≠ R
theorem LotAt.go {p R : Addr} {low : Int} {H H' : Hp} {e : Addr} (h : LotAt p R low H e) (t : Tups H H') (k : ∀ o xs, o ≠ p → o ≠ R → H o = some (.lst xs) → H' o = some (.lst xs)) : LotAt p R low H' e := by
  obtain ⟨r, c, o, now, way, as, Ws, Ls, ms, m, h1, h2, h3, h4, h5, h6, ⟨u, h7, h7'⟩, h8, h9, h10, h11⟩ := h
  exact ⟨r, c, o, now, way, as, Ws, Ls, ms, m, t _ _ h1, t _ _ h2, h3.mono t, h4.mono t, h5, h6, ⟨u, k _ _ h10 h11 h7, t _ _ h7'⟩, h8, h9, h10, h11⟩
theorem LotAt.same {p R : Addr} {low : Int} {H H' : Hp} {e : Addr} (h : LotAt p R low H e) (s : Same H H') : LotAt p R low H' e := h.go (Tups.same s) fun o xs _ _ e => s _ _ e
theorem LotAt.keep {p R : Addr} {low : Int} {H H' : Hp} {e : Addr} {T : Nat} (h : LotAt p R low H e) (k : Keep p p H H') (hp : PotC H p T) : LotAt p R low H' e := h.go (k.tupsC hp) fun o xs n1 _ e => k.at n1 e
theorem LotAt.put {p R : Addr} {low : Int} {H : Hp} {e : Addr} {xs : List V} {v : HO} (h : LotAt p R low H e) (eR : H R = some (.lst xs)) : LotAt p R low (upd H R v) e := h.go (Tups.ls eR) fun o ys _ n2 e => (upd_ne n2).trans e
theorem RowAt.snoc {H : Hp} {as : List Addr} {Ws : List Wi} {a : Addr} {W : Wi} (h : RowAt H as Ws) (w : WispAt H a W.1 W.2) : RowAt H (as ++ [a]) (Ws ++ [W]) := by
  refine ⟨by rw [List.length_append, List.length_append, h.1]; rfl, fun i b hb => ?_⟩
  by_cases hi : i < as.length
  · rw [List.getElem?_append_left hi] at hb
    obtain ⟨V, h1, h2⟩ := h.2 i b hb
    exact ⟨V, by rw [List.getElem?_append_left (by rw [← h.1]; exact hi)]; exact h1, h2⟩
  · rw [List.getElem?_append_right (by omega)] at hb
    have hz : i - as.length = 0 := by
      cases hk : i - as.length with
      | zero => rfl
      | succ n =>
        rw [hk] at hb
        simp at hb
    rw [hz] at hb
    have : a = b := Option.some.inj hb
    subst this
    exact ⟨W, by rw [List.getElem?_append_right (by rw [← h.1]; omega), ← h.1, hz]; rfl, w⟩
theorem RowAt.nil {H : Hp} : RowAt H [] [] := ⟨rfl, fun i a e => by simp at e⟩
theorem From.empty {Ls : List Lw} {Ws : List Wi} {low now : Int} (h : From Ls Ws low now) : From [] Ws low now := ⟨by have := h.few; show 0 + Ws.length ≤ 60; omega, (fun L hL => by cases hL), h.gw, h.l1, h.n0, h.n1, fun L hL => by cases hL⟩
theorem From.zero {Ls : List Lw} {Ws : List Wi} {low now : Int} (h : From Ls Ws low now) : From Ls Ws low 0 := ⟨h.few, h.gl, h.gw, h.l1, Int.le_refl _, by decide, h.b⟩
def GoneAt (Ws : List Wi) (low : Int) (H : Hp) (t : Addr) : Prop := ∃ (way begun : Int) (c : Addr) (Ls : List Lw), H t = some (.tup [.int way, .ref c, .int begun]) ∧ StrandAt H c Ls ∧ WayOk way Ls begun ∧ From Ls Ws low begun
theorem GoneAt.mono {Ws : List Wi} {low : Int} {H H' : Hp} {t : Addr} (h : GoneAt Ws low H t) (u : Tups H H') : GoneAt Ws low H' t := by
  obtain ⟨way, begun, c, Ls, h1, h2, h3⟩ := h
  exact ⟨way, begun, c, Ls, u _ _ h1, h2.mono u, h3⟩
/-! ### min(.., default=..) of pairs and of whole numbers -/
def leP (p q : Int × Int) : Prop := p.1 < q.1 ∨ (p.1 = q.1 ∧ p.2 ≤ q.2)
theorem ltP_iff (p q : Int × Int) : PySem.W.DatumOrd.lt p q = true ↔ p.1 < q.1 ∨ (p.1 = q.1 ∧ p.2 < q.2) := by
  show (if p.1 = q.1 then decide (p.2 < q.2) else decide (p.1 < q.1)) = true ↔ _
  by_cases h : p.1 = q.1
  · rw [if_pos h, decide_eq_true_iff]
    omega
  · rw [if_neg h, decide_eq_true_iff]
    omega
theorem leastP : ∀ (ys : List (Int × Int)) (y : Int × Int), PySem.W.minOf y ys ∈ y :: ys ∧ ∀ p ∈ y :: ys, leP (PySem.W.minOf y ys) p
  | [], y => ⟨List.mem_cons_self, fun p hp => by
    have : p = y := List.mem_singleton.mp hp
    subst this
    exact .inr ⟨rfl, Int.le_refl _⟩⟩
  | z :: r, y => by
    have e : PySem.W.minOf y (z :: r) = PySem.W.minOf (if PySem.W.DatumOrd.lt z y = true then z else y) r := rfl
    rw [e]
    have ih := leastP r (if PySem.W.DatumOrd.lt z y = true then z else y)
    generalize hw : PySem.W.minOf (if PySem.W.DatumOrd.lt z y = true then z else y) r = w at ih
    have hy : leP (if PySem.W.DatumOrd.lt z y = true then z else y) y ∧ leP (if PySem.W.DatumOrd.lt z y = true then z else y) z := by
      by_cases h : PySem.W.DatumOrd.lt z y = true
      · rw [if_pos h]
        have := (ltP_iff z y).mp h
        unfold leP
        omega
      · rw [if_neg h]
        have : ¬ (z.1 < y.1 ∨ (z.1 = y.1 ∧ z.2 < y.2)) := fun c => h ((ltP_iff z y).mpr c)
        unfold leP
        omega
    have h0 := ih.2 _ List.mem_cons_self
    refine ⟨?_, fun p hp => ?_⟩
    · rcases List.mem_cons.mp ih.1 with h | h
      · rw [h]
        split
        · simp
        · simp
      · simp [h]
    · rcases List.mem_cons.mp hp with rfl | hp
      · have := hy.1
        unfold leP at *
        omega
      · rcases List.mem_cons.mp hp with rfl | hp
        · have := hy.2
          unfold leP at *
          omega
        · exact ih.2 p (List.mem_cons_of_mem _ hp)
def rMinP (K : PySem.W.Frag) : List V → List V → Hp → VK → Prop := fun xs zs H Q => ∃ (a : Addr) (as : List Addr) (ps : List (Int × Int)) (d : V), xs = [.ref a] ∧ zs = [d] ∧ SqL K H a (as.map V.ref) ∧ TupsAt H as (ps.map stepV) ∧ ps ≠ [] ∧
  ∀ (i : Nat) (b : Addr) (p : Int × Int), as[i]? = some b → ps[i]? = some p → (∀ q ∈ ps, leP p q) → Q (.ref b) H
theorem pairs_dp {K : PySem.W.Frag} {H : Hp} : ∀ {as : List Addr} {ps : List (Int × Int)}, TupsAt H as (ps.map stepV) → DpAll K H (as.map V.ref) (ps.map PySem.W.Datum.toD)
  | [], [], _ => .nil
  | [], p :: r, h => absurd h.1 (by simp)
  | a :: r, [], h => absurd h.1 (by simp)
  | a :: as, p :: ps, h => by
    obtain ⟨xs, h1, h2⟩ := h.2 0 a rfl
    have e : stepV p = xs := Option.some.inj h1
    subst e
    exact .cons (.tup (SqT.of h2) (.cons (.int _) (.cons (.int _) .nil))) (pairs_dp ⟨Nat.succ.inj (by simpa using h.1), fun i b hb => h.2 (i + 1) b hb⟩)
theorem call_minP {X : Cx} (hc : X.calm = true) (hu : X.A.units + 64 < cLine) : CallRK X (.builtin "min") ["default"] (rMinP X.K) := by
  intro pins s σ H xs zs us ws Q I va vz h
  obtain ⟨a, as, ps, d, rfl, rfl, hs, tu, hne, q⟩ := h
  obtain ⟨its, rv, hl, _⟩ := I.list hs
  rw [Vals.ref1 va]
  cases vz with
  | cons r1 r2 =>
  cases r2
  obtain ⟨bs, rs⟩ := Dp.readsAll I (ps.map PySem.W.Datum.toD) (as.map V.ref) its (pairs_dp tu) rv
  refine PySem.W.min_list_datum_default (xs := ps) (I.ok.hd hc) hl.isList ⟨bs, by simpa using rs⟩ ?_ (fun e => absurd e hne) fun y ys i v h' tk e hi hold hk => ?_
  · show X.A.units + 1 + 1 < cLine
    omega
  · have hi' : its[i]? = some v := by simpa using hi
    obtain ⟨b, eb, rb⟩ : ∃ b, as[i]? = some b ∧ v = .ref b := by
      have hlen : its.length = (as.map V.ref).length := rv.length.symm
      have li := (List.getElem?_eq_some_iff.mp hi').1
      have lj : i < as.length := by rw [List.length_map] at hlen; omega
      have e2 : (as.map V.ref)[i]? = some (V.ref as[i]) := by rw [List.getElem?_map, List.getElem?_eq_getElem lj]; rfl
      obtain ⟨u, eu, ru⟩ := rv.get e2
      rw [hi'] at eu
      have := Option.some.inj eu
      subst this
      cases ru
      exact ⟨_, List.getElem?_eq_getElem lj, rfl⟩
    subst rb
    obtain ⟨p, ep, hp⟩ := PySem.W.HoldAll.at (xs := ps) ⟨bs, rs⟩ hi'
    obtain ⟨c1, k1⟩ := hp.keeps hk
    obtain ⟨c2, k2⟩ := hold
    have eq : PySem.W.Datum.toD p = PySem.W.Datum.toD (PySem.W.minOf y ys) := (k1.unique _ _ k2).1
    have eq : p = PySem.W.minOf y ys := by
      obtain ⟨p1, p2⟩ := p
      generalize PySem.W.minOf y ys = m at eq
      obtain ⟨m1, m2⟩ := m
      have eq : PyData.tuple [.int p1, .int p2] = .tuple [.int m1, .int m2] := eq
      injection eq with eq
      injection eq with e1 e2
      injection e2 with e2 _
      injection e1 with e1
      injection e2 with e2
      rw [e1, e2]
    refine ⟨.ref b, H, I.kept hk, rfl, q i b p eb ep fun z hz => ?_⟩
    rw [eq]
    rw [e] at hz
    exact (leastP ys y).2 z hz
/-! ### min(.., default=..) of whole numbers; a tuple turned about -/
theorem leastI : ∀ (ys : List Int) (y : Int), PySem.W.minOf y ys ∈ y :: ys ∧ ∀ p ∈ y :: ys, PySem.W.minOf y ys ≤ p
  | [], y => ⟨List.mem_cons_self, fun p hp => by
    have : p = y := List.mem_singleton.mp hp
    subst this
    exact Int.le_refl _⟩
  | z :: r, y => by
    have e : PySem.W.minOf y (z :: r) = PySem.W.minOf (if decide (z < y) = true then z else y) r := rfl
    rw [e]
    have ih := leastI r (if decide (z < y) = true then z else y)
    generalize PySem.W.minOf (if decide (z < y) = true then z else y) r = w at ih
    have h0 := ih.2 _ List.mem_cons_self
    have hy : (if decide (z < y) = true then z else y) ≤ y ∧ (if decide (z < y) = true then z else y) ≤ z := by
      by_cases h : z < y
      · rw [if_pos (decide_eq_true h)]
        omega
      · rw [if_neg (by intro c; exact h (of_decide_eq_true c))]
        omega
    refine ⟨?_, fun p hp => ?_⟩
    · rcases List.mem_cons.mp ih.1 with h | h
      · rw [h]
        split <;> simp
      · simp [h]
    · rcases List.mem_cons.mp hp with rfl | hp
      · omega
      · rcases List.mem_cons.mp hp with rfl | hp
        · omega
        · exact ih.2 p (List.mem_cons_of_mem _ hp)
def rMinN (K : PySem.W.Frag) : List V → List V → Hp → VK → Prop := fun xs zs H Q => ∃ (a : Addr) (ns : List Int) (d : V), xs = [.ref a] ∧ zs = [d] ∧ SqL K H a (ns.map V.int) ∧ (ns = [] → Q d H) ∧ ∀ m, m ∈ ns → (∀ y ∈ ns, m ≤ y) → Q (.int m) H
theorem call_minN {X : Cx} (hc : X.calm = true) (hu : X.A.units + 64 < cLine) : CallRK X (.builtin "min") ["default"] (rMinN X.K) := by
  intro pins s σ H xs zs us ws Q I va vz h
  obtain ⟨a, ns, d, rfl, rfl, hs, q0, q⟩ := h
  obtain ⟨its, rv, hl, _⟩ := I.list hs
  rw [Vals.ref1 va]
  cases vz with
  | cons r1 r2 =>
  cases r2
  obtain ⟨bs, rs⟩ := Dp.readsAll I (ns.map PyData.int) (ns.map V.int) its (ints_dp ns) rv
  have rs : ReadsAll s.heap its (ns.map PySem.W.Datum.toD) bs := rs
  refine PySem.W.min_list_datum_default (xs := ns) (I.ok.hd hc) hl.isList ⟨bs, by simpa using rs⟩ ?_ (fun e h' tk hk => ⟨d, H, I.kept hk, r1, q0 e⟩) fun y ys i v h' tk e hi hold hk => ?_
  · show X.A.units + 1 + 0 < cLine
    omega
  · obtain ⟨c2, k2⟩ := hold
    have k2 : Reads h' v (.int (PySem.W.minOf y ys)) c2 := k2
    have hm := leastI ys y
    rw [← e] at hm
    generalize PySem.W.minOf y ys = M at k2 hm
    cases k2
    exact ⟨.int M, H, I.kept hk, ⟨_, rfl⟩, q M hm.1 hm.2⟩
/-! ### breaks -/
def nextB (bs : List (Int × Int)) (m : Int) : Option Int := (bs.map (·.1)).find? fun k => decide (m < k)
def GoodB (bs : List (Int × Int)) : Prop := bs.length ≤ 20 ∧ (bs.map (·.1)).Pairwise (· < ·) ∧ ∀ b ∈ bs, 0 ≤ b.1 ∧ b.1 < 2 ^ 120
def BrAt (H : Hp) (a : Addr) (bs : List (Int × Int)) : Prop := ∃ as, H a = some (.tup (as.map V.ref)) ∧ TupsAt H as (bs.map stepV)
theorem BrAt.mono {H H' : Hp} {a : Addr} {bs : List (Int × Int)} (h : BrAt H a bs) (t : Tups H H') : BrAt H' a bs := by
  obtain ⟨as, h1, h2⟩ := h
  exact ⟨as, t _ _ h1, h2.mono t⟩
theorem find_yes {m n : Int} (r : List Int) (c : m < n) : (n :: r).find? (fun k => decide (m < k)) = some n := by simp [List.find?_cons, c]
theorem find_skip {m n : Int} (r : List Int) (c : ¬ m < n) : (n :: r).find? (fun k => decide (m < k)) = r.find? fun k => decide (m < k) := by simp [List.find?_cons, c]
theorem find_least {m x : Int} : ∀ ns : List Int, ns.Pairwise (· < ·) → x ∈ ns → m < x → (∀ y ∈ ns, m < y → x ≤ y) → ns.find? (fun k => decide (m < k)) = some x
  | [], _, h, _, _ => by cases h
  | n :: r, hp, h, h1, h2 => by
    obtain ⟨p1, p2⟩ := List.pairwise_cons.mp hp
    by_cases c : m < n
    · have hx := h2 n List.mem_cons_self c
      have e : x = n := by
        rcases List.mem_cons.mp h with e | e
        · exact e
        · have := p1 x e
          omega
      rw [find_yes r c, e]
    · rw [find_skip r c]
      rcases List.mem_cons.mp h with e | e
      · omega
      · exact find_least r p2 e h1 fun y hy => h2 y (List.mem_cons_of_mem _ hy)
theorem find_no {m : Int} : ∀ ns : List Int, (∀ y ∈ ns, ¬ m < y) → ns.find? (fun k => decide (m < k)) = none
  | [], _ => rfl
  | n :: r, h => by
    rw [find_skip r (h n List.mem_cons_self)]
    exact find_no r fun y hy => h y (List.mem_cons_of_mem _ hy)
theorem next_cons (b : Int × Int) (r : List (Int × Int)) (m : Int) : nextB (b :: r) m = if m < b.1 then some b.1 else nextB r m := by
  unfold nextB
  rw [List.map_cons]
  by_cases c : m < b.1
  · rw [if_pos c, find_yes _ c]
  · rw [if_neg c, find_skip _ c]
theorem next_of {bs : List (Int × Int)} {m n : Int} (h : nextB bs m = some n) : m < n ∧ n ∈ bs.map (·.1) := by
  unfold nextB at h
  have h1 := List.find?_some h
  exact ⟨of_decide_eq_true h1, List.mem_of_find?_eq_some h⟩
theorem next_le {bs : List (Int × Int)} (g : (bs.map (·.1)).Pairwise (· < ·)) {m k : Int} (hk : k ∈ bs.map (·.1)) (h : m < k) : ∃ n, nextB bs m = some n ∧ n ≤ k := by
  unfold nextB
  generalize bs.map (·.1) = ns at g hk
  induction ns with
  | nil => cases hk
  | cons x r ih =>
    obtain ⟨p1, p2⟩ := List.pairwise_cons.mp g
    by_cases c : m < x
    · refine ⟨x, find_yes r c, ?_⟩
      rcases List.mem_cons.mp hk with e | e
      · omega
      · have := p1 k e
        omega
    · rw [find_skip r c]
      rcases List.mem_cons.mp hk with e | e
      · omega
      · exact ih p2 e
def brkL (bs : List (Int × Int)) (L : Lw) : Lw := ⟨L.so, L.ps, L.pl, nextB bs L.pl⟩
def laysB (bs : List (Int × Int)) (Ws : List Wi) (ms : List Int) : List Lw := (laidAll Ws ms).map (brkL bs)
theorem laysB_none (Ws : List Wi) (ms : List Int) : laysB [] Ws ms = laidAll Ws ms := by
  unfold laysB
  have : ∀ L ∈ laidAll Ws ms, brkL [] L = L := fun L hL => by
    obtain ⟨W, _, m, _, rfl⟩ := laidAll_mem hL
    rfl
  calc (laidAll Ws ms).map (brkL []) = (laidAll Ws ms).map id := List.map_congr_left this
    _ = laidAll Ws ms := List.map_id _
def spNextBreak : Sp := fun vs H Q _ => ∃ (m : Int) (b : Addr) (bs : List (Int × Int)), vs = [.int m, .ref b] ∧ BrAt H b bs ∧ GoodB bs ∧ ∀ H', Same H H' → Q (letV (nextB bs m)) H'
def spWithB : Sp := fun vs H Q _ => ∃ (a c b : Addr) (as : List Addr) (Ws : List Wi) (ms : List Int) (bs : List (Int × Int)), vs = [.ref a, .ref c, .ref b] ∧ H a = some (.tup (as.map V.ref)) ∧ RowAt H as Ws ∧ H c = some (.tup (ms.map V.int)) ∧ Ws.length = ms.length ∧ Ws.length ≤ 60 ∧ BrAt H b bs ∧ GoodB bs ∧
  ∀ H' o, Same H H' → H o = none → StrandAt H' o (laysB bs Ws ms) → Q (.ref o) H'
def spSomeBreaks : Sp := fun vs H Q _ => ∃ (p : Addr) (T : Nat) (most : Int) (far : Bool), vs = [.ref p, .int most, .bl far] ∧ PotC H p T ∧ T < 2 ^ 37 ∧ 0 ≤ most ∧ most ≤ 20 ∧
  ∀ H' o bs, PotC H' p (T + 50) → Keep p p H H' → BrAt H' o bs → GoodB bs → H o = none → Q (.ref o) H'
def spOneStep : Sp := fun vs H Q _ => ∃ (p : Addr) (T : Nat), vs = [.ref p] ∧ PotC H p T ∧ T < 2 ^ 38 ∧
  ∀ H' a (W : Wi), WispAt H' a W.1 W.2 → GoodW W → H a = none → PotC H' p (T + 3) → Keep p p H H' → Q (.ref a) H'
def spMoments : Sp := fun vs H Q _ => ∃ (p : Addr) (T : Nat) (many : Int) (b : Addr) (bs : List (Int × Int)), vs = [.ref p, .int many, .ref b] ∧ PotC H p T ∧ T < 2 ^ 37 ∧ 0 ≤ many ∧ many ≤ 60 ∧ BrAt H b bs ∧ GoodB bs ∧
  ∀ H' o (ms : List Int), PotC H' p (T + 130) → Keep p p H H' → H' o = some (.tup (ms.map V.int)) → (ms.length : Int) = many → (∀ m ∈ ms, 0 ≤ m ∧ m < 2 ^ 121) → H o = none → Q (.ref o) H'
def spDue35 : Sp := fun vs H Q _ => ∃ (a c b : Addr) (as : List Addr) (Ws : List Wi) (ms : List Int) (bs : List (Int × Int)), vs = [.ref a, .ref c, .ref b] ∧ H a = some (.tup (as.map V.ref)) ∧ RowAt H as Ws ∧ H c = some (.tup (ms.map V.int)) ∧ Ws.length = ms.length ∧ Ws.length ≤ 60 ∧ BrAt H b bs ∧ bs.length ≤ 20 ∧
  ∀ H' o, Same H H' → H o = none → StrandAt H' o (laysB bs Ws ms) → Q (.ref o) H'
theorem TupsAt.rev {H : Hp} {as : List Addr} {bs : List (Int × Int)} (h : TupsAt H as (bs.map stepV)) : TupsAt H as.reverse (bs.reverse.map stepV) := by
  have hl : as.length = bs.length := by rw [h.1, List.length_map]
  refine ⟨by simp [hl], fun i a ha => ?_⟩
  have hi : i < as.length := by
    have := (List.getElem?_eq_some_iff.mp ha).1
    simpa using this
  rw [List.getElem?_reverse hi] at ha
  obtain ⟨xs, h1, h2⟩ := h.2 _ a ha
  refine ⟨xs, ?_, h2⟩
  rw [List.map_reverse, List.getElem?_reverse (by simp; omega)]
  simpa [hl] using h1
theorem walk_zipT {K : PySem.W.Frag} {a b : Addr} {xs ys : List V} (hl : xs.length = ys.length) : Walk (RZ.ItzT K a b) xs.length (fun H => SqT K H a xs ∧ SqT K H b ys) (YPair (fun i => xs[i]?) (fun i => ys[i]?)) where
  goes i H hi q := ⟨xs, ys, xs[i], ys[i]'(hl ▸ hi), q.1, q.2, List.getElem?_eq_getElem hi, List.getElem?_eq_getElem (hl ▸ hi)⟩
  stops H q := ⟨xs, ys, q.1, q.2, .inl (Nat.le_refl _)⟩
  yields i H v H' _ q y := by
    obtain ⟨c, x, z, k1, k2, k3, k4, k5⟩ := y
    exact ⟨c, x, z, k1, k2, k3, k4 xs q.1, k5 ys q.2⟩
theorem drop_back {bs : List (Int × Int)} {i : Nat} {b : Int × Int} (h : bs.reverse[i]? = some b) : bs.drop (bs.length - (i + 1)) = b :: bs.drop (bs.length - i) := by
  have hi : i < bs.length := by
    have := (List.getElem?_eq_some_iff.mp h).1
    simpa using this
  rw [List.getElem?_reverse hi] at h
  obtain ⟨h1, h2⟩ := List.getElem?_eq_some_iff.mp h
  rw [show bs.length - (i + 1) = bs.length - 1 - i by omega, List.drop_eq_getElem_cons h1, h2, show bs.length - 1 - i + 1 = bs.length - i by omega]
theorem laysB_mem {bs : List (Int × Int)} {Ws : List Wi} {ms : List Int} {L : Lw} (h : L ∈ laysB bs Ws ms) : ∃ W ∈ Ws, ∃ m ∈ ms, L = brkL bs (laidOf W m) := by
  obtain ⟨M, hM, rfl⟩ := List.mem_map.mp h
  obtain ⟨W, hW, m, hm, rfl⟩ := laidAll_mem hM
  exact ⟨W, hW, m, hm, rfl⟩
theorem laysB_good {bs : List (Int × Int)} {Ws : List Wi} {ms : List Int} (gb : GoodB bs) (gw : ∀ W ∈ Ws, GoodW W) (gm : ∀ m ∈ ms, 0 ≤ m ∧ m < 2 ^ 121) : ∀ L ∈ laysB bs Ws ms, GoodL L := fun L hL => by
  obtain ⟨W, hW, m, hm, rfl⟩ := laysB_mem hL
  have g := gw W hW
  have b := gm m hm
  refine ⟨g.1, g.2.1, g.2.2.1, b.1, Int.lt_trans b.2 (by decide), fun n e => ?_⟩
  obtain ⟨n1, n2⟩ := next_of (bs := bs) (m := m) (n := n) e
  obtain ⟨x, hx, rfl⟩ := List.mem_map.mp n2
  exact ⟨n1, Int.lt_trans (gb.2.2 x hx).2 (by decide)⟩
theorem thickS_zero : ∀ {Ls : List Lw} {p : Int}, (∀ L ∈ Ls, thickL L p = 0) → thickS Ls p = 0
  | [], _, _ => rfl
  | L :: r, p, h => by
    have e : thickS (L :: r) p = thickL L p + thickS r p := rfl
    rw [e, h L List.mem_cons_self, thickS_zero fun M hM => h M (List.mem_cons_of_mem _ hM)]
    rfl
theorem laysB_cut {bs : List (Int × Int)} {Ws : List Wi} {ms : List Int} (gb : GoodB bs) {k : Int} (hk : k ∈ bs.map (·.1)) : thickS ((laysB bs Ws ms).filter fun L => decide (L.pl < k)) k = 0 := by
  refine thickS_zero fun L hL => ?_
  obtain ⟨h1, h2⟩ := List.mem_filter.mp hL
  have h2 : L.pl < k := of_decide_eq_true h2
  obtain ⟨W, hW, m, hm, rfl⟩ := laysB_mem h1
  have h2 : m < k := h2
  obtain ⟨n, e, hn⟩ := next_le gb.2.1 hk h2
  show (if k < m then 0 else match nextB bs m with | none => thickAt W.2 (k - m) | some n => if n ≤ k then 0 else thickAt W.2 (k - m)) = 0
  rw [e]
  show (if k < m then 0 else if n ≤ k then 0 else thickAt W.2 (k - m)) = 0
  rw [if_neg (by omega), if_pos hn]
/-- row, moments, breaks and the strand that is due -/
def LotB (H : Hp) (e : Addr) : Prop := ∃ (r c b d : Addr) (as : List Addr) (Ws : List Wi) (ms : List Int) (bs : List (Int × Int)), H e = some (.tup [.ref r, .ref c, .ref b, .ref d]) ∧ H r = some (.tup (as.map V.ref)) ∧ RowAt H as Ws ∧ H c = some (.tup (ms.map V.int)) ∧ Ws.length = ms.length ∧ Ws.length ≤ 60 ∧ (∀ W ∈ Ws, GoodW W) ∧ (∀ m ∈ ms, 0 ≤ m ∧ m < 2 ^ 121) ∧ BrAt H b bs ∧ GoodB bs ∧ StrandAt H d (laysB bs Ws ms)
theorem LotB.mono {H H' : Hp} {e : Addr} (h : LotB H e) (t : Tups H H') : LotB H' e := by
  obtain ⟨r, c, b, d, as, Ws, ms, bs, h1, h2, h3, h4, h5, h6, h7, h8, h9, h10, h11⟩ := h
  exact ⟨r, c, b, d, as, Ws, ms, bs, t _ _ h1, t _ _ h2, h3.mono t, t _ _ h4, h5, h6, h7, h8, h9.mono t, h10, h11.mono t⟩
theorem GoodB.nil : GoodB [] := ⟨Nat.zero_le _, List.Pairwise.nil, fun b hb => by cases hb⟩
theorem strand_ne {K : PySem.W.Frag} {H : Hp} {a b : Addr} {Ls : List Lw} {Q : VK} (ha : StrandAt H a Ls) (hb : StrandAt H b Ls) (g : ∀ L ∈ Ls, GoodL L) (q : Q (.bl false) H) : rNeD K (.ref a) (.ref b) H Q := by
  have sh := (strand_sh g).shaped (Nat.le_trans (strand_depth Ls) (by decide))
  refine ⟨strandD Ls, strandD Ls, ha.dp, hb.dp, sh, sh, ?_⟩
  rw [SeqAt.eqv_refl _ (SeqAt.canLay_of_shaped sh)]
  exact q
/-! ### rows drawn late with breaks -/
theorem laidAll_take : ∀ (Ws : List Wi) (ms : List Int) (j : Nat), laidAll (Ws.take j) (ms.take j) = (laidAll Ws ms).take j
  | [], _, j => by
    rw [List.take_nil]
    show ([] : List Lw) = ([] : List Lw).take j
    rw [List.take_nil]
  | W :: r, [], j => by
    rw [List.take_nil]
    show laidAll ((W :: r).take j) [] = ([] : List Lw).take j
    rw [List.take_nil]
    cases j <;> rfl
  | W :: r, m :: s, 0 => rfl
  | W :: r, m :: s, j + 1 => by
    show laidOf W m :: laidAll (r.take j) (s.take j) = laidOf W m :: (laidAll r s).take j
    rw [laidAll_take r s j]
theorem laysB_take (bs : List (Int × Int)) (Ws : List Wi) (ms : List Int) (j : Nat) : laysB bs (Ws.take j) (ms.take j) = (laysB bs Ws ms).take j := by
  unfold laysB
  rw [laidAll_take, List.map_take]
theorem laysB_snoc {bs : List (Int × Int)} {Ws : List Wi} {ms : List Int} {W : Wi} {m : Int} (h : Ws.length = ms.length) : laysB bs (Ws ++ [W]) (ms ++ [m]) = laysB bs Ws ms ++ [brkL bs (laidOf W m)] := by
  unfold laysB
  rw [laidAll_snoc _ _ _ _ h, List.map_append]
  rfl
theorem laysB_len {bs : List (Int × Int)} {Ws : List Wi} {ms : List Int} (h : Ws.length = ms.length) : (laysB bs Ws ms).length = Ws.length := by
  unfold laysB
  rw [List.length_map, laidAll_len _ _ h]
theorem thickL_pos {L : Lw} (g : GoodL L) (p : Int) : 0 ≤ thickL L p := by
  unfold thickL
  split
  · exact Int.le_refl _
  · cases L.le with
    | none => exact thick_nonneg _ _ fun q hq => Int.le_trans (by decide) (g.1.2.2 q hq).1
    | some n =>
      show 0 ≤ if n ≤ p then 0 else _
      split
      · exact Int.le_refl _
      · exact thick_nonneg _ _ fun q hq => Int.le_trans (by decide) (g.1.2.2 q hq).1
theorem thickS_pos : ∀ {Ls : List Lw}, (∀ L ∈ Ls, GoodL L) → ∀ p : Int, 0 ≤ thickS Ls p
  | [], _, _ => Int.le_refl _
  | L :: r, g, p => by
    have e : thickS (L :: r) p = thickL L p + thickS r p := rfl
    have h1 := thickL_pos (g L List.mem_cons_self) p
    have h2 := thickS_pos (fun M hM => g M (List.mem_cons_of_mem _ hM)) p
    omega
theorem thickS_take {Ls : List Lw} (g : ∀ L ∈ Ls, GoodL L) (j : Nat) (p : Int) : thickS (Ls.take j) p ≤ thickS Ls p := by
  have e : thickS Ls p = thickS (Ls.take j) p + thickS (Ls.drop j) p := by
    rw [← thickS_app, List.take_append_drop]
  have := thickS_pos (Ls := Ls.drop j) (fun L hL => g L (List.mem_of_mem_drop hL)) p
  omega
def LateB (bs : List (Int × Int)) (Ws : List Wi) (low : Int) (ms : List Int) : Prop := ms.length = Ws.length ∧ ∀ (i : Nat) (m : Int), ms[i]? = some m → IsFirst (laysB bs (Ws.take i) (ms.take i)) low 0 m
theorem lateB_eq {bs : List (Int × Int)} {Ws : List Wi} {low : Int} {ms ns : List Int} (h1 : LateB bs Ws low ms) (h2 : LateB bs Ws low ns) : ms = ns := by
  have key : ∀ i, ms.take i = ns.take i := by
    intro i
    induction i with
    | zero => rfl
    | succ i ih =>
      rw [List.take_add_one, List.take_add_one, ih]
      congr 1
      by_cases hi : i < ms.length
      · have hi2 : i < ns.length := by rw [h2.1, ← h1.1]; exact hi
        have e1 : ms[i]? = some ms[i] := List.getElem?_eq_getElem hi
        have e2 : ns[i]? = some ns[i] := List.getElem?_eq_getElem hi2
        have f1 := h1.2 i _ e1
        have f2 := h2.2 i _ e2
        rw [ih] at f1
        rw [e1, e2, first_eq f1 f2]
      · rw [List.getElem?_eq_none (by omega), List.getElem?_eq_none (by rw [h2.1, ← h1.1]; omega)]
  have := key ms.length
  rw [List.take_length, List.take_of_length_le (by rw [h1.1, h2.1]; exact Nat.le_refl _)] at this
  exact this
theorem lateB_none {Ws : List Wi} {low : Int} {ms : List Int} (h : LateB [] Ws low ms) : LateP [] Ws low 0 ms := ⟨h.1, fun i m e => by
  have := h.2 i m e
  rw [laysB_none] at this
  exact this⟩
theorem last_brk (bs : List (Int × Int)) (W : Wi) (m : Int) : lastOf (brkL bs (laidOf W m)) ≤ m + longs W.2 := clip_le
def SoFarB (bs : List (Int × Int)) (Ws : List Wi) (low : Int) (i : Nat) (ms : List Int) : Prop := ms.length = i ∧ (∀ (j : Nat) (m : Int), ms[j]? = some m → IsFirst (laysB bs (Ws.take j) (ms.take j)) low 0 m) ∧ ∀ m ∈ ms, 0 ≤ m ∧ m ≤ (i : Int) * 2 ^ 110
theorem mul110 (i : Nat) : ((i + 1 : Nat) : Int) * 2 ^ 110 = (i : Int) * 2 ^ 110 + 2 ^ 110 := by
  rw [Int.natCast_add, Int.add_mul]
  rfl
theorem so_farB_good {bs : List (Int × Int)} {Ws : List Wi} {low : Int} (gb : GoodB bs) (gw : ∀ W ∈ Ws, GoodW W) (h60 : Ws.length ≤ 60) {i : Nat} {ms : List Int} (h : SoFarB bs Ws low i ms) (hi : i ≤ Ws.length) :
    (∀ L ∈ laysB bs (Ws.take i) ms, GoodL L) ∧ (laysB bs (Ws.take i) ms).length ≤ 60 ∧ ∀ L ∈ laysB bs (Ws.take i) ms, lastOf L ≤ ((i + 1 : Nat) : Int) * 2 ^ 110 := by
  have hi60 : (i : Int) ≤ 60 := by omega
  have e1 := mul110 i
  have e2 : (i : Int) * 2 ^ 110 ≤ 60 * 2 ^ 110 := Int.mul_le_mul_of_nonneg_right hi60 (by decide)
  refine ⟨laysB_good gb (fun W hW => gw W (List.mem_of_mem_take hW)) fun m hm => ?_, ?_, fun L hL => ?_⟩
  · have := h.2.2 m hm
    omega
  · rw [laysB_len (by rw [List.length_take, h.1]; omega), List.length_take]
    omega
  · obtain ⟨W, hW, m, hm, rfl⟩ := laysB_mem hL
    have h1 := h.2.2 m hm
    have h2 := (gw W (List.mem_of_mem_take hW)).2.2.2
    have h3 := last_brk bs W m
    omega
theorem so_farB_snoc {bs : List (Int × Int)} {Ws : List Wi} {low : Int} {i : Nat} {ms : List Int} {m : Int} (sf : SoFarB bs Ws low i ms) (hm : IsFirst (laysB bs (Ws.take i) ms) low 0 m) (hb : m ≤ ((i + 1 : Nat) : Int) * 2 ^ 110) : SoFarB bs Ws low (i + 1) (ms ++ [m]) := by
  refine ⟨by rw [List.length_append, sf.1]; rfl, fun j n e => ?_, fun n hn => ?_⟩
  · by_cases hj : j < ms.length
    · rw [List.getElem?_append_left hj] at e
      rw [List.take_append_of_le_length (by omega)]
      exact sf.2.1 j n e
    · have hji : j = ms.length := by
        have := (List.getElem?_eq_some_iff.mp e).1
        rw [List.length_append] at this
        have : j < ms.length + 1 := this
        omega
      subst hji
      rw [List.getElem?_append_right (Nat.le_refl _), Nat.sub_self] at e
      have : m = n := Option.some.inj e
      subst this
      rw [List.take_append_of_le_length (Nat.le_refl _), List.take_length, sf.1]
      exact hm
  · rcases List.mem_append.mp hn with hn | hn
    · have h1 := sf.2.2 n hn
      have := mul110 i
      omega
    · rw [List.mem_singleton.mp hn]
      exact ⟨hm.1, hb⟩
/-- what a row is drawn from with breaks -/
structure FromB (bs : List (Int × Int)) (Ws : List Wi) (low : Int) : Prop where
  gb : GoodB bs
  gw : ∀ W ∈ Ws, GoodW W
  few : Ws.length ≤ 60
  l1 : 1 ≤ low
def MsOk (ms : List Int) : Prop := ∀ m ∈ ms, 0 ≤ m ∧ m < 2 ^ 120
theorem lateB_good {bs : List (Int × Int)} {Ws : List Wi} {low : Int} {ms : List Int} (F : FromB bs Ws low) (h : LateB bs Ws low ms) (hb : MsOk ms) : (∀ L ∈ laysB bs Ws ms, GoodL L) ∧ (laysB bs Ws ms).length ≤ 60 :=
  ⟨laysB_good F.gb F.gw fun m hm => ⟨(hb m hm).1, Int.lt_trans (hb m hm).2 (by decide)⟩, by rw [laysB_len h.1.symm]; exact F.few⟩
theorem so_farB_late {bs : List (Int × Int)} {Ws : List Wi} {low : Int} {ms : List Int} (F : FromB bs Ws low) (sf : SoFarB bs Ws low Ws.length ms) : LateB bs Ws low ms ∧ MsOk ms := by
  refine ⟨⟨sf.1, sf.2.1⟩, fun m hm => ?_⟩
  have h1 := sf.2.2 m hm
  have h2 := F.few
  have h3 : (Ws.length : Int) * 2 ^ 110 ≤ 60 * 2 ^ 110 := Int.mul_le_mul_of_nonneg_right (by omega) (by decide)
  exact ⟨h1.1, by omega⟩
def spDrawnWith : Sp := fun vs H Q _ => ∃ (a b : Addr) (low : Int) (as : List Addr) (Ws : List Wi) (bs : List (Int × Int)), vs = [.ref a, .int low, .ref b] ∧ H a = some (.tup (as.map V.ref)) ∧ RowAt H as Ws ∧ BrAt H b bs ∧ FromB bs Ws low ∧
  ∀ H' o ms, Same H H' → H' o = some (.tup (ms.map V.int)) → LateB bs Ws low ms → MsOk ms → Q (.ref o) H'
def spLastingWith : Sp := fun vs H Q _ => ∃ (a b : Addr) (low : Int) (as : List Addr) (Ws : List Wi) (bs : List (Int × Int)), vs = [.ref a, .int low, .ref b] ∧ H a = some (.tup (as.map V.ref)) ∧ RowAt H as Ws ∧ BrAt H b bs ∧ FromB bs Ws low ∧
  ∀ H' ms m, Same H H' → LateB bs Ws low ms → MsOk ms → IsFirst (laysB bs Ws ms) low 0 m → Q (.int m) H'
def spFallen : Sp := fun vs H Q _ => ∃ (a c b : Addr) (as : List Addr) (Ws : List Wi) (ms : List Int) (bs : List (Int × Int)), vs = [.ref a, .ref c, .ref b] ∧ H a = some (.tup (as.map V.ref)) ∧ RowAt H as Ws ∧ H c = some (.lst (ms.map V.int)) ∧ Ws.length = ms.length ∧ Ws.length ≤ 60 ∧ BrAt H b bs ∧ GoodB bs ∧
  ∀ H' o, Same H H' → H o = none → StrandAt H' o (laysB bs Ws ms) → Q (.ref o) H'
/-- a pair of the moments and the moment at last -/
def TwoAt (H : Hp) (o : Addr) (ms : List Int) (m : Int) : Prop := ∃ t, H o = some (.tup [.ref t, .int m]) ∧ H t = some (.tup (ms.map V.int))
theorem TwoAt.mono {H H' : Hp} {o : Addr} {ms : List Int} {m : Int} (h : TwoAt H o ms m) (t : Tups H H') : TwoAt H' o ms m := by
  obtain ⟨u, h1, h2⟩ := h
  exact ⟨u, t _ _ h1, t _ _ h2⟩
def spLateWith : Sp := fun vs H Q _ => ∃ (a b : Addr) (low : Int) (as : List Addr) (Ws : List Wi) (bs : List (Int × Int)), vs = [.ref a, .int low, .ref b] ∧ H a = some (.tup (as.map V.ref)) ∧ RowAt H as Ws ∧ BrAt H b bs ∧ FromB bs Ws low ∧
  ∀ H' o ms m, Same H H' → H o = none → TwoAt H' o ms m → LateB bs Ws low ms → MsOk ms → IsFirst (laysB bs Ws ms) low 0 m → Q (.ref o) H'
def spByMom : Sp := fun vs H Q _ => ∃ (a b : Addr) (low most : Int) (as : List Addr) (Ws : List Wi) (bs : List (Int × Int)) (ms : List Int) (m : Int), vs = [.ref a, .int low, .ref b, .int most] ∧ H a = some (.tup (as.map V.ref)) ∧ RowAt H as Ws ∧ BrAt H b bs ∧ FromB bs Ws low ∧ LateB bs Ws low ms ∧ MsOk ms ∧ IsFirst (laysB bs Ws ms) low 0 m ∧ m < most ∧ most ≤ 1000 ∧
  ∀ H' o, Same H H' → TwoAt H' o ms m → Q (.ref o) H'
theorem brk_ahead {bs : List (Int × Int)} {W : Wi} {m p : Int} (h : p < m) : thickL (brkL bs (laidOf W m)) p = 0 := by
  unfold thickL
  rw [if_pos (show p < (brkL bs (laidOf W m)).pl from h)]
/-! #### moment by moment -/
def aliveB (p : Int) (L : Lw) : Bool := match L.le with
  | none => true
  | some n => decide (p < n)
theorem thick_dead {p : Int} {L : Lw} (h : aliveB p L = false) : thickL L p = 0 := by
  unfold thickL
  unfold aliveB at h
  split
  · rfl
  · cases e : L.le with
    | none =>
      rw [e] at h
      cases h
    | some n =>
      rw [e] at h
      have : ¬ p < n := of_decide_eq_false h
      show (if n ≤ p then 0 else _) = _
      rw [if_pos (by omega)]
theorem thick_alive {p : Int} {L : Lw} (h : aliveB p L = true) (hp : L.pl ≤ p) : thickL L p = thickAt L.ps (p - L.pl) := by
  unfold thickL
  unfold aliveB at h
  rw [if_neg (by omega)]
  cases e : L.le with
  | none => rfl
  | some n =>
    rw [e] at h
    have : p < n := of_decide_eq_true h
    show (if n ≤ p then 0 else _) = _
    rw [if_neg (by omega)]
theorem thickS_alive (p : Int) : ∀ Ls : List Lw, (∀ L ∈ Ls, L.pl ≤ p) → thickS Ls p = ((Ls.filter (aliveB p)).map fun L => thickAt L.ps (p - L.pl)).sum
  | [], _ => rfl
  | L :: r, h => by
    have e : thickS (L :: r) p = thickL L p + thickS r p := rfl
    rw [e, thickS_alive p r fun M hM => h M (List.mem_cons_of_mem _ hM)]
    cases c : aliveB p L with
    | true =>
      rw [List.filter_cons_of_pos c, List.map_cons, List.sum_cons, thick_alive c (h L List.mem_cons_self)]
    | false =>
      rw [List.filter_cons_of_neg (by rw [c]; decide), thick_dead c, Int.zero_add]
/-- a moment that is no break changes nothing -/
theorem alive_still {bs : List (Int × Int)} {p : Int} (hp : p ∉ bs.map (·.1)) {Ls : List Lw} (h : ∀ L ∈ Ls, L.le = nextB bs L.pl) : Ls.filter (aliveB (p - 1)) = Ls.filter (aliveB p) := by
  refine List.filter_congr fun L hL => ?_
  unfold aliveB
  rw [h L hL]
  cases e : nextB bs L.pl with
  | none => rfl
  | some n =>
    have := (next_of e).2
    have hn : n ≠ p := fun z => hp (z ▸ this)
    show decide (p - 1 < n) = decide (p < n)
    by_cases c : p < n
    · rw [decide_eq_true c, decide_eq_true (by omega)]
    · rw [decide_eq_false c, decide_eq_false (by omega)]
/-- at a break nothing that was laid ahead of it is alive -/
theorem alive_none {bs : List (Int × Int)} (gb : (bs.map (·.1)).Pairwise (· < ·)) {p : Int} (hp : p ∈ bs.map (·.1)) {Ls : List Lw} (h : ∀ L ∈ Ls, L.le = nextB bs L.pl) (ha : ∀ L ∈ Ls, L.pl < p) : Ls.filter (aliveB p) = [] := by
  refine List.filter_eq_nil_iff.mpr fun L hL => ?_
  obtain ⟨n, e, hn⟩ := next_le gb hp (ha L hL)
  unfold aliveB
  rw [h L hL, e]
  show ¬ decide (p < n) = true
  rw [decide_eq_false (by omega)]
  decide
theorem laysB_le {bs : List (Int × Int)} {Ws : List Wi} {ms : List Int} : ∀ L ∈ laysB bs Ws ms, L.le = nextB bs L.pl := fun L hL => by
  obtain ⟨W, _, m, _, rfl⟩ := laysB_mem hL
  rfl
theorem alive_new {bs : List (Int × Int)} {W : Wi} {m : Int} : aliveB m (brkL bs (laidOf W m)) = true := by
  show (match nextB bs m with | none => true | some n => decide (m < n)) = true
  cases e : nextB bs m with
  | none => rfl
  | some n => exact decide_eq_true (next_of e).1
def RunsAt (H : Hp) (as : List Addr) (Ls : List Lw) : Prop := as.length = Ls.length ∧ ∀ (i : Nat) (a : Addr), as[i]? = some a → ∃ (L : Lw) (c : Addr), Ls[i]? = some L ∧ H a = some (.tup [.ref c, .int L.pl]) ∧ WispAt H c L.so L.ps
theorem RunsAt.mono {H H' : Hp} {as : List Addr} {Ls : List Lw} (h : RunsAt H as Ls) (t : Tups H H') : RunsAt H' as Ls := ⟨h.1, fun i a e => by
  obtain ⟨L, c, h1, h2, h3⟩ := h.2 i a e
  exact ⟨L, c, h1, t _ _ h2, h3.mono t⟩⟩
theorem RunsAt.nil {H : Hp} : RunsAt H [] [] := ⟨rfl, fun i a e => by simp at e⟩
theorem RunsAt.snoc {H : Hp} {as : List Addr} {Ls : List Lw} {a c : Addr} {L : Lw} (h : RunsAt H as Ls) (h1 : H a = some (.tup [.ref c, .int L.pl])) (h2 : WispAt H c L.so L.ps) : RunsAt H (as ++ [a]) (Ls ++ [L]) := by
  refine ⟨by rw [List.length_append, List.length_append, h.1]; rfl, fun i b hb => ?_⟩
  by_cases hi : i < as.length
  · rw [List.getElem?_append_left hi] at hb
    obtain ⟨M, d, g1, g2⟩ := h.2 i b hb
    exact ⟨M, d, by rw [List.getElem?_append_left (by rw [← h.1]; exact hi)]; exact g1, g2⟩
  · have hz : i = as.length := by
      have := (List.getElem?_eq_some_iff.mp hb).1
      rw [List.length_append] at this
      have : i < as.length + 1 := this
      omega
    subst hz
    rw [List.getElem?_append_right (Nat.le_refl _), Nat.sub_self] at hb
    have : a = b := Option.some.inj hb
    subst this
    refine ⟨L, c, ?_, h1, h2⟩
    rw [h.1, List.getElem?_append_right (Nat.le_refl _), Nat.sub_self]
    rfl
/-- a row, low, its breaks and what is due -/
def LotW (H : Hp) (e : Addr) : Prop := ∃ (r b d : Addr) (low : Int) (as : List Addr) (Ws : List Wi) (bs : List (Int × Int)) (ms : List Int) (m : Int), H e = some (.tup [.ref r, .int low, .ref b, .ref d]) ∧ H r = some (.tup (as.map V.ref)) ∧ RowAt H as Ws ∧ BrAt H b bs ∧ FromB bs Ws low ∧ TwoAt H d ms m ∧ LateB bs Ws low ms ∧ MsOk ms ∧ IsFirst (laysB bs Ws ms) low 0 m
theorem LotW.mono {H H' : Hp} {e : Addr} (h : LotW H e) (t : Tups H H') : LotW H' e := by
  obtain ⟨r, b, d, low, as, Ws, bs, ms, m, h1, h2, h3, h4, h5, h6, h7⟩ := h
  exact ⟨r, b, d, low, as, Ws, bs, ms, m, t _ _ h1, t _ _ h2, h3.mono t, h4.mono t, h5, h6.mono t, h7⟩
def spLot36 : Sp := fun vs H Q _ => ∃ (p : Addr) (T : Nat) (sty most : Int), vs = [.ref p, .int sty, .int most] ∧ PotC H p T ∧ T < 2 ^ 30 ∧ 0 ≤ sty ∧ sty < 3 ∧ 0 ≤ most ∧ most ≤ 60 ∧
  ∀ H' e, Keep p p H H' → LotW H' e → Q (.ref e) H'
theorem two_dp {K : PySem.W.Frag} {H : Hp} {o : Addr} {ms : List Int} {m : Int} (h : TwoAt H o ms m) : Dp K H (.ref o) (.tuple [.tuple (ms.map PyData.int), .int m]) := by
  obtain ⟨t, h1, h2⟩ := h
  exact .tup (SqT.of h1) (.cons (.tup (SqT.of h2) (ints_dp ms)) (.cons (.int m) .nil))
theorem two_sh (ms : List Int) (m : Int) : SeqAt.shaped (.tuple [.tuple (ms.map PyData.int), .int m]) = true := by
  have h1 := Bool.and_eq_true_iff.mp (ints_shaped ms)
  have h2 : (PyData.tuple (ms.map PyData.int)).depth ≤ 64 := of_decide_eq_true h1.2
  refine Bool.and_eq_true_iff.mpr ⟨Bool.and_eq_true_iff.mpr ⟨h1.1, rfl⟩, decide_eq_true ?_⟩
  have h3 := ints_d1' ms
  show max (PyData.tuple (ms.map PyData.int)).depth (max 0 0) + 1 ≤ 64
  omega
theorem two_ne {K : PySem.W.Frag} {H : Hp} {a b : Addr} {ms : List Int} {m : Int} {Q : VK} (ha : TwoAt H a ms m) (hb : TwoAt H b ms m) (q : Q (.bl false) H) : rNeD K (.ref a) (.ref b) H Q := by
  refine ⟨_, _, two_dp ha, two_dp hb, two_sh ms m, two_sh ms m, ?_⟩
  rw [SeqAt.eqv_refl _ (Bool.and_eq_true_iff.mp (two_sh ms m)).1]
  exact q
theorem inV_int (n : Int) (ns : List Int) : inV (.int n) (ns.map V.int) = decide (n ∈ ns) := by
  induction ns with
  | nil => rfl
  | cons x r ih =>
    have h : inV (.int n) ((x :: r).map V.int) = (eqV (.int x) (.int n) || inV (.int n) (r.map V.int)) := rfl
    rw [h, ih]
    show ((x == n) || decide (n ∈ r)) = decide (n ∈ x :: r)
    by_cases e : x = n
    · simp [e]
    · have e2 : ¬ n = x := fun z => e z.symm
      simp [e, e2]
theorem flat_ints (ns : List Int) : (ns.map V.int).all flatV = true := by
  rw [List.all_eq_true]
  intro x hx
  obtain ⟨n, _, rfl⟩ := List.mem_map.mp hx
  rfl
/-! ### places left behind breaks -/
def mx0 (x : Int) : Int := if x > 0 then x else 0
theorem mx0_is (x : Int) : 0 ≤ mx0 x ∧ x ≤ mx0 x ∧ (mx0 x = x ∨ mx0 x = 0) := by
  unfold mx0
  split <;> omega
def spans : Int → Int → List (Int × Int) → List (Int × Option Int × Int)
  | s, n, [] => [(s, none, n)]
  | s, n, (m, l) :: r => (s, some m, n) :: spans m (mx0 (n + m - s - l)) r
def spanV (x : Int × Option Int × Int) : List V := [.int x.1, letV x.2.1, .int x.2.2]
def comeTo (g : Int) : Int → Int → List (Int × Int) → Int
  | st, si, [] => si + g - st
  | st, si, (m, l) :: r => if g ≤ st + m - si then si + g - st else comeTo g (mx0 (st + m - si - l)) m r
def LapsOk (bs : List (Int × Int)) : Prop := ∀ b ∈ bs, 0 ≤ b.2
def standing (now : Int) : Int → Int → List (Int × Int) → Int
  | st, si, [] => st + now - si
  | st, si, (m, l) :: r => if m < now then standing now (mx0 (st + m - si - l)) m r else st + now - si
def lapAt (now : Int) : List (Int × Int) → Int
  | [] => 0
  | (m, l) :: r => if m = now then l else lapAt now r
theorem lap_none {now : Int} : ∀ {bs : List (Int × Int)}, (∀ b ∈ bs, now < b.1) → lapAt now bs = 0
  | [], _ => rfl
  | (m, l) :: r, h => by
    have h1 : now < m := h (m, l) List.mem_cons_self
    show (if m = now then l else lapAt now r) = 0
    rw [if_neg (by omega)]
    exact lap_none fun b hb => h b (List.mem_cons_of_mem _ hb)
theorem stand_next (now : Int) : ∀ (bs : List (Int × Int)) (st si : Int), (bs.map (·.1)).Pairwise (· < ·) → (∀ b ∈ bs, si ≤ b.1) → 0 ≤ st → si ≤ now → standing (now + 1) st si bs = mx0 (standing now st si bs - lapAt now bs) + 1
  | [], st, si, _, _, h0, hn => by
    show st + (now + 1) - si = mx0 (st + now - si - 0) + 1
    have := mx0_is (st + now - si - 0)
    omega
  | (m, l) :: r, st, si, hp, hb, h0, hn => by
    obtain ⟨p1, p2⟩ := List.pairwise_cons.mp hp
    have hr : ∀ b ∈ r, m < b.1 := fun b hb => p1 b.1 (List.mem_map.mpr ⟨b, hb, rfl⟩)
    have hm : si ≤ m := hb (m, l) List.mem_cons_self
    show (if m < now + 1 then standing (now + 1) (mx0 (st + m - si - l)) m r else st + (now + 1) - si) = mx0 ((if m < now then standing now (mx0 (st + m - si - l)) m r else st + now - si) - (if m = now then l else lapAt now r)) + 1
    have hm0 := mx0_is (st + m - si - l)
    rcases Int.lt_trichotomy m now with c | c | c
    · rw [if_pos (by omega), if_pos c, if_neg (by omega)]
      exact stand_next now r _ m p2 (fun b hb => Int.le_of_lt (hr b hb)) hm0.1 (by omega)
    · subst c
      rw [if_pos (by omega), if_neg (by omega), if_pos rfl]
      cases r with
      | nil =>
        show mx0 (st + m - si - l) + (m + 1) - m = mx0 (st + m - si - l) + 1
        omega
      | cons b r =>
        obtain ⟨m2, l2⟩ := b
        have := hr (m2, l2) List.mem_cons_self
        have h2 : m < m2 := this
        show (if m2 < m + 1 then _ else mx0 (st + m - si - l) + (m + 1) - m) = mx0 (st + m - si - l) + 1
        rw [if_neg (by omega)]
        omega
    · rw [if_neg (by omega), if_neg (by omega), if_neg (by omega), lap_none fun b hb => Int.lt_trans c (hr b hb)]
      have := mx0_is (st + now - si - 0)
      omega
theorem come_is (g : Int) : ∀ (bs : List (Int × Int)) (st si : Int), (bs.map (·.1)).Pairwise (· < ·) → (∀ b ∈ bs, si ≤ b.1) → LapsOk bs → 0 ≤ st → st < g → si < comeTo g st si bs ∧ standing (comeTo g st si bs) st si bs = g ∧ ∀ u, si ≤ u → u < comeTo g st si bs → standing u st si bs < g
  | [], st, si, _, _, _, h0, hg => by
    refine ⟨?_, ?_, fun u h1 h2 => ?_⟩
    · show si < si + g - st
      omega
    · show st + (si + g - st) - si = g
      omega
    · have h2 : u < si + g - st := h2
      show st + u - si < g
      omega
  | (m, l) :: r, st, si, hp, hb, hl, h0, hg => by
    obtain ⟨p1, p2⟩ := List.pairwise_cons.mp hp
    have hr : ∀ b ∈ r, m < b.1 := fun b hb => p1 b.1 (List.mem_map.mpr ⟨b, hb, rfl⟩)
    have hm : si ≤ m := hb (m, l) List.mem_cons_self
    have hl0 : 0 ≤ l := hl (m, l) List.mem_cons_self
    have hm0 := mx0_is (st + m - si - l)
    have ec : comeTo g st si ((m, l) :: r) = if g ≤ st + m - si then si + g - st else comeTo g (mx0 (st + m - si - l)) m r := rfl
    have es : ∀ u, standing u st si ((m, l) :: r) = if m < u then standing u (mx0 (st + m - si - l)) m r else st + u - si := fun _ => rfl
    by_cases c : g ≤ st + m - si
    · rw [ec, if_pos c]
      refine ⟨by omega, ?_, fun u h1 h2 => ?_⟩
      · rw [es, if_neg (by omega)]
        omega
      · rw [es, if_neg (by omega)]
        omega
    · obtain ⟨i1, i2, i3⟩ := come_is g r (mx0 (st + m - si - l)) m p2 (fun b hb => Int.le_of_lt (hr b hb)) (fun b hb => hl b (List.mem_cons_of_mem _ hb)) hm0.1 (by omega)
      rw [ec, if_neg c]
      refine ⟨by omega, ?_, fun u h1 h2 => ?_⟩
      · rw [es, if_pos i1]
        exact i2
      · rw [es]
        split
        · exact i3 u (by omega) h2
        · omega
theorem stand_zero : ∀ {bs : List (Int × Int)}, (∀ b ∈ bs, 0 ≤ b.1) → standing 0 0 0 bs = 0
  | [], _ => rfl
  | (m, l) :: r, h => by
    have : 0 ≤ m := h (m, l) List.mem_cons_self
    show (if m < 0 then _ else (0 : Int) + 0 - 0) = 0
    rw [if_neg (by omega)]
    rfl
def keysB (bs : List (Int × Int)) : List (Key × V) := bs.map fun b => (Sum.inl b.1, V.int b.2)
theorem merge_val (k : Key) : ∀ (more acc : List (Key × V)), (∀ x ∈ more, valV acc x.1 = none) → (more.map (·.1)).Nodup → valV (mergeK acc more) k = (match valV acc k with | some v => some v | none => valV more k)
  | [], acc, _, _ => by
    show valV acc k = _
    cases valV acc k <;> rfl
  | (k', v) :: r, acc, h, nd => by
    have nd := List.nodup_cons.mp nd
    have e : mergeK acc ((k', v) :: r) = mergeK (putK acc k' v) r := rfl
    rw [e, merge_val k r _ (fun x hx => ?_) nd.2, valV_put]
    · by_cases c : k = k'
      · subst c
        rw [if_pos rfl, h (k, v) List.mem_cons_self]
        show some v = valV ((k, v) :: r) k
        rw [valV_pos rfl]
      · rw [if_neg c]
        cases valV acc k with
        | some v => rfl
        | none =>
          show valV r k = valV ((k', v) :: r) k
          rw [valV_neg (fun z => c z.symm)]
    · rw [valV_put, if_neg (fun z => nd.1 (by rw [← z]; exact List.mem_map.mpr ⟨x, hx, rfl⟩))]
      exact h x (List.mem_cons_of_mem _ hx)
theorem keys_val (now : Int) : ∀ bs : List (Int × Int), (valV (keysB bs) (Sum.inl now)).getD (.int 0) = .int (lapAt now bs)
  | [] => rfl
  | (m, l) :: r => by
    show (valV ((Sum.inl m, V.int l) :: keysB r) (Sum.inl now)).getD (.int 0) = .int (if m = now then l else lapAt now r)
    by_cases c : m = now
    · rw [valV_pos (by rw [c]), if_pos c]
      rfl
    · rw [valV_neg (fun z => c (Sum.inl.inj z)), if_neg c]
      exact keys_val now r
theorem laps_val {bs : List (Int × Int)} (h : (bs.map (·.1)).Pairwise (· < ·)) (now : Int) : (valV (mergeK [] (keysB bs)) (Sum.inl now)).getD (.int 0) = .int (lapAt now bs) := by
  rw [merge_val _ _ _ (fun x _ => valV_nil) ?_]
  · show (valV (keysB bs) (Sum.inl now)).getD (.int 0) = _
    exact keys_val now bs
  · have e : (keysB bs).map (·.1) = (bs.map (·.1)).map (Sum.inl : Int → Key) := by
      unfold keysB
      rw [List.map_map, List.map_map]
      rfl
    rw [e]
    refine List.pairwise_map.mpr (h.imp fun {a b} z e => ?_)
    have := Sum.inl.inj e
    omega
def spSomeBreaksL : Sp := fun vs H Q _ => ∃ (p : Addr) (T : Nat) (most : Int) (far : Bool), vs = [.ref p, .int most, .bl far] ∧ PotC H p T ∧ T < 2 ^ 37 ∧ 0 ≤ most ∧ most ≤ 20 ∧
  ∀ H' o bs, PotC H' p (T + 50) → Keep p p H H' → BrAt H' o bs → GoodB bs → LapsOk bs → H o = none → Q (.ref o) H'
def spSpans : Sp := fun vs H Q _ => ∃ (b : Addr) (bs : List (Int × Int)), vs = [.ref b] ∧ BrAt H b bs ∧ bs.length ≤ 20 ∧ ∀ H' o as, Same H H' → H o = none → H' o = some (.lst (as.map V.ref)) → TupsAt H' as ((spans 0 0 bs).map spanV) → Q (.ref o) H'
def spFirstLeft : Sp := fun vs H Q _ => ∃ (n : Int) (b : Addr) (bs : List (Int × Int)), vs = [.int n, .ref b] ∧ BrAt H b bs ∧ bs.length ≤ 20 ∧ LapsOk bs ∧ 0 ≤ n ∧ ∀ H', Same H H' → Q (.int (comeTo (n + 1) 0 0 bs - 1)) H'
def laidV (bs : List (Int × Int)) (ms : List Int) (last g : Int) : V := if last < comeTo g 0 0 bs then .non else .int ((ms.filter fun m => decide (m < comeTo g 0 0 bs)).length : Nat)
def spLaidWith : Sp := fun vs H Q _ => ∃ (a b : Addr) (low g : Int) (as : List Addr) (Ws : List Wi) (bs : List (Int × Int)), vs = [.ref a, .int low, .ref b, .int g] ∧ H a = some (.tup (as.map V.ref)) ∧ RowAt H as Ws ∧ BrAt H b bs ∧ FromB bs Ws low ∧ LapsOk bs ∧ (g ≤ 0 → Q (.int 0) H) ∧
  (0 < g → ∀ H' ms last, Same H H' → LateB bs Ws low ms → IsFirst (laysB bs Ws ms) low 0 last → Q (laidV bs ms last g) H')
def spComeTo : Sp := fun vs H Q _ => ∃ (g : Int) (b : Addr) (bs : List (Int × Int)), vs = [.int g, .ref b] ∧ BrAt H b bs ∧ ∀ H', Same H H' → Q (.int (comeTo g 0 0 bs)) H'
def spByMom37 : Sp := fun vs H Q _ => ∃ (g most : Int) (b : Addr) (bs : List (Int × Int)), vs = [.int g, .ref b, .int most] ∧ BrAt H b bs ∧ GoodB bs ∧ LapsOk bs ∧ 1 ≤ g ∧ most ≤ 1000 ∧ comeTo g 0 0 bs ≤ most ∧ ∀ H', Same H H' → Q (.int (comeTo g 0 0 bs)) H'
def spLengths : Sp := fun vs H Q _ => ∃ (b : Addr) (bs : List (Int × Int)) (last : Int), vs = [.ref b, .int last] ∧ BrAt H b bs ∧ GoodB bs ∧ 0 ≤ last ∧ ∀ H' o (ns : List Int), Same H H' → H o = none → H' o = some (.lst (ns.map V.int)) → (∀ n ∈ ns, 0 ≤ n) → 1 ≤ ns.length → ns.length ≤ 70 → Q (.ref o) H'
def spRight37 : Sp := fun vs H Q _ => ∃ (a b c : Addr) (low last g : Int) (as : List Addr) (Ws : List Wi) (bs : List (Int × Int)) (ms : List Int), vs = [.ref a, .int low, .ref b, .ref c, .int last, .int g] ∧ H a = some (.tup (as.map V.ref)) ∧ RowAt H as Ws ∧ BrAt H b bs ∧ FromB bs Ws low ∧ LapsOk bs ∧ H c = some (.tup (ms.map V.int)) ∧ LateB bs Ws low ms ∧ IsFirst (laysB bs Ws ms) low 0 last ∧ 0 ≤ g ∧ ∀ H', Same H H' → Q (.bl true) H'
theorem drop_cons {α : Type _} {xs : List α} {i : Nat} {x : α} (h : xs[i]? = some x) : xs.drop i = x :: xs.drop (i + 1) := by
  obtain ⟨h1, h2⟩ := List.getElem?_eq_some_iff.mp h
  rw [List.drop_eq_getElem_cons h1, h2]
theorem span_get {H : Hp} {as : List Addr} {ss : List (Int × Option Int × Int)} (h : TupsAt H as (ss.map spanV)) {i : Nat} {v : V} (e : (as.map V.ref)[i]? = some v) : ∃ a s m n, v = .ref a ∧ ss[i]? = some (s, m, n) ∧ H a = some (.tup [.int s, letV m, .int n]) := by
  obtain ⟨a, xs, h1, _, h2, h3⟩ := h.get e
  rw [List.getElem?_map] at h2
  cases q : ss[i]? with
  | none =>
    rw [q] at h2
    cases h2
  | some y =>
    rw [q] at h2
    have : spanV y = xs := Option.some.inj h2
    subst this
    exact ⟨a, y.1, y.2.1, y.2.2, h1, rfl, h3⟩
theorem spans_ne (s n : Int) : ∀ bs : List (Int × Int), spans s n bs ≠ []
  | [] => by
    intro h
    cases h
  | (_, _) :: _ => by
    intro h
    cases h
/-- all but one object stay -/
def Same2 (R : Addr) (H H' : Hp) : Prop := ∀ a o, a ≠ R → H a = some o → H' a = some o
theorem Same2.refl {R : Addr} {H : Hp} : Same2 R H H := fun _ _ _ h => h
theorem Same2.new {R a : Addr} {H H1 : Hp} {o : HO} (k : Same2 R H H1) (h : H1 a = none) : Same2 R H (upd H1 a o) := fun c u n e => by
  have e1 := k c u n e
  rw [upd_ne (ne_of_none e1 h)]
  exact e1
theorem Same2.own {R : Addr} {H H1 : Hp} {o : HO} (k : Same2 R H H1) : Same2 R H (upd H1 R o) := fun c u n e => by
  rw [upd_ne n]
  exact k c u n e
theorem laps_paired {K : PySem.W.Frag} {H : Hp} : ∀ {bs : List (Int × Int)} {as : List Addr}, TupsAt H as (bs.map stepV) → Paired (fun p (kv : Key × V) => SqT K H p [kV kv.1, kv.2]) as (keysB bs)
  | [], as, h => by
    have : as = [] := List.eq_nil_of_length_eq_zero h.1
    subst this
    exact .nil
  | (m, l) :: r, [], h => by cases h.1
  | (m, l) :: r, a :: as, h => by
    obtain ⟨xs, h1, h2⟩ := h.2 0 a rfl
    have : stepV (m, l) = xs := Option.some.inj h1
    subst this
    refine .cons (SqT.of h2) (laps_paired (bs := r) ⟨Nat.succ.inj h.1, fun i b hb => h.2 (i + 1) b hb⟩)
theorem cutV_map (ls : List Int) (lo hi : Option Int) : ∃ zs : List Int, cutV (ls.map V.int) lo hi = zs.map V.int ∧ (∀ z ∈ zs, z ∈ ls) ∧ zs.length ≤ ls.length := by
  unfold cutV
  refine ⟨_, by rw [← List.map_drop, ← List.map_take], fun z hz => List.mem_of_mem_drop (List.mem_of_mem_take hz), ?_⟩
  rw [List.length_take, List.length_drop]
  omega
/-! ### moments kept: runs, one behind the other -/
def ft (s : Int) (n : Nat) : List Int := (List.range n).map fun (k : Nat) => s + (k : Int)
theorem ft_len (s : Int) (n : Nat) : (ft s n).length = n := by
  unfold ft
  rw [List.length_map, List.length_range]
theorem ft_succ (s : Int) (n : Nat) : ft s (n + 1) = ft s n ++ [s + n] := by
  unfold ft
  rw [List.range_succ, List.map_append]
  rfl
theorem ft_app (s : Int) (a : Nat) : ∀ b : Nat, ft s (a + b) = ft s a ++ ft (s + a) b
  | 0 => (List.append_nil _).symm
  | b + 1 => by
    rw [← Nat.add_assoc, ft_succ, ft_succ, ft_app s a b, List.append_assoc, show s + ((a + b : Nat) : Int) = s + a + b by omega]
theorem mem_ft {s x : Int} {n : Nat} : x ∈ ft s n ↔ s ≤ x ∧ x < s + n := by
  unfold ft
  rw [List.mem_map]
  constructor
  · rintro ⟨k, hk, rfl⟩
    have := List.mem_range.mp hk
    omega
  · intro h
    exact ⟨(x - s).toNat, List.mem_range.mpr (by omega), by omega⟩
theorem ft_get {s : Int} {n i : Nat} (h : i < n) : (ft s n)[i]? = some (s + i) := by
  unfold ft
  rw [List.getElem?_map, List.getElem?_range h]
  rfl
theorem ft_take (s : Int) (n k : Nat) (h : k ≤ n) : (ft s n).take k = ft s k := by
  obtain ⟨j, rfl⟩ : ∃ j, n = k + j := ⟨n - k, by omega⟩
  rw [ft_app, List.take_append_of_le_length (by rw [ft_len]; exact Nat.le_refl _), List.take_of_length_le (by rw [ft_len]; exact Nat.le_refl _)]
def seg (s e : Int) : List Int := ft s (e - s).toNat
theorem seg_none {s e : Int} (h : e ≤ s) : seg s e = [] := by
  unfold seg
  rw [show (e - s).toNat = 0 by omega]
  rfl
theorem seg_app {a b e : Int} (h1 : a ≤ b) (h2 : b ≤ e) : seg a b ++ seg b e = seg a e := by
  unfold seg
  have e1 : (e - a).toNat = (b - a).toNat + (e - b).toNat := by omega
  have e2 : a + ((b - a).toNat : Int) = b := by omega
  rw [e1, ft_app, e2]
theorem seg_len (s e : Int) : (seg s e).length = (e - s).toNat := ft_len _ _
theorem mem_seg {s e x : Int} : x ∈ seg s e ↔ s ≤ x ∧ x < e := by
  unfold seg
  rw [mem_ft]
  omega
abbrev Runs := List (Int × Int)
def expR (R : Runs) : List Int := (R.map fun r => seg r.1 r.2).flatten
theorem exp_app (A B : Runs) : expR (A ++ B) = expR A ++ expR B := by
  unfold expR
  rw [List.map_append, List.flatten_append]
theorem exp_one (s e : Int) : expR [(s, e)] = seg s e := by
  unfold expR
  simp
theorem exp_cons (r : Int × Int) (A : Runs) : expR (r :: A) = seg r.1 r.2 ++ expR A := rfl
theorem mem_exp {R : Runs} {x : Int} : x ∈ expR R ↔ ∃ r ∈ R, r.1 ≤ x ∧ x < r.2 := by
  unfold expR
  rw [List.mem_flatten]
  constructor
  · rintro ⟨l, hl, hx⟩
    obtain ⟨r, hr, rfl⟩ := List.mem_map.mp hl
    exact ⟨r, hr, mem_seg.mp hx⟩
  · rintro ⟨r, hr, hx⟩
    exact ⟨_, List.mem_map.mpr ⟨r, hr, rfl⟩, mem_seg.mpr hx⟩
/-- each of one moment at least, none beside the other, none behind st -/
def OkR (R : Runs) (st : Int) : Prop := R.Pairwise (fun a b => a.2 < b.1) ∧ ∀ r ∈ R, 0 ≤ r.1 ∧ r.1 < r.2 ∧ r.2 ≤ st
theorem OkR.nil (st : Int) : OkR [] st := ⟨List.Pairwise.nil, fun r hr => by cases hr⟩
theorem OkR.up {R : Runs} {st su : Int} (h : OkR R st) (l : st ≤ su) : OkR R su := ⟨h.1, fun r hr => by
  have := h.2 r hr
  omega⟩
def wRun (R : Runs) (s e : Int) : Runs := if e ≤ s then R else match R.getLast? with
  | some r => if r.2 = s then R.dropLast ++ [(r.1, e)] else R ++ [(s, e)]
  | none => [(s, e)]
theorem wRun_no {R : Runs} {s e : Int} (h : e ≤ s) : wRun R s e = R := by
  unfold wRun
  rw [if_pos h]
theorem wRun_nil {s e : Int} (h : ¬ e ≤ s) : wRun [] s e = [(s, e)] := by
  unfold wRun
  rw [if_neg h]
  rfl
theorem wRun_snoc {A : Runs} {a b s e : Int} (h : ¬ e ≤ s) : wRun (A ++ [(a, b)]) s e = if b = s then A ++ [(a, e)] else A ++ [(a, b)] ++ [(s, e)] := by
  unfold wRun
  rw [if_neg h, List.getLast?_concat, List.dropLast_concat]
theorem snoc_of (R : Runs) : R = [] ∨ ∃ A a b, R = A ++ [(a, b)] := by
  rcases List.eq_nil_or_concat R with h | ⟨A, r, h⟩
  · exact .inl h
  · exact .inr ⟨A, r.1, r.2, by rw [h, List.concat_eq_append]⟩
theorem exp_wRun {R : Runs} {st : Int} (h : OkR R st) (s e : Int) : expR (wRun R s e) = expR R ++ seg s e := by
  by_cases c : e ≤ s
  · rw [wRun_no c, seg_none c, List.append_nil]
  · rcases snoc_of R with rfl | ⟨A, a, b, rfl⟩
    · rw [wRun_nil c, exp_one]
      rfl
    · rw [wRun_snoc c]
      have hab := h.2 (a, b) (List.mem_append_right _ (List.mem_singleton.mpr rfl))
      split
      · next hb =>
        subst hb
        have hab : 0 ≤ a ∧ a < b ∧ b ≤ st := hab
        rw [exp_app, exp_app, exp_one, exp_one, List.append_assoc, seg_app (by omega) (by omega)]
      · rw [exp_app, exp_one]
theorem ok_wRun {R : Runs} {s e : Int} (h : OkR R s) (hse : s ≤ e) (h0 : 0 ≤ s) : OkR (wRun R s e) e := by
  by_cases c : e ≤ s
  · rw [wRun_no c]
    exact h.up hse
  · rcases snoc_of R with rfl | ⟨A, a, b, rfl⟩
    · rw [wRun_nil c]
      refine ⟨List.pairwise_singleton _ _, fun r hr => ?_⟩
      rw [List.mem_singleton.mp hr]
      show 0 ≤ s ∧ s < e ∧ e ≤ e
      omega
    · rw [wRun_snoc c]
      obtain ⟨p, q⟩ := h
      obtain ⟨pA, _, pAb⟩ := List.pairwise_append.mp p
      have hab := q (a, b) (List.mem_append_right _ (List.mem_singleton.mpr rfl))
      have hab : 0 ≤ a ∧ a < b ∧ b ≤ s := hab
      split
      · next hb =>
        refine ⟨List.pairwise_append.mpr ⟨pA, List.pairwise_singleton _ _, fun x hx y hy => ?_⟩, fun r hr => ?_⟩
        · rw [List.mem_singleton.mp hy]
          exact pAb x hx (a, b) (List.mem_singleton.mpr rfl)
        · rcases List.mem_append.mp hr with hr | hr
          · have := q r (List.mem_append_left _ hr)
            omega
          · rw [List.mem_singleton.mp hr]
            show 0 ≤ a ∧ a < e ∧ e ≤ e
            omega
      · next hb =>
        refine ⟨List.pairwise_append.mpr ⟨p, List.pairwise_singleton _ _, fun x hx y hy => ?_⟩, fun r hr => ?_⟩
        · rw [List.mem_singleton.mp hy]
          show x.2 < s
          rcases List.mem_append.mp hx with hx | hx
          · have h1 : x.2 < a := pAb x hx (a, b) (List.mem_singleton.mpr rfl)
            omega
          · rw [List.mem_singleton.mp hx]
            show b < s
            omega
        · rcases List.mem_append.mp hr with hr | hr
          · have := q r hr
            omega
          · rw [List.mem_singleton.mp hr]
            show 0 ≤ s ∧ s < e ∧ e ≤ e
            omega
/-- without the last so many -/
def lessR : Runs → Int → Runs
  | [], _ => []
  | (s, e) :: r, lap => if lap ≤ 0 then (s, e) :: r else if s < e - lap then (s, e - lap) :: r else lessR r (lap - (e - s))
def less (R : Runs) (lap : Int) : Runs := (lessR R.reverse lap).reverse
def cutL' (xs : List Int) (lap : Int) : List Int := xs.take (xs.length - lap.toNat)
theorem exp_lessR : ∀ (Q : Runs) (lap : Int), (∀ r ∈ Q, r.1 < r.2) → 0 ≤ lap → expR (lessR Q lap).reverse = cutL' (expR Q.reverse) lap
  | [], lap, _, _ => by
    show ([] : List Int) = cutL' [] lap
    unfold cutL'
    rw [List.take_nil]
  | (s, e) :: r, lap, h, h0 => by
    have hse : s < e := h (s, e) List.mem_cons_self
    have ex : ∀ e', expR ((s, e') :: r).reverse = expR r.reverse ++ seg s e' := fun e' => by rw [List.reverse_cons, exp_app, exp_one]
    unfold lessR
    by_cases c : lap ≤ 0
    · rw [if_pos c]
      unfold cutL'
      rw [show lap.toNat = 0 by omega, Nat.sub_zero, List.take_length]
    · rw [if_neg c]
      by_cases c2 : s < e - lap
      · rw [if_pos c2, ex, ex]
        unfold cutL'
        rw [List.length_append, seg_len, List.take_append, List.take_of_length_le (by omega)]
        congr 1
        unfold seg
        rw [show (expR r.reverse).length + (e - s).toNat - lap.toNat - (expR r.reverse).length = (e - lap - s).toNat by omega, ft_take _ _ _ (by omega)]
      · rw [if_neg c2, exp_lessR r _ (fun x hx => h x (List.mem_cons_of_mem _ hx)) (by omega), ex]
        unfold cutL'
        rw [List.length_append, seg_len, List.take_append, show (expR r.reverse).length + (e - s).toNat - lap.toNat - (expR r.reverse).length = 0 by omega, List.take_zero, List.append_nil]
        congr 1
        omega
theorem exp_less {R : Runs} {st : Int} (h : OkR R st) {lap : Int} (h0 : 0 ≤ lap) : expR (less R lap) = cutL' (expR R) lap := by
  unfold less
  rw [exp_lessR _ _ (fun r hr => (h.2 r (List.mem_reverse.mp hr)).2.1) h0, List.reverse_reverse]
theorem ok_lessR {st : Int} : ∀ (Q : Runs) (lap : Int), OkR Q.reverse st → OkR (lessR Q lap).reverse st
  | [], lap, h => h
  | (s, e) :: r, lap, h => by
    unfold lessR
    by_cases c : lap ≤ 0
    · rw [if_pos c]
      exact h
    · rw [if_neg c]
      rw [List.reverse_cons] at h
      obtain ⟨p, q⟩ := h
      obtain ⟨pA, _, pAb⟩ := List.pairwise_append.mp p
      have hse := q (s, e) (List.mem_append_right _ (List.mem_singleton.mpr rfl))
      have hse : 0 ≤ s ∧ s < e ∧ e ≤ st := hse
      by_cases c2 : s < e - lap
      · rw [if_pos c2, List.reverse_cons]
        refine ⟨List.pairwise_append.mpr ⟨pA, List.pairwise_singleton _ _, fun x hx y hy => ?_⟩, fun x hx => ?_⟩
        · rw [List.mem_singleton.mp hy]
          exact pAb x hx (s, e) (List.mem_singleton.mpr rfl)
        · rcases List.mem_append.mp hx with hx | hx
          · exact q x (List.mem_append_left _ hx)
          · rw [List.mem_singleton.mp hx]
            show 0 ≤ s ∧ s < e - lap ∧ e - lap ≤ st
            omega
      · rw [if_neg c2]
        exact ok_lessR r _ ⟨pA, fun x hx => q x (List.mem_append_left _ hx)⟩
theorem ok_less {R : Runs} {st : Int} (h : OkR R st) (lap : Int) : OkR (less R lap) st := ok_lessR _ _ (by rw [List.reverse_reverse]; exact h)
def keepRuns (m : Int) : Runs → Int → List (Int × Int) → Runs
  | R, st, [] => wRun R st m
  | R, st, (t, lap) :: r => if t ≤ m then keepRuns m (less (wRun R st t) lap) t r else keepRuns m R st r
/-- breaks that rise from st on -/
def RiseB (st : Int) (bs : List (Int × Int)) : Prop := (bs.map (·.1)).Pairwise (· < ·) ∧ ∀ b ∈ bs, st ≤ b.1 ∧ 0 ≤ b.2
theorem RiseB.tail {st t lap : Int} {r : List (Int × Int)} (h : RiseB st ((t, lap) :: r)) : RiseB t r ∧ ∀ b ∈ r, t < b.1 := by
  obtain ⟨p1, p2⟩ := List.pairwise_cons.mp h.1
  have hr : ∀ b ∈ r, t < b.1 := fun b hb => p1 b.1 (List.mem_map.mpr ⟨b, hb, rfl⟩)
  exact ⟨⟨p2, fun b hb => ⟨Int.le_of_lt (hr b hb), (h.2 b (List.mem_cons_of_mem _ hb)).2⟩⟩, hr⟩
theorem keep_skip {m : Int} : ∀ {bs : List (Int × Int)} {R : Runs} {st : Int}, (∀ b ∈ bs, m < b.1) → keepRuns m R st bs = wRun R st m
  | [], _, _, _ => rfl
  | (t, lap) :: r, R, st, h => by
    have h1 : m < t := h (t, lap) List.mem_cons_self
    show (if t ≤ m then _ else keepRuns m R st r) = _
    rw [if_neg (by omega)]
    exact keep_skip fun b hb => h b (List.mem_cons_of_mem _ hb)
theorem keep_ok {m : Int} : ∀ {bs : List (Int × Int)} {R : Runs} {st : Int}, RiseB st bs → OkR R st → 0 ≤ st → st ≤ m → OkR (keepRuns m R st bs) m
  | [], R, st, _, h, h0, hm => ok_wRun h hm h0
  | (t, lap) :: r, R, st, hb, h, h0, hm => by
    obtain ⟨hr, hlt⟩ := hb.tail
    have ht := hb.2 (t, lap) List.mem_cons_self
    have ht : st ≤ t ∧ 0 ≤ lap := ht
    show OkR (if t ≤ m then keepRuns m (less (wRun R st t) lap) t r else keepRuns m R st r) m
    by_cases c : t ≤ m
    · rw [if_pos c]
      exact keep_ok hr (ok_less (ok_wRun h ht.1 h0) lap) (by omega) c
    · rw [if_neg c, keep_skip fun b hb => by have := hlt b hb; omega]
      exact ok_wRun h hm h0
/-- how many are left -/
def leftN (m : Int) : Int → Int → List (Int × Int) → Int
  | n, st, [] => n + m - st
  | n, st, (t, lap) :: r => if m < t then n + m - st else leftN m (mx0 (n + t - st - lap)) t r
theorem cut_len (xs : List Int) {lap : Int} (h : 0 ≤ lap) : ((cutL' xs lap).length : Int) = mx0 ((xs.length : Int) - lap) := by
  unfold cutL' mx0
  rw [List.length_take]
  split <;> omega
theorem app_len (xs : List Int) {s e : Int} (h : s ≤ e) : ((xs ++ seg s e).length : Int) = xs.length + e - s := by
  rw [List.length_append, seg_len]
  omega
theorem less_len {R : Runs} {st t lap : Int} (h : OkR R st) (h1 : st ≤ t) (h0 : 0 ≤ st) (hl : 0 ≤ lap) : expR (less (wRun R st t) lap) = cutL' (expR R ++ seg st t) lap ∧ ((expR (less (wRun R st t) lap)).length : Int) = mx0 ((expR R).length + t - st - lap) := by
  have e : expR (less (wRun R st t) lap) = cutL' (expR R ++ seg st t) lap := by rw [exp_less (ok_wRun h h1 h0) hl, exp_wRun h]
  refine ⟨e, ?_⟩
  rw [e, cut_len _ hl, app_len _ h1]
theorem keep_len {m : Int} : ∀ {bs : List (Int × Int)} {R : Runs} {st : Int}, RiseB st bs → OkR R st → 0 ≤ st → st ≤ m → ((expR (keepRuns m R st bs)).length : Int) = leftN m (expR R).length st bs
  | [], R, st, _, h, h0, hm => by
    show ((expR (wRun R st m)).length : Int) = (expR R).length + m - st
    rw [exp_wRun h, app_len _ hm]
  | (t, lap) :: r, R, st, hb, h, h0, hm => by
    obtain ⟨hr, hlt⟩ := hb.tail
    have ht := hb.2 (t, lap) List.mem_cons_self
    have ht : st ≤ t ∧ 0 ≤ lap := ht
    show ((expR (if t ≤ m then keepRuns m (less (wRun R st t) lap) t r else keepRuns m R st r)).length : Int) = if m < t then (expR R).length + m - st else leftN m (mx0 ((expR R).length + t - st - lap)) t r
    by_cases c : t ≤ m
    · rw [if_pos c, if_neg (by omega), keep_len hr (ok_less (ok_wRun h ht.1 h0) lap) (by omega) c, (less_len h ht.1 h0 ht.2).2]
    · rw [if_neg c, if_pos (by omega), keep_skip fun b hb => by have := hlt b hb; omega, exp_wRun h, app_len _ hm]
/-! ### moment by moment -/
def stG (E : List Int) (st : Int) (bs : List (Int × Int)) : Nat → List Int
  | 0 => E
  | n + 1 => cutL' (stG E st bs n) (lapAt (st + n) bs) ++ [st + n]
theorem cut_zero (xs : List Int) : cutL' xs 0 = xs := by
  unfold cutL'
  rw [show (0 : Int).toNat = 0 from rfl, Nat.sub_zero, List.take_length]
theorem stG_free {E : List Int} {st : Int} {bs : List (Int × Int)} : ∀ {n : Nat}, (∀ b ∈ bs, st + n ≤ b.1) → stG E st bs n = E ++ ft st n
  | 0, _ => (List.append_nil _).symm
  | n + 1, h => by
    show cutL' (stG E st bs n) (lapAt (st + n) bs) ++ [st + n] = _
    rw [stG_free fun b hb => by have := h b hb; omega, lap_none fun b hb => by have := h b hb; omega, cut_zero, ft_succ, List.append_assoc]
theorem lap_cons_ne {now t lap : Int} {r : List (Int × Int)} (h : t ≠ now) : lapAt now ((t, lap) :: r) = lapAt now r := by
  show (if t = now then lap else lapAt now r) = _
  rw [if_neg h]
theorem stG_on {E : List Int} {st t lap : Int} {r : List (Int × Int)} {n : Nat} (ht : t = st + n) (hr : ∀ b ∈ r, t < b.1) : ∀ k : Nat, stG E st ((t, lap) :: r) (n + (k + 1)) = stG (cutL' (E ++ ft st n) lap) t r (k + 1)
  | 0 => by
    show cutL' (stG E st ((t, lap) :: r) n) (lapAt (st + n) ((t, lap) :: r)) ++ [st + n] = cutL' (cutL' (E ++ ft st n) lap) (lapAt (t + (0 : Nat)) r) ++ [t + (0 : Nat)]
    have hfree : stG E st ((t, lap) :: r) n = E ++ ft st n := stG_free fun b hb => by
      rcases List.mem_cons.mp hb with rfl | hb
      · show st + (n : Int) ≤ t
        omega
      · have := hr b hb
        omega
    rw [hfree, ← ht, show t + ((0 : Nat) : Int) = t by omega, lap_none hr, cut_zero]
    show cutL' _ (if t = t then lap else _) ++ _ = _
    rw [if_pos rfl]
  | k + 1 => by
    show cutL' (stG E st ((t, lap) :: r) (n + (k + 1))) (lapAt (st + ((n + (k + 1) : Nat) : Int)) ((t, lap) :: r)) ++ [st + ((n + (k + 1) : Nat) : Int)] = cutL' (stG (cutL' (E ++ ft st n) lap) t r (k + 1)) (lapAt (t + ((k + 1 : Nat) : Int)) r) ++ [t + ((k + 1 : Nat) : Int)]
    rw [stG_on ht hr k, show st + ((n + (k + 1) : Nat) : Int) = t + ((k + 1 : Nat) : Int) by omega, lap_cons_ne (by omega)]
theorem keep_stood {m : Int} : ∀ {bs : List (Int × Int)} {R : Runs} {st : Int}, RiseB st bs → OkR R st → 0 ≤ st → st ≤ m → expR (keepRuns m R st bs) = cutL' (stG (expR R) st bs (m - st).toNat) (lapAt m bs)
  | [], R, st, _, h, h0, hm => by
    show expR (wRun R st m) = cutL' (stG (expR R) st [] (m - st).toNat) 0
    rw [exp_wRun h, cut_zero, stG_free (fun b hb => by cases hb)]
    rfl
  | (t, lap) :: r, R, st, hb, h, h0, hm => by
    obtain ⟨hr, hlt⟩ := hb.tail
    have ht := hb.2 (t, lap) List.mem_cons_self
    have ht : st ≤ t ∧ 0 ≤ lap := ht
    show expR (if t ≤ m then keepRuns m (less (wRun R st t) lap) t r else keepRuns m R st r) = _
    by_cases c : t ≤ m
    · obtain ⟨n, hn⟩ : ∃ n : Nat, t = st + n := ⟨(t - st).toNat, by omega⟩
      have es : seg st t = ft st n := by
        unfold seg
        rw [show (t - st).toNat = n by omega]
      rw [if_pos c, keep_stood hr (ok_less (ok_wRun h ht.1 h0) lap) (by omega) c, (less_len h ht.1 h0 ht.2).1, es]
      by_cases c2 : t = m
      · subst c2
        have hfree : stG (expR R) st ((t, lap) :: r) n = expR R ++ ft st n := stG_free fun b hb => by
          rcases List.mem_cons.mp hb with rfl | hb
          · show st + (n : Int) ≤ t
            omega
          · have := hlt b hb
            omega
        rw [show (t - t).toNat = 0 by omega, show (t - st).toNat = n by omega, hfree, lap_none hlt, cut_zero]
        show cutL' _ lap = cutL' _ (if t = t then lap else _)
        rw [if_pos rfl]
      · obtain ⟨k, hk⟩ : ∃ k : Nat, m = t + ((k + 1 : Nat) : Int) := ⟨(m - t - 1).toNat, by omega⟩
        rw [show (m - st).toNat = n + (k + 1) by omega, show (m - t).toNat = k + 1 by omega, stG_on hn hlt k, lap_cons_ne c2]
    · have hall : ∀ b ∈ (t, lap) :: r, m < b.1 := fun b hb => by
        rcases List.mem_cons.mp hb with rfl | hb
        · show m < t
          omega
        · have := hlt b hb
          omega
      rw [if_neg c, keep_skip fun b hb => hall b (List.mem_cons_of_mem _ hb), exp_wRun h, lap_none hall, cut_zero, stG_free fun b hb => by have := hall b hb; omega]
      rfl
/-! ### which are kept -/
theorem seg_up (s e : Int) : (seg s e).Pairwise (· < ·) := by
  unfold seg ft
  refine List.pairwise_map.mpr (List.pairwise_lt_range.imp fun {a b} h => ?_)
  omega
theorem exp_up : ∀ {R : Runs} {st : Int}, OkR R st → (expR R).Pairwise (· < ·)
  | [], _, _ => List.Pairwise.nil
  | r :: A, st, h => by
    obtain ⟨p1, p2⟩ := List.pairwise_cons.mp h.1
    rw [exp_cons]
    refine List.pairwise_append.mpr ⟨seg_up _ _, exp_up ⟨p2, fun x hx => h.2 x (List.mem_cons_of_mem _ hx)⟩, fun x hx y hy => ?_⟩
    have h1 := mem_seg.mp hx
    obtain ⟨q, hq, h2⟩ := mem_exp.mp hy
    have := p1 q hq
    omega
theorem up_get {xs : List Int} (h : xs.Pairwise (· < ·)) {i j : Nat} {x : Int} (hi : xs[i]? = some x) (hj : xs[j]? = some x) : i = j := by
  obtain ⟨i1, i2⟩ := List.getElem?_eq_some_iff.mp hi
  obtain ⟨j1, j2⟩ := List.getElem?_eq_some_iff.mp hj
  have srt := List.pairwise_iff_getElem.mp h
  rcases Nat.lt_trichotomy i j with c | c | c
  · have := srt i j i1 j1 c
    omega
  · exact c
  · have := srt j i j1 i1 c
    omega
theorem take_mem {xs : List Int} (h : xs.Pairwise (· < ·)) {i k : Nat} {x : Int} (hi : xs[i]? = some x) : x ∈ xs.take k ↔ i < k := by
  constructor
  · intro hx
    obtain ⟨j, hj, ej⟩ := List.getElem_of_mem hx
    have h1 : (xs.take k)[j]? = some x := by rw [List.getElem?_eq_getElem hj, ej]
    rw [List.length_take] at hj
    rw [List.getElem?_take, if_pos (by omega)] at h1
    have := up_get h hi h1
    omega
  · intro hk
    have : (xs.take k)[i]? = some x := by
      rw [List.getElem?_take, if_pos hk]
      exact hi
    exact List.mem_of_getElem? this
theorem left_at {n st t lap : Int} {r : List (Int × Int)} (hr : ∀ b ∈ r, t < b.1) : leftN t n st ((t, lap) :: r) = mx0 (n + t - st - lap) := by
  show (if t < t then _ else leftN t (mx0 (n + t - st - lap)) t r) = _
  rw [if_neg (by omega)]
  cases r with
  | nil =>
    show mx0 (n + t - st - lap) + t - t = _
    omega
  | cons b r =>
    obtain ⟨t2, l2⟩ := b
    have := hr (t2, l2) List.mem_cons_self
    have : t < t2 := this
    show (if t < t2 then mx0 (n + t - st - lap) + t - t else _) = _
    rw [if_pos this]
    omega
theorem left_behind {y n st t lap : Int} {r : List (Int × Int)} (h : t ≤ y) : leftN y n st ((t, lap) :: r) = leftN y (mx0 (n + t - st - lap)) t r := by
  show (if y < t then _ else _) = _
  rw [if_neg (by omega)]
theorem left_ahead {y n st : Int} {bs : List (Int × Int)} (h : ∀ b ∈ bs, y < b.1) : leftN y n st bs = n + y - st := by
  cases bs with
  | nil => rfl
  | cons b r =>
    obtain ⟨t, lap⟩ := b
    have h1 : y < t := h (t, lap) List.mem_cons_self
    show (if y < t then _ else _) = _
    rw [if_pos h1]
/-- what is kept: of the elder ones, of the new ones, no other -/
theorem keep_iff {m : Int} : ∀ {bs : List (Int × Int)} {R : Runs} {st : Int}, RiseB st bs → OkR R st → 0 ≤ st → st ≤ m →
    (∀ (i : Nat) (x : Int), (expR R)[i]? = some x → (x ∈ expR (keepRuns m R st bs) ↔ ∀ b ∈ bs, b.1 ≤ m → (i : Int) < leftN b.1 (expR R).length st bs)) ∧
    (∀ x : Int, st ≤ x → x < m → (x ∈ expR (keepRuns m R st bs) ↔ ∀ b ∈ bs, x < b.1 → b.1 ≤ m → leftN x (expR R).length st bs < leftN b.1 (expR R).length st bs)) ∧
    (∀ y ∈ expR (keepRuns m R st bs), y ∈ expR R ∨ st ≤ y)
  | bs, R, st, hb, h, h0, hm => by
    by_cases hall : ∀ b ∈ bs, m < b.1
    · have e : expR (keepRuns m R st bs) = expR R ++ seg st m := by rw [keep_skip hall, exp_wRun h]
      rw [e]
      refine ⟨fun i x hi => ⟨fun _ b hb h1 => ?_, fun _ => List.mem_append_left _ (List.mem_of_getElem? hi)⟩, fun x h1 h2 => ⟨fun _ b hb _ h1 => ?_, fun _ => List.mem_append_right _ (mem_seg.mpr ⟨h1, h2⟩)⟩, fun y hy => ?_⟩
      · have := hall b hb
        omega
      · have := hall b hb
        omega
      · rcases List.mem_append.mp hy with h | h
        · exact .inl h
        · exact .inr (mem_seg.mp h).1
    · cases bs with
      | nil => exact absurd (fun b hb => by cases hb) hall
      | cons b r =>
        obtain ⟨t, lap⟩ := b
        obtain ⟨hr, hlt⟩ := hb.tail
        have ht := hb.2 (t, lap) List.mem_cons_self
        have ht : st ≤ t ∧ 0 ≤ lap := ht
        have c : t ≤ m := Classical.byContradiction fun c => hall fun b hb => by
          rcases List.mem_cons.mp hb with rfl | hb
          · show m < t
            omega
          · have := hlt b hb
            omega
        have ok' := ok_wRun h ht.1 h0
        obtain ⟨eE, eN⟩ := less_len h ht.1 h0 ht.2
        have eup : (expR R ++ seg st t).Pairwise (· < ·) := by
          rw [← exp_wRun h]
          exact exp_up ok'
        have ek : keepRuns m R st ((t, lap) :: r) = keepRuns m (less (wRun R st t) lap) t r := by
          show (if t ≤ m then _ else _) = _
          rw [if_pos c]
        obtain ⟨ihO, ihN, ihS⟩ := keep_iff (bs := r) hr (ok_less ok' lap) (by omega : 0 ≤ t) c
        rw [ek]
        have eT : leftN t (expR R).length st ((t, lap) :: r) = ((expR (less (wRun R st t) lap)).length : Int) := by rw [left_at hlt, eN]
        have eB : ∀ y, t ≤ y → leftN y (expR R).length st ((t, lap) :: r) = leftN y ((expR (less (wRun R st t) lap)).length : Int) t r := fun y hy => by rw [left_behind hy, eN]
        -- of what stood there when the break came
        have old : ∀ (i : Nat) (x : Int), (expR R ++ seg st t)[i]? = some x → (x ∈ expR (keepRuns m (less (wRun R st t) lap) t r) ↔ ∀ b ∈ (t, lap) :: r, b.1 ≤ m → (i : Int) < leftN b.1 (expR R).length st ((t, lap) :: r)) := fun i x hi => by
          have hxt : x < t := by
            rcases List.mem_append.mp (List.mem_of_getElem? hi) with h2 | h2
            · obtain ⟨q, hq, h3⟩ := mem_exp.mp h2
              have := h.2 q hq
              omega
            · exact (mem_seg.mp h2).2
          have hmem := take_mem (k := (expR R ++ seg st t).length - lap.toNat) eup hi
          have hcut : expR (less (wRun R st t) lap) = (expR R ++ seg st t).take ((expR R ++ seg st t).length - lap.toNat) := eE
          have hlen : (expR (less (wRun R st t) lap)).length = (expR R ++ seg st t).length - lap.toNat := by
            rw [hcut, List.length_take]
            omega
          by_cases hin : i < (expR (less (wRun R st t) lap)).length
          · have hi' : (expR (less (wRun R st t) lap))[i]? = some x := by
              rw [hcut, List.getElem?_take, if_pos (by omega)]
              exact hi
            rw [ihO i x hi']
            constructor
            · intro hh b hb hbm
              rcases List.mem_cons.mp hb with rfl | hb
              · show (i : Int) < leftN t _ st _
                rw [eT]
                omega
              · rw [eB b.1 (Int.le_of_lt (hlt b hb))]
                exact hh b hb hbm
            · intro hh b hb hbm
              have := hh b (List.mem_cons_of_mem _ hb) hbm
              rw [eB b.1 (Int.le_of_lt (hlt b hb))] at this
              exact this
          · constructor
            · intro hx
              rcases ihS x hx with h2 | h2
              · rw [hcut] at h2
                have := hmem.mp h2
                omega
              · omega
            · intro hh
              have h1 := hh (t, lap) List.mem_cons_self c
              have h1 : (i : Int) < leftN t (expR R).length st ((t, lap) :: r) := h1
              rw [eT] at h1
              omega
        refine ⟨fun i x hi => ?_, fun x h1 h2 => ?_, fun y hy => ?_⟩
        · refine old i x ?_
          rw [List.getElem?_append_left (List.getElem?_eq_some_iff.mp hi).1]
          exact hi
        · by_cases cx : x < t
          · have hi : (expR R ++ seg st t)[(expR R).length + (x - st).toNat]? = some x := by
              rw [List.getElem?_append_right (by omega), Nat.add_sub_cancel_left]
              unfold seg
              rw [ft_get (by omega)]
              congr 1
              omega
            rw [old _ x hi]
            have el : leftN x (expR R).length st ((t, lap) :: r) = (((expR R).length + (x - st).toNat : Nat) : Int) := by
              rw [left_ahead fun b hb => ?_]
              · omega
              · rcases List.mem_cons.mp hb with rfl | hb
                · exact cx
                · have := hlt b hb
                  omega
            rw [el]
            constructor
            · intro hh b hb _ hbm
              exact hh b hb hbm
            · intro hh b hb hbm
              refine hh b hb ?_ hbm
              rcases List.mem_cons.mp hb with rfl | hb
              · exact cx
              · have := hlt b hb
                omega
          · rw [ihN x (by omega) h2]
            constructor
            · intro hh b hb hxb hbm
              rcases List.mem_cons.mp hb with rfl | hb
              · have hxb : x < t := hxb
                omega
              · rw [eB x (by omega), eB b.1 (Int.le_of_lt (hlt b hb))]
                exact hh b hb hxb hbm
            · intro hh b hb hxb hbm
              have := hh b (List.mem_cons_of_mem _ hb) hxb hbm
              rw [eB x (by omega), eB b.1 (Int.le_of_lt (hlt b hb))] at this
              exact this
        · rcases ihS y hy with h1 | h1
          · rw [eE] at h1
            unfold cutL' at h1
            rcases List.mem_append.mp (List.mem_of_mem_take h1) with h2 | h2
            · exact .inl h2
            · exact .inr (mem_seg.mp h2).1
          · exact .inr (by omega)
termination_by bs => bs.length
/-! ### runs told from moments -/
def runsOf (acc : Runs) (xs : List Int) : Runs := xs.foldl (fun R x => wRun R x (x + 1)) acc
theorem runs_ft : ∀ (n : Nat) (acc : Runs) (s : Int), (∀ r ∈ acc, r.2 < s) → runsOf acc (ft s (n + 1)) = acc ++ [(s, s + (n + 1 : Nat))]
  | 0, acc, s, h => by
    show wRun acc (s + ((0 : Nat) : Int)) (s + ((0 : Nat) : Int) + 1) = _
    rw [show s + ((0 : Nat) : Int) = s by omega]
    rcases snoc_of acc with rfl | ⟨A, a, b, rfl⟩
    · rw [wRun_nil (by omega)]
      rfl
    · have hb := h (a, b) (List.mem_append_right _ (List.mem_singleton.mpr rfl))
      have hb : b < s := hb
      rw [wRun_snoc (by omega), if_neg (by omega)]
      rfl
  | n + 1, acc, s, h => by
    have ih := runs_ft n acc s h
    rw [ft_succ]
    unfold runsOf at ih ⊢
    rw [List.foldl_append, ih]
    show wRun (acc ++ [(s, s + ((n + 1 : Nat) : Int))]) (s + ((n + 1 : Nat) : Int)) (s + ((n + 1 : Nat) : Int) + 1) = _
    rw [wRun_snoc (by omega), if_pos rfl, show s + ((n + 1 : Nat) : Int) + 1 = s + ((n + 1 + 1 : Nat) : Int) by omega]
theorem runs_exp : ∀ (R acc : Runs), R.Pairwise (fun a b => a.2 < b.1) → (∀ r ∈ R, r.1 < r.2) → (∀ r ∈ acc, ∀ q ∈ R, r.2 < q.1) → runsOf acc (expR R) = acc ++ R
  | [], acc, _, _, _ => (List.append_nil acc).symm
  | (s, e) :: A, acc, p, hp, h => by
    obtain ⟨p1, p2⟩ := List.pairwise_cons.mp p
    have hse : s < e := hp (s, e) List.mem_cons_self
    obtain ⟨n, hn⟩ : ∃ n : Nat, (e - s).toNat = n + 1 := ⟨(e - s).toNat - 1, by omega⟩
    rw [exp_cons]
    have e1 : seg s e = ft s (n + 1) := by
      unfold seg
      rw [hn]
    show runsOf acc (seg s e ++ expR A) = _
    rw [e1]
    unfold runsOf
    rw [List.foldl_append]
    have h1 := runs_ft n acc s fun r hr => h r hr (s, e) List.mem_cons_self
    unfold runsOf at h1
    rw [h1, show s + ((n + 1 : Nat) : Int) = e by omega]
    have ih := runs_exp A (acc ++ [(s, e)]) p2 (fun r hr => hp r (List.mem_cons_of_mem _ hr)) fun r hr q hq => by
      rcases List.mem_append.mp hr with hr | hr
      · exact h r hr q (List.mem_cons_of_mem _ hq)
      · rw [List.mem_singleton.mp hr]
        exact p1 q hq
    unfold runsOf at ih
    rw [ih, List.append_assoc]
    rfl
/-! ### promises -/
def RunsL (H : Hp) (a : Addr) (R : Runs) : Prop := ∃ as, H a = some (.lst (as.map V.ref)) ∧ TupsAt H as (R.map stepV)
theorem RunsL.same {H H' : Hp} {a : Addr} {R : Runs} (h : RunsL H a R) (s : Same H H') : RunsL H' a R := by
  obtain ⟨as, e, t⟩ := h
  exact ⟨as, s _ _ e, t.mono (Tups.same s)⟩
def spWithRun : Sp := fun vs H Q _ => ∃ (a : Addr) (R : Runs) (s e : Int), vs = [.ref a, .int s, .int e] ∧ RunsL H a R ∧ R.length ≤ 40 ∧ ∀ H' o, Same H H' → RunsL H' o (wRun R s e) → Q (.ref o) H'
def spWithout : Sp := fun vs H Q _ => ∃ (a : Addr) (R : Runs) (lap st : Int), vs = [.ref a, .int lap] ∧ RunsL H a R ∧ R.length ≤ 40 ∧ OkR R st ∧ ∀ H' o, Same H H' → RunsL H' o (less R lap) → Q (.ref o) H'
def keptOf (m : Int) (bs : List (Int × Int)) : Runs := keepRuns m [] 0 bs
def Brk (H : Hp) (b : Addr) (bs : List (Int × Int)) : Prop := BrAt H b bs ∧ bs.length ≤ 20 ∧ RiseB 0 bs
theorem Brk.same {H H' : Hp} {b : Addr} {bs : List (Int × Int)} (h : Brk H b bs) (s : Same H H') : Brk H' b bs := ⟨h.1.mono (Tups.same s), h.2⟩
def spKept : Sp := fun vs H Q _ => ∃ (m : Int) (b : Addr) (bs : List (Int × Int)), vs = [.int m, .ref b] ∧ Brk H b bs ∧ 0 ≤ m ∧ ∀ H' o, Same H H' → BrAt H' o (keptOf m bs) → (keptOf m bs).length ≤ 21 → Q (.ref o) H'
def spMomentOf : Sp := fun vs H Q _ => ∃ (i : Nat) (m : Int) (b : Addr) (bs : List (Int × Int)) (v : Int), vs = [.int i, .int m, .ref b] ∧ Brk H b bs ∧ 0 ≤ m ∧ (expR (keptOf m bs))[i]? = some v ∧ ∀ H', Same H H' → Q (.int v) H'
def spLeft : Sp := fun vs H Q _ => ∃ (m : Int) (b : Addr) (bs : List (Int × Int)), vs = [.int m, .ref b] ∧ Brk H b bs ∧ ∀ H', Same H H' → Q (.int (leftN m 0 0 bs)) H'
theorem wRun_len (R : Runs) (s e : Int) : (wRun R s e).length ≤ R.length + 1 := by
  by_cases c : e ≤ s
  · rw [wRun_no c]
    omega
  · rcases snoc_of R with rfl | ⟨A, a, b, rfl⟩
    · rw [wRun_nil c]
      exact Nat.le_refl _
    · rw [wRun_snoc c]
      split
      · rw [List.length_append, List.length_append]
        show A.length + 1 ≤ A.length + 1 + 1
        omega
      · rw [List.length_append]
        exact Nat.le_refl _
theorem lessR_len : ∀ (Q : Runs) (lap : Int), (lessR Q lap).length ≤ Q.length
  | [], _ => Nat.le_refl _
  | (s, e) :: r, lap => by
    unfold lessR
    split
    · exact Nat.le_refl _
    · split
      · exact Nat.le_refl _
      · exact Nat.le_trans (lessR_len r _) (Nat.le_succ _)
theorem less_len' (R : Runs) (lap : Int) : (less R lap).length ≤ R.length := by
  unfold less
  rw [List.length_reverse]
  have := lessR_len R.reverse lap
  rw [List.length_reverse] at this
  exact this
theorem tups_snoc {H : Hp} {as : List Addr} {A : Runs} {r : Int × Int} (h : TupsAt H as ((A ++ [r]).map stepV)) : ∃ cs c, as = cs ++ [c] ∧ TupsAt H cs (A.map stepV) ∧ H c = some (.tup (stepV r)) := by
  have hl : as.length = A.length + 1 := by rw [h.1, List.length_map, List.length_append]; rfl
  have hne : as ≠ [] := fun e => by rw [e] at hl; cases hl
  obtain ⟨cs, c, rfl⟩ : ∃ cs c, as = cs ++ [c] := ⟨_, _, (List.dropLast_concat_getLast hne).symm⟩
  have hcl : cs.length = A.length := by
    rw [List.length_append] at hl
    have : [c].length = 1 := rfl
    omega
  refine ⟨cs, c, rfl, ⟨by rw [List.length_map]; exact hcl, fun i a e => ?_⟩, ?_⟩
  · have hi : i < cs.length := (List.getElem?_eq_some_iff.mp e).1
    obtain ⟨xs, h1, h2⟩ := h.2 i a (by rw [List.getElem?_append_left hi]; exact e)
    rw [List.map_append, List.getElem?_append_left (by rw [List.length_map]; omega)] at h1
    exact ⟨xs, h1, h2⟩
  · obtain ⟨xs, h1, h2⟩ := h.2 cs.length c (by rw [List.getElem?_append_right (Nat.le_refl _), Nat.sub_self]; rfl)
    rw [List.map_append, List.getElem?_append_right (by rw [List.length_map]; omega), List.length_map, hcl, Nat.sub_self] at h1
    have : stepV r = xs := Option.some.inj h1
    rw [this]
    exact h2
theorem cutlast (xs : List V) (y : V) : cutV (xs ++ [y]) none (some (-1)) = xs := by
  unfold cutV HT.sIx
  simp
  rw [show (-1 + ((xs.length : Int) + 1)).toNat = xs.length by omega, List.take_left']
  all_goals rfl
theorem less_nil (lap : Int) : less [] lap = [] := rfl
theorem less_no {R : Runs} {lap : Int} (h : lap ≤ 0) : less R lap = R := by
  unfold less
  rcases snoc_of R with rfl | ⟨A, a, b, rfl⟩
  · rfl
  · rw [List.reverse_append]
    show (if lap ≤ 0 then (a, b) :: A.reverse else _).reverse = _
    rw [if_pos h, List.reverse_cons, List.reverse_reverse]
theorem less_snoc {A : Runs} {s e lap : Int} (h : ¬ lap ≤ 0) : less (A ++ [(s, e)]) lap = if s < e - lap then A ++ [(s, e - lap)] else less A (lap - (e - s)) := by
  unfold less
  rw [List.reverse_append]
  show (if lap ≤ 0 then (s, e) :: A.reverse else if s < e - lap then (s, e - lap) :: A.reverse else lessR A.reverse (lap - (e - s))).reverse = _
  rw [if_neg h]
  split
  · rw [List.reverse_cons, List.reverse_reverse]
  · rfl
theorem ok_head {A : Runs} {s e st : Int} (h : OkR (A ++ [(s, e)]) st) : OkR A st ∧ (0 ≤ s ∧ s < e ∧ e ≤ st) ∧ ∀ r ∈ A, r.2 < s := by
  obtain ⟨p, q⟩ := h
  obtain ⟨pA, _, pAb⟩ := List.pairwise_append.mp p
  exact ⟨⟨pA, fun r hr => q r (List.mem_append_left _ hr)⟩, q (s, e) (List.mem_append_right _ (List.mem_singleton.mpr rfl)), fun r hr => pAb r hr (s, e) (List.mem_singleton.mpr rfl)⟩
theorem wRun_apart {A : Runs} {s e : Int} (h : ∀ r ∈ A, r.2 < s) (c : ¬ e ≤ s) : wRun A s e = A ++ [(s, e)] := by
  rcases snoc_of A with rfl | ⟨B, a, b, rfl⟩
  · rw [wRun_nil c]
    rfl
  · have hb := h (a, b) (List.mem_append_right _ (List.mem_singleton.mpr rfl))
    have hb : b < s := hb
    rw [wRun_snoc c, if_neg (by omega)]
theorem less_step {A : Runs} {s e st lap : Int} (h : OkR (A ++ [(s, e)]) st) (hl : ¬ lap ≤ 0) : less (wRun A s (e - lap)) (lap - (e - s)) = less (A ++ [(s, e)]) lap ∧ OkR (wRun A s (e - lap)) st ∧ (wRun A s (e - lap)).length ≤ A.length + 1 ∧ (¬ s < e - lap → wRun A s (e - lap) = A) ∧ (s < e - lap → lap - (e - s) ≤ 0) := by
  obtain ⟨okA, hse, hA⟩ := ok_head h
  rw [less_snoc hl]
  by_cases c : s < e - lap
  · rw [if_pos c, wRun_apart hA (by omega), less_no (by omega)]
    refine ⟨rfl, ⟨List.pairwise_append.mpr ⟨okA.1, List.pairwise_singleton _ _, fun x hx y hy => ?_⟩, fun r hr => ?_⟩, by rw [List.length_append]; exact Nat.le_refl _, fun z => absurd c z, fun _ => by omega⟩
    · rw [List.mem_singleton.mp hy]
      exact hA x hx
    · rcases List.mem_append.mp hr with hr | hr
      · exact okA.2 r hr
      · rw [List.mem_singleton.mp hr]
        show 0 ≤ s ∧ s < e - lap ∧ e - lap ≤ st
        omega
  · rw [if_neg c, wRun_no (by omega)]
    exact ⟨rfl, okA, Nat.le_succ _, fun _ => rfl, fun z => absurd z c⟩
def spSomeBreaks34 : Sp := fun vs H Q _ => ∃ (p : Addr) (T : Nat) (most : Int) (far : Bool), vs = [.ref p, .int most, .bl far] ∧ PotC H p T ∧ T < 2 ^ 37 ∧ 0 ≤ most ∧ most ≤ 20 ∧
  ∀ H' o bs, PotC H' p (T + 50) → Keep p p H H' → BrAt H' o bs → GoodB bs → LapsOk bs → H o = none → (far = false → ∀ b ∈ bs, b.1 ≤ 270) → Q (.ref o) H'
theorem brk_of {H : Hp} {b : Addr} {bs : List (Int × Int)} (h : BrAt H b bs) (g : GoodB bs) (l : LapsOk bs) : Brk H b bs := ⟨h, g.1, g.2.1, fun x hx => ⟨(g.2.2 x hx).1, l x hx⟩⟩
/-- moments stood, moment by moment -/
def stoodOf (m : Int) (bs : List (Int × Int)) : List Int := cutL' (stG [] 0 bs m.toNat) (lapAt m bs)
theorem stood_kept {m : Int} {bs : List (Int × Int)} (h : RiseB 0 bs) (h0 : 0 ≤ m) : expR (keptOf m bs) = stoodOf m bs := by
  unfold keptOf stoodOf
  rw [keep_stood h (OkR.nil 0) (Int.le_refl _) h0, Int.sub_zero]
  rfl
theorem left_kept {m : Int} {bs : List (Int × Int)} (h : RiseB 0 bs) (h0 : 0 ≤ m) : ((expR (keptOf m bs)).length : Int) = leftN m 0 0 bs := keep_len h (OkR.nil 0) (Int.le_refl _) h0
theorem kept_ok {m : Int} {bs : List (Int × Int)} (h : RiseB 0 bs) (h0 : 0 ≤ m) : OkR (keptOf m bs) m := keep_ok h (OkR.nil 0) (Int.le_refl _) h0
theorem kept_iff {m x : Int} {bs : List (Int × Int)} (h : RiseB 0 bs) (h0 : 0 ≤ m) (x0 : 0 ≤ x) (x1 : x < m) : x ∈ expR (keptOf m bs) ↔ ∀ b ∈ bs, x < b.1 → b.1 ≤ m → leftN x 0 0 bs < leftN b.1 0 0 bs := (keep_iff h (OkR.nil 0) (Int.le_refl _) h0).2.1 x x0 x1
theorem stG_len (E : List Int) (st : Int) (bs : List (Int × Int)) : ∀ n : Nat, (stG E st bs n).length ≤ E.length + n
  | 0 => Nat.le_refl _
  | n + 1 => by
    show (cutL' (stG E st bs n) _ ++ [_]).length ≤ _
    rw [List.length_append]
    unfold cutL'
    rw [List.length_take]
    have := stG_len E st bs n
    show min _ _ + 1 ≤ _
    omega
def spStood34 : Sp := fun vs H Q _ => ∃ (m : Int) (b : Addr) (bs : List (Int × Int)), vs = [.int m, .ref b] ∧ Brk H b bs ∧ 0 ≤ m ∧ m ≤ 900 ∧ ∀ H' o, Same H H' → H' o = some (.lst ((stoodOf m bs).map V.int)) → (stoodOf m bs).length ≤ 1000 → Q (.ref o) H'
def spRunsOf : Sp := fun vs H Q _ => ∃ (a : Addr) (xs : List Int), vs = [.ref a] ∧ H a = some (.lst (xs.map V.int)) ∧ xs.length ≤ 1000 ∧ (∀ x ∈ xs, 0 ≤ x ∧ x < 2 ^ 200) ∧ ∀ H' o, Same H H' → BrAt H' o (runsOf [] xs) → Q (.ref o) H'
def spNear34 : Sp := fun vs H Q _ => ∃ (m : Int) (b : Addr) (bs : List (Int × Int)), vs = [.int m, .ref b] ∧ Brk H b bs ∧ 0 ≤ m ∧ m ≤ 900 ∧ ∀ H', Same H H' → Q (.bl true) H'
def spIsKept : Sp := fun vs H Q _ => ∃ (x m : Int) (b : Addr) (bs : List (Int × Int)) (k : Bool), vs = [.int x, .int m, .ref b] ∧ Brk H b bs ∧ (k = true ↔ ∀ b ∈ bs, x < b.1 → b.1 ≤ m → leftN x 0 0 bs < leftN b.1 0 0 bs) ∧ ∀ H', Same H H' → Q (.bl k) H'
def spFar34 : Sp := fun vs H Q _ => ∃ (m : Int) (b : Addr) (bs : List (Int × Int)), vs = [.int m, .ref b] ∧ Brk H b bs ∧ 0 ≤ m ∧ ∀ H', Same H H' → Q (.bl true) H'
theorem lap_nonneg {now : Int} : ∀ {bs : List (Int × Int)}, (∀ b ∈ bs, 0 ≤ b.2) → 0 ≤ lapAt now bs
  | [], _ => Int.le_refl _
  | (t, l) :: r, h => by
    show 0 ≤ if t = now then l else lapAt now r
    split
    · exact h (t, l) List.mem_cons_self
    · exact lap_nonneg fun b hb => h b (List.mem_cons_of_mem _ hb)
theorem cut_slice (xs : List Int) {lap : Int} (h : 0 ≤ lap) : cutV (xs.map V.int) none (some (if ((xs.map V.int).length : Int) - lap > 0 then ((xs.map V.int).length : Int) - lap else 0)) = (cutL' xs lap).map V.int := by
  obtain ⟨k, hk, ek⟩ : ∃ k : Nat, (if ((xs.map V.int).length : Int) - lap > 0 then ((xs.map V.int).length : Int) - lap else 0) = (k : Int) ∧ k = xs.length - lap.toNat := by
    rw [List.length_map]
    refine ⟨xs.length - lap.toNat, ?_, rfl⟩
    split <;> omega
  rw [hk, cut_take, ek, ← List.map_take]
  rfl
def prD (r : Int × Int) : PyData := .tuple [.int r.1, .int r.2]
theorem runs_dp {K : PySem.W.Frag} {H : Hp} {as : List Addr} {R : Runs} (t : TupsAt H as (R.map stepV)) : DpAll K H (as.map V.ref) (R.map prD) := tups_dp t
theorem runs_shaped {R : Runs} (h : ∀ r ∈ R, 0 ≤ r.1 ∧ r.1 < 2 ^ 250 ∧ 0 ≤ r.2 ∧ r.2 < 2 ^ 250) : SeqAt.shaped (.list (R.map prD)) = true ∧ SeqAt.shaped (.tuple (R.map prD)) = true := by
  have sh : ∀ x ∈ R.map prD, Sh x := fun x hx => by
    obtain ⟨r, hr, rfl⟩ := List.mem_map.mp hx
    obtain ⟨h1, h2, h3, h4⟩ := h r hr
    refine .tup fun y hy => ?_
    simp only [List.mem_cons, List.not_mem_nil, or_false] at hy
    rcases hy with rfl | rfl
    · exact .int (log_lt h1 h2)
    · exact .int (log_lt h3 h4)
  have dep : PyData.depthAll (R.map prD) ≤ 1 := depth_all fun x hx => by
    obtain ⟨r, hr, rfl⟩ := List.mem_map.mp hx
    exact Nat.le_refl _
  exact ⟨(Sh.lst sh).shaped (Nat.le_trans (Nat.succ_le_succ dep) (by decide)), (Sh.tup sh).shaped (Nat.le_trans (Nat.succ_le_succ dep) (by decide))⟩
theorem wRun_bd {R : Runs} {x : Int} (h : ∀ r ∈ R, 0 ≤ r.1 ∧ r.1 < 2 ^ 250 ∧ 0 ≤ r.2 ∧ r.2 < 2 ^ 250) (x0 : 0 ≤ x) (x1 : x < 2 ^ 200) : ∀ r ∈ wRun R x (x + 1), 0 ≤ r.1 ∧ r.1 < 2 ^ 250 ∧ 0 ≤ r.2 ∧ r.2 < 2 ^ 250 := fun r hr => by
  have big : (2 : Int) ^ 200 + 1 < 2 ^ 250 := by decide
  rcases snoc_of R with rfl | ⟨A, a, b, rfl⟩
  · rw [wRun_nil (by omega)] at hr
    rw [List.mem_singleton.mp hr]
    show 0 ≤ x ∧ x < 2 ^ 250 ∧ 0 ≤ x + 1 ∧ x + 1 < 2 ^ 250
    omega
  · rw [wRun_snoc (by omega)] at hr
    have hab := h (a, b) (List.mem_append_right _ (List.mem_singleton.mpr rfl))
    have hab : 0 ≤ a ∧ a < 2 ^ 250 ∧ 0 ≤ b ∧ b < 2 ^ 250 := hab
    split at hr
    · rcases List.mem_append.mp hr with hr | hr
      · exact h r (List.mem_append_left _ hr)
      · rw [List.mem_singleton.mp hr]
        show 0 ≤ a ∧ a < 2 ^ 250 ∧ 0 ≤ x + 1 ∧ x + 1 < 2 ^ 250
        omega
    · rcases List.mem_append.mp hr with hr | hr
      · exact h r hr
      · rw [List.mem_singleton.mp hr]
        show 0 ≤ x ∧ x < 2 ^ 250 ∧ 0 ≤ x + 1 ∧ x + 1 < 2 ^ 250
        omega
theorem runsOf_snoc (xs : List Int) (x : Int) : runsOf [] (xs ++ [x]) = wRun (runsOf [] xs) x (x + 1) := by
  unfold runsOf
  rw [List.foldl_append]
  rfl
/-! ### a < b < c <= d as a test -/
section
variable {X : Cx} {ea eb ec ed : Expr} {ta tb tc td : TE} {pos : Pos}
def tLinks (r1 r2 r3 : R2) (ta tb tc td : TE) : TT := fun σ H Q => ta σ H fun x H1 => tb σ H1 fun y H2 => r1 x y H2 fun z H3 => ∃ k, z = .bl k ∧
  if k = true then tc σ H3 fun y2 H4 => r2 y y2 H4 fun z2 H5 => ∃ k2, z2 = .bl k2 ∧ (if k2 = true then td σ H5 fun y3 H6 => r3 y2 y3 H6 fun z3 H7 => ∃ k3, z3 = .bl k3 ∧ Q k3 H7 else Q false H5) else Q false H3
theorem pt_links {o1 o2 o3 : CmpOp} {r1 r2 r3 : R2} (h1 : OpR X (compareOp o1) r1) (h2 : OpR X (compareOp o2) r2) (h3 : OpR X (compareOp o3) r3) (ha : PE X ea ta) (hb : PE X eb tb) (hc : PE X ec tc) (hd : PE X ed td)
    (nm : lastMarks [o1, o2, o3] [eb, ec, ed] = false := by with_unfolding_all rfl) : PT X (.Compare ea [o1, o2, o3] [eb, ec, ed] pos) (tLinks r1 r2 r3 ta tb tc td) := by
  refine ⟨fun pins s σ H Q I w => ?_⟩
  refine isTrue_chain (thn (ha.run pins s σ H _ I w) fun v1 t1 ⟨x1, G1, J1, a1, b1⟩ => test_link (thn (hb.run pins t1 σ G1 _ J1 b1) fun v2 t2 ⟨x2, G2, J2, a2, b2⟩ =>
    thn (h1 pins t2 σ G2 x1 x2 v1 v2 _ J2 a1 a2 b2) fun d t3 ⟨z, G3, J3, a3, k, e, b3⟩ => ?_)) nm
  subst e
  cases a3
  refine wpAny_truthy_bool ?_
  cases k with
  | false => exact ite_ff ⟨G3, J3, b3⟩
  | true =>
    refine ite_tt (test_link (thn (hc.run pins t3 σ G3 _ J3 b3) fun v4 t4 ⟨x4, G4, J4, a4, b4⟩ => thn (h2 pins t4 σ G4 x2 x4 v2 v4 _ J4 a2 a4 b4) fun d5 t5 ⟨z5, G5, J5, a5, k5, e5, b5⟩ => ?_))
    subst e5
    cases a5
    refine wpAny_truthy_bool ?_
    cases k5 with
    | false => exact ite_ff ⟨G5, J5, b5⟩
    | true =>
      refine ite_tt (test_last (thn (hd.run pins t5 σ G5 _ J5 b5) fun v6 t6 ⟨x6, G6, J6, a6, b6⟩ => thn (h3 pins t6 σ G6 x4 x6 v4 v6 _ J6 a4 a6 b6) fun d7 t7 ⟨z7, G7, J7, a7, k7, e7, b7⟩ => ?_))
      subst e7
      cases a7
      exact wpAny_truthy_bool ⟨G7, J7, b7⟩
end
theorem ints_ld {K : PySem.W.Frag} {H : Hp} {a b : Addr} {ns : List Int} {Q : VK} (ha : H a = some (.lst (ns.map V.int))) (hb : H b = some (.lst (ns.map V.int))) (q : Q (.bl true) H) : rEqD K (.ref a) (.ref b) H Q := by
  have sh : SeqAt.shaped (.list (ns.map PyData.int)) = true := by
    refine Bool.and_eq_true_iff.mpr ⟨can_all fun x hx => ?_, decide_eq_true (Nat.le_trans (Nat.succ_le_succ (depth_all (n := 0) fun x hx => ?_)) (by decide))⟩
    · obtain ⟨n, _, rfl⟩ := List.mem_map.mp hx
      rfl
    · obtain ⟨n, _, rfl⟩ := List.mem_map.mp hx
      exact Nat.le_refl _
  refine ⟨_, _, .lst (SqL.of ha) (ints_dp ns), .lst (SqL.of hb) (ints_dp ns), sh, sh, ?_⟩
  rw [SeqAt.eqv_refl _ (Bool.and_eq_true_iff.mp sh).1]
  exact q
theorem runs_ne {K : PySem.W.Frag} {H : Hp} {a b : Addr} {R : Runs} {Q : VK} (ha : BrAt H a R) (hb : BrAt H b R) (h : ∀ r ∈ R, 0 ≤ r.1 ∧ r.1 < 2 ^ 250 ∧ 0 ≤ r.2 ∧ r.2 < 2 ^ 250) (q : Q (.bl false) H) : rNeD K (.ref a) (.ref b) H Q := by
  obtain ⟨as, ea, ta⟩ := ha
  obtain ⟨bs, eb, tb⟩ := hb
  have sh := (runs_shaped h).2
  refine ⟨_, _, .tup (SqT.of ea) (runs_dp ta), .tup (SqT.of eb) (runs_dp tb), sh, sh, ?_⟩
  rw [SeqAt.eqv_refl _ (Bool.and_eq_true_iff.mp sh).1]
  exact q
theorem sum_runs : ∀ {R : Runs}, (∀ r ∈ R, r.1 < r.2) → (R.map fun r => r.2 - r.1).sum = ((expR R).length : Int)
  | [], _ => rfl
  | r :: A, h => by
    have h1 := h r List.mem_cons_self
    rw [List.map_cons, List.sum_cons, sum_runs fun x hx => h x (List.mem_cons_of_mem _ hx), exp_cons, List.length_append, seg_len]
    omega
theorem exp_split {R : Runs} {j : Nat} {s e : Int} (h : R[j]? = some (s, e)) : expR R = expR (R.take j) ++ (seg s e ++ expR (R.drop (j + 1))) := by
  have : R = R.take j ++ ((s, e) :: R.drop (j + 1)) := by rw [← drop_cons h, List.take_append_drop]
  rw [show expR R = expR (R.take j ++ ((s, e) :: R.drop (j + 1))) by rw [← this], exp_app]
  rfl
theorem exp_nth {R : Runs} {j k : Nat} {s e : Int} (h : R[j]? = some (s, e)) (hk : (k : Int) < e - s) : (expR R)[(expR (R.take j)).length + k]? = some (s + k) := by
  rw [exp_split h, List.getElem?_append_right (by omega), Nat.add_sub_cancel_left, List.getElem?_append_left (by rw [seg_len]; omega)]
  unfold seg
  exact ft_get (by omega)
theorem exp_more {R : Runs} {j : Nat} {s e : Int} (h : R[j]? = some (s, e)) : (expR (R.take (j + 1))).length = (expR (R.take j)).length + (e - s).toNat := by
  rw [List.take_add_one, h]
  show (expR (R.take j ++ [(s, e)])).length = _
  rw [exp_app, exp_one, List.length_append, seg_len]
theorem ok_next {R : Runs} {st : Int} (h : OkR R st) {j : Nat} {a b : Int × Int} (ha : R[j]? = some a) (hb : R[j + 1]? = some b) : a.2 < b.1 := by
  obtain ⟨a1, a2⟩ := List.getElem?_eq_some_iff.mp ha
  obtain ⟨b1, b2⟩ := List.getElem?_eq_some_iff.mp hb
  have := List.pairwise_iff_getElem.mp h.1 j (j + 1) a1 b1 (by omega)
  rw [a2, b2] at this
  exact this
section
variable {P : Program} {w : World} {K : PySem.W.Frag} {mg : Str → Option Value} {base : Heap}
theorem ok_spans_of {f : Addr} {fd : FuncData} {k : Nat} (F : Fun K "spans_of" "spans_of" s_spans_of f fd) (bi : Bi mg) : FnOk P w K mg base CX0 (k + 1) f fd P_spans_of spSpans := by
  refine F.ok sc_spans_of (fun vs H Q E h => ?_) (fun cdv A outer s H vs Q E hr h => ?_)
  · obtain ⟨b, bs, rfl, _⟩ := h
    rfl
  · obtain ⟨b, bs, rfl, ⟨as, eb, tb⟩, hl, q⟩ := h
    refine ⟨_, (pss_cons (ps_set (i := 1) sc_spans_of.nd rfl (.inl rfl) (pe_lst pa_nil))
    (pss_cons (ps_asg2 pe_int (pg_name (i := 2) sc_spans_of.nd rfl (.inl rfl)) (pg_name (i := 3) sc_spans_of.nd rfl (.inl rfl)))
    (pss_cons (ps_for PassesOwn.never rfl (pi_tup (pv 0)) (pg_tup rfl (pgs_cons (pg_name (i := 4) sc_spans_of.nd rfl (.inl rfl)) (pgs_cons (pg_name (i := 5) sc_spans_of.nd rfl (.inl rfl)) pgs_nil)))
      (pss_cons (ps_expr (pe_bm PySem.F.plainAttrs_list PySem.F.slot_list_append PySem.F.type_list_append mt_append (pv 1) (pa_cons (pe_tup (pa_cons (pv 2) (pa_cons (pv 4) (pa_cons (pv 3) pa_nil)))) pa_nil)))
        (pss_cons (ps_set (i := 3) sc_spans_of.nd rfl (.inl rfl) (pe_callB (call_max2 rfl) (by rfl) bi.m_max (by decide +kernel) (pa_cons pe_int (pa_cons (pe_op op_sub (pe_op op_sub (pe_op op_add (pv 3) (pv 4)) (pv 2)) (pv 5)) pa_nil))))
        (pss_one (ps_set (i := 2) sc_spans_of.nd rfl (.inl rfl) (pv 4))))))
    (pss_cons (ps_expr (pe_bm PySem.F.plainAttrs_list PySem.F.slot_list_append PySem.F.type_list_append mt_append (pv 1) (pa_cons (pe_tup (pa_cons (pv 2) (pa_cons pe_non (pa_cons (pv 3) pa_nil)))) pa_nil)))
    (pss_one (ps_ret (pv 1))))))), ?_⟩
    have hal : as.length = bs.length := by rw [tb.1, List.length_map]
    refine ⟨Nat.zero_le _, fun R nR => ?_⟩
    have sR : Same H (upd H R (.lst [])) := same_new (Same.refl _) nR
    have eR : upd H R (.lst []) R = some (.lst []) := upd_same
    generalize upd H R (.lst []) = H0 at sR eR
    refine ⟨_, rfl, b, rfl, ⟨_, SqT.of (sR _ _ eb)⟩, for_tup (xs := as.map V.ref) (fun i σ' H' => ∃ (x4 x5 : Option V) (st n : Int) (cs : List Addr) (pre : List (Int × Option Int × Int)), σ' = [some (.ref b), some (.ref R), some (.int st), some (.int n), x4, x5] ∧ Same H H' ∧ H' R = some (.lst (cs.map V.ref)) ∧ TupsAt H' cs (pre.map spanV) ∧ pre.length = i ∧ pre ++ spans st n (bs.drop i) = spans 0 0 bs) ⟨_, _, 0, 0, [], [], rfl, sR, eR, TupsAt.nil, rfl, rfl⟩ (fun i σ' H' hi hm => ?_) (fun i x σ' H' hx hm => ?_) (fun σ' H' hm => ?_)⟩
    · obtain ⟨x4, x5, st, n, cs, pre, rfl, sm, _⟩ := hm
      exact SqT.of (sm _ _ eb)
    · obtain ⟨x4, x5, st, n, cs, pre, rfl, sm, eRi, tc, hp, hd⟩ := hm
      obtain ⟨c, t, g, rfl, ep, ec⟩ := step_get tb hx
      have hi : i < bs.length := (List.getElem?_eq_some_iff.mp ep).1
      have hcl : cs.length = i := by rw [tc.1, List.length_map, hp]
      rw [drop_cons ep] at hd
      refine ⟨c, _, rfl, SqT.of (sm _ _ ec), rfl, _, _, rfl, _, _, rfl, rfl, ?_⟩
      refine ⟨_, rfl, .inl ⟨rfl, _, SqL.of eRi⟩, _, rfl, _, rfl, _, rfl, (by show 3 ≤ sizeLine; decide), fun z nz => ?_⟩
      have eRz := (upd_ne (o := .tup [.int st, .int t, .int n]) (ne_of_none eRi nz)).trans eRi
      have sz : Same H (upd H' z (.tup [.int st, .int t, .int n])) := same_new sm nz
      refine ⟨R, _, _, rfl, rfl, eRz, (by rw [List.length_map]; exact small1000 (by omega)), ?_⟩
      refine ⟨_, rfl, _, rfl, _, _, rfl, rfl, _, rfl, _, _, rfl, rfl, _, rfl, _, _, rfl, rfl, _, _, rfl, ?_⟩
      refine ⟨_, rfl, _, _, t, mx0 (n + t - st - g), cs ++ [z], pre ++ [(st, some t, n)], rfl, same_mine sz nR, ?_, ?_, by rw [List.length_append, hp]; rfl, ?_⟩
      · rw [upd_same, List.map_append]
        rfl
      · rw [List.map_append]
        exact ((tc.mono (Tups.new nz)).snoc (show upd H' z (.tup [.int st, .int t, .int n]) z = some (.tup (spanV (st, some t, n))) from upd_same)).mono (Tups.ls eRz)
      · rw [List.append_assoc]
        exact hd
    · obtain ⟨x4, x5, st, n, cs, pre, rfl, sm, eRi, tc, hp, hd⟩ := hm
      rw [List.length_map, hal] at hp hd
      rw [List.drop_length] at hd
      have hcl : cs.length ≤ 20 := by
        rw [tc.1, List.length_map, hp]
        exact hl
      refine ⟨_, rfl, .inl ⟨rfl, _, SqL.of eRi⟩, _, rfl, _, rfl, (by show 3 ≤ sizeLine; decide), fun z nz => ?_⟩
      have eRz := (upd_ne (o := .tup [.int st, .non, .int n]) (ne_of_none eRi nz)).trans eRi
      have sz : Same H (upd H' z (.tup [.int st, .non, .int n])) := same_new sm nz
      refine ⟨R, _, _, rfl, rfl, eRz, (by rw [List.length_map]; exact small1000 (by omega)), ?_⟩
      refine ⟨_, rfl, q _ R (cs ++ [z]) (same_mine sz nR) nR ?_ ?_⟩
      · rw [upd_same, List.map_append]
        rfl
      · rw [← hd, List.map_append]
        exact ((tc.mono (Tups.new nz)).snoc (show upd H' z (.tup [.int st, .non, .int n]) z = some (.tup (spanV (st, none, n))) from upd_same)).mono (Tups.ls eRz)
theorem ok_left {f fS : Addr} {fd fdS : FuncData} (F : Fun K "left" "left" s_left f fd) (bi : Bi mg) (C_spans_of : Cal P w K mg base "spans_of" P_spans_of 1 spSpans fS fdS) : FnOk P w K mg base CX0 2 f fd P_left spLeft := by
  refine F.ok sc_left (fun vs H Q E h => ?_) (fun cdv A outer s H vs Q E hr h => ?_)
  · obtain ⟨m, b, bs, rfl, _⟩ := h
    rfl
  · obtain ⟨m, b, bs, rfl, hb, q⟩ := h
    refine ⟨_, (pss_one (ps_for PassesOwn.never rfl (pi_list (pe_call (C_spans_of.G.mono (by decide)) hr (by rfl) C_spans_of.g C_spans_of.kp C_spans_of.b .nil pass0 (pa_cons (pv 1) pa_nil))) (pg_tup rfl (pgs_cons (pg_name (i := 2) sc_left.nd rfl (.inl rfl)) (pgs_cons (pg_name (i := 3) sc_left.nd rfl (.inl rfl)) (pgs_cons (pg_name (i := 4) sc_left.nd rfl (.inl rfl)) pgs_nil))))
      (pss_one (ps_if (pw_or (pt_cmpR op_isN (pv 3) pe_non (nomark _)) (pw_or1 (pt_cmpR op_lt (pv 0) (pv 3) (nomark _)))).pt
          (pss_one (ps_ret (pe_op op_sub (pe_op op_add (pv 4) (pv 0)) (pv 2))))
          pss_nil)))), ?_⟩
    refine ⟨_, rfl, b, bs, rfl, hb.1, hb.2.1, fun H1 o as s1 no eo ta => ?_⟩
    refine ⟨o, rfl, ⟨_, SqL.of eo⟩, for_list (xs := as.map V.ref) (fun i σ' H' => H' = H1 ∧ ∃ (x2 x3 x4 : Option V), σ' = [some (.int m), some (.ref b), x2, x3, x4] ∧ (i < (spans 0 0 bs).length ∧ ∃ (st n : Int) (r : List (Int × Int)), (spans 0 0 bs).drop i = spans st n r ∧ leftN m n st r = leftN m 0 0 bs)) ⟨rfl, _, _, _, rfl, List.length_pos_iff.mpr (spans_ne 0 0 bs), 0, 0, bs, rfl, rfl⟩ (fun i σ' H' hi hm => ?_) (fun i x σ' H' hx hm => ?_) (fun σ' H' hm => ?_)⟩
    · obtain ⟨rfl, _⟩ := hm
      exact SqL.of eo
    · obtain ⟨rfl, x2, x3, x4, rfl, hlt, st, n, r, hd, hc⟩ := hm
      obtain ⟨c, st', m', n', rfl, ep, ec⟩ := span_get ta hx
      rw [drop_cons ep] at hd
      refine ⟨c, _, rfl, SqT.of ec, rfl, _, _, rfl, _, _, rfl, _, _, rfl, rfl, ?_⟩
      have fin : leftN m 0 0 bs = n' + m - st' → Q (.int (n' + m - st')) H' := fun e => by
        have := q _ s1
        rw [e] at this
        exact this
      cases r with
      | nil =>
        have e := (List.cons.inj hd).1
        injection e with e1 e2
        injection e2 with e2 e3
        subst e1
        subst e2
        subst e3
        refine ⟨_, rfl, rfl, _, rfl, ?_⟩
        refine iteT ?_
        exact ⟨_, rfl, _, rfl, _, _, rfl, rfl, _, rfl, _, _, rfl, rfl, fin (by rw [← hc]; rfl)⟩
      | cons b' r =>
        obtain ⟨t, lap⟩ := b'
        have hd : (st', m', n') :: (spans 0 0 bs).drop (i + 1) = (st, some t, n) :: spans t (mx0 (n + t - st - lap)) r := hd
        obtain ⟨e, hd2⟩ := List.cons.inj hd
        injection e with e1 e2
        injection e2 with e2 e3
        subst e1
        subst e2
        subst e3
        have hc : (if m < t then n' + m - st' else leftN m (mx0 (n' + t - st' - lap)) t r) = leftN m 0 0 bs := hc
        refine ⟨_, rfl, rfl, _, rfl, ?_⟩
        refine iteF ?_
        refine ⟨_, rfl, _, rfl, _, _, rfl, rfl, _, rfl, ite2 (fun ea => ?_) (fun ea => ?_)⟩
        · have ea : m < t := of_decide_eq_true ea
          rw [if_pos ea] at hc
          exact ⟨_, rfl, _, rfl, _, _, rfl, rfl, _, rfl, _, _, rfl, rfl, fin hc.symm⟩
        · have ea : ¬ m < t := fun h => ea (decide_eq_true h)
          rw [if_neg ea] at hc
          have hne := spans_ne t (mx0 (n' + t - st' - lap)) r
          rw [← hd2] at hne
          refine ⟨rfl, _, _, _, rfl, ?_, t, mx0 (n' + t - st' - lap), r, hd2, hc⟩
          rcases Nat.lt_or_ge (i + 1) (spans 0 0 bs).length with z | z
          · exact z
          · exact absurd (List.drop_eq_nil_iff.mpr z) hne
    · obtain ⟨rfl, x2, x3, x4, rfl, hlt, _⟩ := hm
      have h1 := ta.1
      rw [List.length_map] at h1 hlt
      omega
theorem ok_with_run {f : Addr} {fd : FuncData} {k : Nat} (F : Fun K "with_run" "with_run" s_with_run f fd) (bi : Bi mg) : FnOk P w K mg base CX0 (k + 1) f fd P_with_run spWithRun := by
  refine F.ok sc_with_run (fun vs H Q E h => ?_) (fun cdv A outer s H vs Q E hr h => ?_)
  · obtain ⟨a, R, s, e, rfl, _⟩ := h
    rfl
  · obtain ⟨a, R, st, en, rfl, hR, hl, q⟩ := h
    refine ⟨_, (pss_cons (ps_if (pt_cmpR op_ge (pv 1) (pv 2) (nomark _))
      (pss_one (ps_ret (pv 0)))
      pss_nil)
    (C8.pss_cut (ps_if (pw_and (pt_truth (pv 0) (by intro _; rfl)) (pw_and1 (pt_cmpR op_eq (pe_ix ix_tup (pe_ix ix_list (pv 0) (pe_un un_neg pe_int) (fun _ _ => rfl)) pe_int (fun _ _ => rfl)) (pv 1) (nomark _)))).pt
      (pss_one (ps_ret (pe_op op_cat (pe_slice sl_list (pv 0) po_none (po_some (pe_un un_neg pe_int))) (pe_lst (pa_cons (pe_tup (pa_cons (pe_ix ix_tup (pe_ix ix_list (pv 0) (pe_un un_neg pe_int) (fun _ _ => rfl)) pe_int (fun _ _ => rfl)) (pa_cons (pv 2) pa_nil))) pa_nil)))))
      pss_nil)
    (pss_one (ps_ret (pe_op op_cat (pv 0) (pe_lst (pa_cons (pe_tup (pa_cons (pv 1) (pa_cons (pv 2) pa_nil))) pa_nil))))))), ?_⟩
    refine ⟨_, rfl, _, rfl, _, _, rfl, rfl, _, rfl, ite2 (fun e => ?_) (fun e => ?_)⟩
    · have e : en ≤ st := of_decide_eq_true e
      refine ⟨_, rfl, q H a (Same.refl _) ?_⟩
      rw [wRun_no e]
      exact hR
    have e : ¬ en ≤ st := fun h => e (decide_eq_true h)
    obtain ⟨as, ea, ta⟩ := hR
    have hal : as.length ≤ 40 := by rw [ta.1, List.length_map]; exact hl
    have fresh : (∀ H' o, Same H H' → RunsL H' o (R ++ [(st, en)]) → Q (.ref o) H') → tRet (tOp rCat (tVar 0) (tLst (tCons (tTup (tCons (tVar 1) (tCons (tVar 2) tNil))) tNil))) { nx := fun x H' => Q V.non H', rt := Q } (L2.start N_with_run [V.ref a, V.int st, V.int en]) H := fun q => by
      refine ⟨_, rfl, _, rfl, _, rfl, (by show 2 ≤ sizeLine; decide), fun z nz => ⟨(by show 1 ≤ sizeLine; decide), fun y ny => ?_⟩⟩
      have sz : Same H (upd H z (.tup [.int st, .int en])) := same_new (Same.refl _) nz
      have ez : upd H z (.tup [.int st, .int en]) z = some (.tup [.int st, .int en]) := upd_same
      generalize upd H z (.tup [.int st, .int en]) = H1 at sz ez ny
      have sy : Same H1 (upd H1 y (.lst [.ref z])) := same_new (Same.refl _) ny
      have ey : upd H1 y (.lst [.ref z]) y = some (.lst [.ref z]) := upd_same
      generalize upd H1 y (.lst [.ref z]) = H2 at sy ey
      have s2 := sz.trans sy
      refine ⟨a, y, _, _, rfl, rfl, s2 _ _ ea, ey, Nat.le_of_lt (small1000 (by rw [List.length_map]; show as.length + 1 ≤ 1000; omega)), fun o no => ?_⟩
      refine q _ o (same_new s2 no) ⟨as ++ [z], ?_, ?_⟩
      · rw [upd_same, List.map_append]
        rfl
      · rw [List.map_append]
        exact ((ta.mono (Tups.same s2)).snoc (show H2 z = some (.tup (stepV (st, en))) from sy _ _ ez)).mono (Tups.new no)
    refine ⟨fun σ' H' => σ' = L2.start N_with_run [V.ref a, V.int st, V.int en] ∧ H' = H ∧ wRun R st en = R ++ [(st, en)], ?_, fun σ' H' hm => ?_⟩
    · rcases snoc_of R with rfl | ⟨A, a1, b1, rfl⟩
      · have : as = [] := List.eq_nil_of_length_eq_zero ta.1
        subst this
        exact ⟨_, rfl, _, .inl ⟨_, SqL.of ea, rfl⟩, iteF ⟨rfl, rfl, wRun_nil e⟩⟩
      · obtain ⟨cs, c, rfl, tc, ec⟩ := tups_snoc ta
        have hem : (!((cs ++ [c]).map V.ref).isEmpty) = true := by
          rw [List.map_append]
          cases cs <;> rfl
        refine ⟨_, rfl, true, .inl ⟨_, SqL.of ea, hem.symm⟩, iteT ?_⟩
        have eal : atI ((cs ++ [c]).map V.ref) (-1) = some (.ref c) := by
          rw [List.map_append]
          exact atI_last _ _
        refine ⟨_, rfl, _, rfl, a, _, _, _, rfl, rfl, SqL.of ea, eal, c, _, _, _, rfl, rfl, SqT.of ec, atI_nat (j := 1) rfl, _, rfl, rfl, _, rfl, ite2 (fun e2 => ?_) (fun e2 => ?_)⟩
        · have e2 : b1 = st := by
            have := of_decide_eq_true e2
            injection this
          subst e2
          refine ⟨_, rfl, _, rfl, _, rfl, a, _, rfl, SqL.of ea, fun z nz => ?_⟩
          have ecut : cutV ((cs ++ [c]).map V.ref) none (some (-1)) = cs.map V.ref := by
            rw [List.map_append]
            exact cutlast _ _
          have sz : Same H (upd H z (.lst (cutV ((cs ++ [c]).map V.ref) none (some (-1))))) := same_new (Same.refl _) nz
          have ez : upd H z (.lst (cutV ((cs ++ [c]).map V.ref) none (some (-1)))) z = some (.lst (cs.map V.ref)) := by rw [upd_same, ecut]
          generalize upd H z (.lst (cutV ((cs ++ [c]).map V.ref) none (some (-1)))) = H1 at sz ez
          refine ⟨_, rfl, _, rfl, a, _, _, _, rfl, rfl, SqL.of (sz _ _ ea), eal, c, _, _, _, rfl, rfl, SqT.of (sz _ _ ec), atI_nat (j := 0) rfl, _, rfl, (by show 2 ≤ sizeLine; decide), fun y ny => ⟨(by show 1 ≤ sizeLine; decide), fun x nx => ?_⟩⟩
          have sy : Same H1 (upd H1 y (.tup [.int a1, .int en])) := same_new (Same.refl _) ny
          have ey : upd H1 y (.tup [.int a1, .int en]) y = some (.tup [.int a1, .int en]) := upd_same
          generalize upd H1 y (.tup [.int a1, .int en]) = H2 at sy ey nx
          have sx : Same H2 (upd H2 x (.lst [.ref y])) := same_new (Same.refl _) nx
          have ex : upd H2 x (.lst [.ref y]) x = some (.lst [.ref y]) := upd_same
          generalize upd H2 x (.lst [.ref y]) = H3 at sx ex
          have s3 := sz.trans (sy.trans sx)
          have hcl : cs.length ≤ 40 := by
            rw [List.length_append] at hal
            omega
          refine ⟨z, x, _, _, rfl, rfl, (sy.trans sx) _ _ ez, ex, Nat.le_of_lt (small1000 (by rw [List.length_map]; show cs.length + 1 ≤ 1000; omega)), fun o no => ?_⟩
          refine q _ o (same_new s3 no) ?_
          rw [wRun_snoc e, if_pos rfl]
          refine ⟨cs ++ [y], ?_, ?_⟩
          · rw [upd_same, List.map_append]
            rfl
          · rw [List.map_append]
            exact ((tc.mono (Tups.same s3)).snoc (show H3 y = some (.tup (stepV (a1, en))) from sx _ _ ey)).mono (Tups.new no)
        · have e2 : ¬ b1 = st := fun h => e2 (decide_eq_true (by rw [h]))
          exact ⟨rfl, rfl, by rw [wRun_snoc e, if_neg e2]⟩
    obtain ⟨rfl, rfl, ew⟩ := hm
    rw [ew] at q
    exact fresh q
theorem ok_without_last {f fW : Addr} {fd fdW : FuncData} (F : Fun K "without_last" "without_last" s_without_last f fd) (bi : Bi mg) (C_with_run : Cal P w K mg base "with_run" P_with_run 1 spWithRun fW fdW) : FnOk P w K mg base CX0 2 f fd P_without_last spWithout := by
  refine F.ok sc_without_last (fun vs H Q E h => ?_) (fun cdv A outer s H vs Q E hr h => ?_)
  · obtain ⟨a, R, lap, st, rfl, _⟩ := h
    rfl
  · obtain ⟨a, R, lap, st, rfl, hR, hl, ok, q⟩ := h
    refine ⟨_, (pss_cons (ps_while PassesOwn.never (pw_and (pt_truth (pv 0) (by intro _; rfl)) (pw_and1 (pt_cmpR op_gt (pv 1) pe_int (nomark _)))).pt
      (pss_cons (ps_asg (pe_ix ix_list (pv 0) (pe_un un_neg pe_int) (fun _ _ => rfl)) (pg_tup rfl (pgs_cons (pg_name (i := 2) sc_without_last.nd rfl (.inl rfl)) (pgs_cons (pg_name (i := 3) sc_without_last.nd rfl (.inl rfl)) pgs_nil))))
        (pss_cons (ps_set (i := 0) sc_without_last.nd rfl (.inl rfl) (pe_call (C_with_run.G.mono (by decide)) hr (by rfl) C_with_run.g C_with_run.kp C_with_run.b .nil pass0 (pa_cons (pe_slice sl_list (pv 0) po_none (po_some (pe_un un_neg pe_int))) (pa_cons (pv 2) (pa_cons (pe_op op_sub (pv 3) (pv 1)) pa_nil)))))
        (pss_one (ps_aug (i := 1) sc_without_last.nd rfl (.inl rfl) (pe_op op_sub (pv 3) (pv 2)) ip_sub)))))
    (pss_one (ps_ret (pv 0)))), ?_⟩
    refine ⟨fun m σ' H' => ∃ (x2 x3 : Option V) (a' : Addr) (R' : Runs) (lap' : Int), σ' = [some (.ref a'), some (.int lap'), x2, x3] ∧ Same H H' ∧ RunsL H' a' R' ∧ R'.length ≤ 40 ∧ OkR R' st ∧ less R' lap' = less R lap ∧ m = 2 * R'.length + (if 0 < lap' then 1 else 0), ⟨_, _, _, a, R, lap, rfl, Same.refl _, hR, hl, ok, rfl, rfl⟩, fun m σ' H' hm => ?_⟩
    obtain ⟨x2, x3, a', R', lap', rfl, sm, ⟨as, ea, ta⟩, hl', ok', el, em⟩ := hm
    rcases snoc_of R' with rfl | ⟨A, s1, e1, rfl⟩
    · have : as = [] := List.eq_nil_of_length_eq_zero ta.1
      subst this
      refine ⟨_, rfl, _, .inl ⟨_, SqL.of ea, rfl⟩, iteF (iteF ?_)⟩
      refine ⟨_, rfl, q _ a' sm ?_⟩
      rw [← el, less_nil]
      exact ⟨[], ea, ta⟩
    · obtain ⟨cs, c, rfl, tc, ec⟩ := tups_snoc ta
      have hem : (!((cs ++ [c]).map V.ref).isEmpty) = true := by
        rw [List.map_append]
        cases cs <;> rfl
      refine ⟨_, rfl, true, .inl ⟨_, SqL.of ea, hem.symm⟩, iteT ?_⟩
      refine ⟨_, rfl, _, _, rfl, rfl, _, rfl, ite2 (fun e => ?_) (fun e => ?_)⟩
      · have e : 0 < lap' := of_decide_eq_true e
        obtain ⟨st1, st2, st3, st4, st5⟩ := less_step ok' (show ¬ lap' ≤ 0 by omega)
        refine ⟨fun σ' H' => ∃ m', m' < m ∧ _, fun σ' H' h => h, ?_⟩
        have eal : atI ((cs ++ [c]).map V.ref) (-1) = some (.ref c) := by
          rw [List.map_append]
          exact atI_last _ _
        refine ⟨_, rfl, _, rfl, a', _, _, _, rfl, rfl, SqL.of ea, eal, c, _, rfl, SqT.of ec, rfl, _, _, rfl, _, _, rfl, rfl, ?_⟩
        refine ⟨_, rfl, _, rfl, _, rfl, a', _, rfl, SqL.of ea, fun z nz => ?_⟩
        have ecut : cutV ((cs ++ [c]).map V.ref) none (some (-1)) = cs.map V.ref := by
          rw [List.map_append]
          exact cutlast _ _
        have sz : Same H' (upd H' z (.lst (cutV ((cs ++ [c]).map V.ref) none (some (-1))))) := same_new (Same.refl _) nz
        have ez : upd H' z (.lst (cutV ((cs ++ [c]).map V.ref) none (some (-1)))) z = some (.lst (cs.map V.ref)) := by rw [upd_same, ecut]
        generalize upd H' z (.lst (cutV ((cs ++ [c]).map V.ref) none (some (-1)))) = H1 at sz ez
        have hAl : A.length + 1 ≤ 40 := by
          rw [List.length_append] at hl'
          exact hl'
        refine ⟨_, rfl, _, rfl, _, rfl, _, _, rfl, rfl, z, A, s1, e1 - lap', rfl, ⟨cs, ez, tc.mono (Tups.same sz)⟩, by omega, fun H2 o s2 hR2 => ?_⟩
        refine ⟨_, rfl, _, rfl, _, rfl, _, _, rfl, rfl, ?_⟩
        refine ⟨_, _, rfl, rfl, _, ?_, _, _, o, wRun A s1 (e1 - lap'), lap' - (e1 - s1), rfl, (sm.trans sz).trans s2, hR2, by omega, st2, by rw [st1, el], rfl⟩
        have em : m = 2 * (A.length + 1) + 1 := by
          rw [em, if_pos e, List.length_append]
          rfl
        rw [em]
        by_cases c2 : s1 < e1 - lap'
        · rw [if_neg (by have := st5 c2; omega)]
          omega
        · rw [st4 c2]
          split <;> omega
      · have e : ¬ 0 < lap' := fun h => e (decide_eq_true h)
        refine ⟨_, rfl, q _ a' sm ?_⟩
        rw [← el, less_no (by omega)]
        exact ⟨_, ea, ta⟩
theorem ok_kept_moments {f fW fL : Addr} {fd fdW fdL : FuncData} (F : Fun K "kept_moments" "kept_moments" s_kept_moments f fd) (bi : Bi mg) (C_with_run : Cal P w K mg base "with_run" P_with_run 1 spWithRun fW fdW) (C_without_last : Cal P w K mg base "without_last" P_without_last 2 spWithout fL fdL) : FnOk P w K mg base CX0 3 f fd P_kept_moments spKept := by
  refine F.ok sc_kept_moments (fun vs H Q E h => ?_) (fun cdv A outer s H vs Q E hr h => ?_)
  · obtain ⟨m, b, bs, rfl, _⟩ := h
    rfl
  · obtain ⟨m, b, bs, rfl, ⟨⟨as, eb, tb⟩, hl, hb⟩, m0, q⟩ := h
    refine ⟨_, (pss_cons (ps_set (i := 2) sc_kept_moments.nd rfl (.inl rfl) (pe_lst pa_nil))
    (pss_cons (ps_set (i := 3) sc_kept_moments.nd rfl (.inl rfl) pe_int)
    (pss_cons (ps_for PassesOwn.never rfl (pi_tup (pv 1)) (pg_tup rfl (pgs_cons (pg_name (i := 4) sc_kept_moments.nd rfl (.inl rfl)) (pgs_cons (pg_name (i := 5) sc_kept_moments.nd rfl (.inl rfl)) pgs_nil)))
      (pss_one (ps_if (pt_cmpR op_le (pv 4) (pv 0) (nomark _))
          (pss_cons (ps_set (i := 2) sc_kept_moments.nd rfl (.inl rfl) (pe_call (C_without_last.G.mono (by decide)) hr (by rfl) C_without_last.g C_without_last.kp C_without_last.b .nil pass0 (pa_cons (pe_call (C_with_run.G.mono (by decide)) hr (by rfl) C_with_run.g C_with_run.kp C_with_run.b .nil pass0 (pa_cons (pv 2) (pa_cons (pv 3) (pa_cons (pv 4) pa_nil)))) (pa_cons (pv 5) pa_nil))))
            (pss_one (ps_set (i := 3) sc_kept_moments.nd rfl (.inl rfl) (pv 4))))
          pss_nil)))
    (pss_one (ps_ret (pe_callTy call_tuple_of (by rfl) bi.m_tuple (by decide +kernel) (pa_cons (pe_call (C_with_run.G.mono (by decide)) hr (by rfl) C_with_run.g C_with_run.kp C_with_run.b .nil pass0 (pa_cons (pv 2) (pa_cons (pv 3) (pa_cons (pv 0) pa_nil)))) pa_nil))))))), ?_⟩
    have hal : as.length = bs.length := by rw [tb.1, List.length_map]
    refine ⟨Nat.zero_le _, fun D nD => ?_⟩
    have sD : Same H (upd H D (.lst [])) := same_new (Same.refl _) nD
    refine ⟨_, rfl, b, rfl, ⟨_, SqT.of (sD _ _ eb)⟩, for_tup (xs := as.map V.ref) (fun i σ' H' => ∃ (x4 x5 : Option V) (o : Addr) (R : Runs) (st : Int), σ' = [some (.int m), some (.ref b), some (.ref o), some (.int st), x4, x5] ∧ Same H H' ∧ RunsL H' o R ∧ R.length ≤ i ∧ OkR R st ∧ RiseB st (bs.drop i) ∧ 0 ≤ st ∧ st ≤ m ∧ keepRuns m R st (bs.drop i) = keptOf m bs) ⟨_, _, D, [], 0, rfl, sD, ⟨[], upd_same, TupsAt.nil⟩, Nat.le_refl _, OkR.nil 0, hb, Int.le_refl _, m0, rfl⟩ (fun i σ' H' hi hm => ?_) (fun i x σ' H' hx hm => ?_) (fun σ' H' hm => ?_)⟩
    · obtain ⟨_, _, _, _, _, _, sm, _⟩ := hm
      exact SqT.of (sm _ _ eb)
    · obtain ⟨x4, x5, o, R, st, rfl, sm, hR, hRl, ok, hri, st0, stm, ek⟩ := hm
      obtain ⟨c, t, lap, rfl, ep, ec⟩ := step_get tb hx
      have hi : i < bs.length := (List.getElem?_eq_some_iff.mp ep).1
      rw [drop_cons ep] at hri ek
      obtain ⟨hr', hlt⟩ := hri.tail
      have ht := hri.2 (t, lap) List.mem_cons_self
      have ht : st ≤ t ∧ 0 ≤ lap := ht
      have ek : (if t ≤ m then keepRuns m (less (wRun R st t) lap) t (bs.drop (i + 1)) else keepRuns m R st (bs.drop (i + 1))) = keptOf m bs := ek
      refine ⟨c, _, rfl, SqT.of (sm _ _ ec), rfl, _, _, rfl, _, _, rfl, rfl, ?_⟩
      refine ⟨_, rfl, _, rfl, _, _, rfl, rfl, _, rfl, ite2 (fun e => ?_) (fun e => ?_)⟩
      · have e : t ≤ m := of_decide_eq_true e
        rw [if_pos e] at ek
        have ok' := ok_wRun ok ht.1 st0
        have l1 := wRun_len R st t
        refine ⟨_, rfl, _, rfl, _, rfl, o, R, st, t, rfl, hR, by omega, fun H1 o1 s1 hR1 => ?_⟩
        refine ⟨_, rfl, o1, wRun R st t, lap, t, rfl, hR1, by omega, ok', fun H2 o2 s2 hR2 => ?_⟩
        have l2 := less_len' (wRun R st t) lap
        exact ⟨_, rfl, _, _, o2, less (wRun R st t) lap, t, rfl, (sm.trans s1).trans s2, hR2, by omega, ok_less ok' lap, hr', by omega, e, ek⟩
      · have e : ¬ t ≤ m := fun h => e (decide_eq_true h)
        rw [if_neg e] at ek
        exact ⟨_, _, o, R, st, rfl, sm, hR, by omega, ok, ⟨hr'.1, fun b hb => ⟨by have := hlt b hb; omega, (hr'.2 b hb).2⟩⟩, st0, stm, ek⟩
    · obtain ⟨x4, x5, o, R, st, rfl, sm, hR, hRl, ok, hri, st0, stm, ek⟩ := hm
      rw [List.length_map, hal] at hRl ek
      rw [List.drop_length] at ek
      have ek : wRun R st m = keptOf m bs := ek
      have l1 := wRun_len R st m
      refine ⟨_, rfl, _, rfl, _, rfl, o, R, st, m, rfl, hR, by omega, fun H1 o1 s1 hR1 => ?_⟩
      rw [ek] at hR1 l1
      obtain ⟨cs, e1, t1⟩ := hR1
      refine ⟨o1, _, rfl, .inl ⟨SqL.of e1, fun o2 n2 => ?_⟩⟩
      exact q _ o2 (same_new (sm.trans s1) n2) ⟨cs, upd_same, t1.mono (Tups.new n2)⟩ (by omega)
theorem ok_moment_of {f fK : Addr} {fd fdK : FuncData} (F : Fun K "moment_of" "moment_of" s_moment_of f fd) (bi : Bi mg) (C_kept_moments : Cal P w K mg base "kept_moments" P_kept_moments 3 spKept fK fdK) : FnOk P w K mg base CX0 4 f fd P_moment_of spMomentOf := by
  refine F.ok sc_moment_of (fun vs H Q E h => ?_) (fun cdv A outer s H vs Q E hr h => ?_)
  · obtain ⟨i, m, b, bs, v, rfl, _⟩ := h
    rfl
  · obtain ⟨i, m, b, bs, v, rfl, hb, m0, hv, q⟩ := h
    refine ⟨_, (pss_one (ps_for PassesOwn.never rfl (pi_tup (pe_call (C_kept_moments.G.mono (by decide)) hr (by rfl) C_kept_moments.g C_kept_moments.kp C_kept_moments.b .nil pass0 (pa_cons (pv 1) (pa_cons (pv 2) pa_nil)))) (pg_tup rfl (pgs_cons (pg_name (i := 3) sc_moment_of.nd rfl (.inl rfl)) (pgs_cons (pg_name (i := 4) sc_moment_of.nd rfl (.inl rfl)) pgs_nil)))
      (pss_cons (ps_if (pt_cmpR op_lt (pv 0) (pe_op op_sub (pv 4) (pv 3)) (nomark _))
          (pss_one (ps_ret (pe_op op_add (pv 3) (pv 0))))
          pss_nil)
        (pss_one (ps_aug (i := 0) sc_moment_of.nd rfl (.inl rfl) (pe_op op_sub (pv 4) (pv 3)) ip_sub))))), ?_⟩
    refine ⟨_, rfl, _, rfl, m, b, bs, rfl, hb, m0, fun H1 o s1 ho hlk => ?_⟩
    obtain ⟨as, eo, ta⟩ := ho
    have hal : as.length = (keptOf m bs).length := by rw [ta.1, List.length_map]
    have okR : OkR (keptOf m bs) m := keep_ok hb.2.2 (OkR.nil 0) (Int.le_refl _) m0
    generalize keptOf m bs = R at hv ta hal okR
    refine ⟨o, rfl, ⟨_, SqT.of eo⟩, for_tup (xs := as.map V.ref) (fun j σ' H' => ∃ (x3 x4 : Option V) (k : Nat), σ' = [some (.int (k : Int)), some (.int m), some (.ref b), x3, x4] ∧ H' = H1 ∧ (expR (R.drop j))[k]? = some v) ⟨_, _, i, rfl, rfl, hv⟩ (fun j σ' H' hj hm => ?_) (fun j x σ' H' hx hm => ?_) (fun σ' H' hm => ?_)⟩
    · obtain ⟨_, _, _, _, rfl, _⟩ := hm
      exact SqT.of eo
    · obtain ⟨x3, x4, k, rfl, rfl, hk⟩ := hm
      obtain ⟨c, s1', e1', rfl, ep, ec⟩ := step_get ta hx
      have hse := okR.2 (s1', e1') (List.mem_of_getElem? ep)
      have hse : 0 ≤ s1' ∧ s1' < e1' ∧ e1' ≤ m := hse
      rw [drop_cons ep, exp_cons] at hk
      have hk : (seg s1' e1' ++ expR (R.drop (j + 1)))[k]? = some v := hk
      refine ⟨c, _, rfl, SqT.of ec, rfl, _, _, rfl, _, _, rfl, rfl, ?_⟩
      refine ⟨_, rfl, _, rfl, _, rfl, _, _, rfl, rfl, _, _, rfl, rfl, _, rfl, ite2 (fun e => ?_) (fun e => ?_)⟩
      · have e : (k : Int) < e1' - s1' := of_decide_eq_true e
        rw [List.getElem?_append_left (by rw [seg_len]; omega)] at hk
        unfold seg at hk
        rw [ft_get (by omega)] at hk
        have hk : s1' + (k : Int) = v := Option.some.inj hk
        refine ⟨_, rfl, _, rfl, _, _, rfl, rfl, ?_⟩
        have := q _ s1
        rw [← hk] at this
        exact this
      · have e : ¬ (k : Int) < e1' - s1' := fun h => e (decide_eq_true h)
        rw [List.getElem?_append_right (by rw [seg_len]; omega), seg_len] at hk
        refine ⟨_, rfl, _, rfl, _, rfl, _, _, rfl, rfl, _, _, rfl, rfl, ?_⟩
        refine ⟨some (.int s1'), some (.int e1'), k - (e1' - s1').toNat, ?_, rfl, hk⟩
        rw [show (((k - (e1' - s1').toNat : Nat)) : Int) = (k : Int) - (e1' - s1') by omega]
        rfl
    · obtain ⟨x3, x4, k, rfl, rfl, hk⟩ := hm
      rw [List.length_map, hal, List.drop_length] at hk
      cases hk
theorem ok__law_begin {f : Addr} {fd : FuncData} {k : Nat} (F : Fun K "_law_begin" "_law_begin" s__law_begin f fd) (bi : Bi mg) : FnOk P w K mg base CX0 (k + 1) f fd P__law_begin (spBeginC K) := by
  refine F.ok sc__law_begin (fun vs H Q E h => ?_) (fun cdv A outer s H vs Q E hr h => ?_)
  · obtain ⟨a, ns, i, rfl, _⟩ := h
    rfl
  · obtain ⟨a, ns, i, rfl, hS, hn, i0, i1, q⟩ := h
    refine ⟨_, (C8.pss_cut (ps_set (i := 2) sc__law_begin.nd rfl (.inl rfl) (pe_ifExp (pt_cmpR op_lt (pv 1) (pe_callB call_len_seq (by rfl) bi.m_len (by decide +kernel) (pa_cons (pv 0) pa_nil)) (nomark _)) (pe_ix ix_list (pv 0) (pv 1) (fun _ _ => rfl)) pe_int))
    (pss_cons (ps_set (i := 3) sc__law_begin.nd rfl (.inl rfl) (pe_op op_add pe_int (pe_op op_mul pe_int (pv 1))))
    (pss_cons (ps_for PassesOwn.never rfl (pi_list (pe_slice sl_list (pv 0) po_none (po_some pe_int))) (pg_name (i := 4) sc__law_begin.nd rfl (.inl rfl))
      (pss_one (ps_set (i := 3) sc__law_begin.nd rfl (.inl rfl) (pe_op op_mod (pe_op op_add (pe_op op_add (pe_op op_mul (pv 3) pe_int) (pe_op op_mod (pv 4) pe_int)) pe_int) pe_int))))
    (pss_one (ps_ret (pe_lst (pa_cons (pe_op op_mul (pe_op op_mod (pe_callB call_abs (by rfl) bi.m_abs (by decide +kernel) (pa_cons (pv 2) pa_nil)) (pe_op op_mulW (pe_op op_pow pe_int pe_int) (pe_op op_pow pe_int pe_int))) (pe_callTy call_int1 (by rfl) bi.m_int (by decide +kernel) (pa_cons (pe_cmpR op_ge (pe_callB call_abs (by rfl) bi.m_abs (by decide +kernel) (pa_cons (pv 2) pa_nil)) (pe_op op_pow pe_int pe_int) (nomark _)) pa_nil))) (pa_cons (pv 3) (pa_cons pe_int pa_nil))))))))), ?_⟩
    refine ⟨fun σ' H' => ∃ c : Int, σ' = [some (.ref a), some (.int i), some (.int c), none, none] ∧ H' = H, ?_, fun σ' H' hm => ?_⟩
    · refine ⟨_, rfl, _, rfl, a, _, rfl, .inl hS, _, _, rfl, rfl, _, rfl, ite2 (fun e => ?_) (fun e => ?_)⟩
      · have e' : i < ((ns.map V.int).length : Int) := of_decide_eq_true e
        rw [List.length_map] at e'
        obtain ⟨j, rfl⟩ : ∃ j : Nat, i = j := ⟨i.toNat, by omega⟩
        have hjl : j < ns.length := by omega
        refine ⟨_, rfl, _, rfl, a, _, _, .int ns[j], rfl, rfl, hS, atI_nat (j := j) ?_, _, rfl, rfl⟩
        rw [List.getElem?_map, List.getElem?_eq_getElem hjl]
        rfl
      · exact ⟨_, rfl, rfl⟩
    obtain ⟨c, rfl, rfl⟩ := hm
    refine ⟨_, rfl, _, _, rfl, rfl, .inl ⟨by decide, by decide⟩, _, _, rfl, rfl, ?_⟩
    refine ⟨_, rfl, _, rfl, a, _, rfl, hS, fun D nD => ?_⟩
    have e63 : cutV (ns.map V.int) none (some 63) = (ns.take 63).map V.int := by
      have := cut_take (ns.map V.int) 63
      rw [← List.map_take] at this
      exact this
    rw [e63]
    refine ⟨D, rfl, ⟨_, SqL.of upd_same⟩, ?_⟩
    have sD : Same H' (upd H' D (.lst ((ns.take 63).map V.int))) := same_new (Same.refl _) nD
    have eD : upd H' D (.lst ((ns.take 63).map V.int)) D = some (.lst ((ns.take 63).map V.int)) := upd_same
    generalize upd H' D (.lst ((ns.take 63).map V.int)) = H1 at sD eD
    refine for_list (xs := (ns.take 63).map V.int) (fun j σ' H2 => H2 = H1 ∧ ∃ (x4 : Option V) (se : Int), σ' = [some (.ref a), some (.int i), some (.int c), some (.int se), x4] ∧ 0 ≤ se ∧ se < 2 ^ 62) ⟨rfl, _, _, rfl, by omega, by omega⟩ (fun j σ' H2 hj hm => ?_) (fun j x σ' H2 hx hm => ?_) (fun σ' H2 hm => ?_)
    · obtain ⟨rfl, _⟩ := hm
      exact SqL.of eD
    · obtain ⟨rfl, x4, se, rfl, h0, h1⟩ := hm
      obtain ⟨n, rfl, _⟩ := int_get hx
      refine ⟨_, rfl, _, _, rfl, rfl, .inr ⟨by decide, by decide⟩, _, rfl, _, _, rfl, rfl, (by show (0 : Int) < 1000000007; decide), _, _, rfl, rfl, _, _, rfl, rfl, _, _, rfl, rfl, (by show (0 : Int) < 2305843009213693951; decide), ?_⟩
      exact ⟨rfl, _, _, rfl, Int.emod_nonneg _ (by decide), Int.lt_trans (Int.emod_lt_of_pos _ (by decide)) (by decide)⟩
    obtain ⟨rfl, x4, se, rfl, h0, h1⟩ := hm
    refine ⟨_, rfl, c, rfl, _, _, rfl, rfl, ⟨by decide, by decide, by decide⟩, _, _, rfl, rfl, ⟨by decide, by decide, by decide⟩, _, _, rfl, rfl, (by unfold CMulW; decide +kernel), _, _, rfl, rfl, (by show (0 : Int) < 10 ^ (64 : Int).toNat * 10 ^ (60 : Int).toNat; decide +kernel), _, rfl, c, rfl, _, _, rfl, rfl, ⟨by decide, by decide, by decide⟩, _, _, rfl, rfl, .inr ⟨_, rfl, ?_⟩⟩
    generalize hb : (10 : Int) ^ (64 : Int).toNat * 10 ^ (60 : Int).toNat = B
    have B0 : 0 < B := by
      rw [← hb]
      decide +kernel
    generalize hab : (if c < 0 then -c else c) = ac
    have c0 := Int.emod_nonneg ac (Int.ne_of_gt B0)
    generalize hd : (if decide (10 ^ Int.toNat 18 ≤ ac) = true then (1 : Int) else 0) = d
    have d0 : 0 ≤ d ∧ d ≤ 1 := by
      rw [← hd]
      split <;> decide
    refine ⟨_, _, rfl, rfl, .inr ⟨by omega, by omega⟩, _, rfl, (by show 3 ≤ sizeLine; decide), fun p np => ?_⟩
    refine q _ p (same_new sD np) (sD.free np) ⟨_, _, 0, upd_same, Int.mul_nonneg c0 d0.1, h0, h1, Nat.le_refl _⟩
theorem ok__law_take {f : Addr} {fd : FuncData} {k : Nat} (F : Fun K "_law_take" "_law_take" s__law_take f fd) (bi : Bi mg) : FnOk P w K mg base CX0 (k + 1) f fd P__law_take spTakeC := by
  refine F.ok sc__law_take (fun vs H Q E h => ?_) (fun cdv A outer s H vs Q E hr h => ?_)
  · obtain ⟨p, T, many, rfl, _⟩ := h
    rfl
  · obtain ⟨p, T, many, rfl, hp, hT, m0, q⟩ := h
    refine ⟨_, (pss_cons (ps_if (pt_cmpR op_gt (pe_ix ix_list (pv 0) pe_int (fun _ _ => rfl)) pe_int (nomark _))
      (pss_cons (ps_set (i := 2) sc__law_take.nd rfl (.inl rfl) (pe_op op_mod (pe_ix ix_list (pv 0) pe_int (fun _ _ => rfl)) (pv 1)))
        (pss_cons (ps_asg (pe_op op_fdivW (pe_ix ix_list (pv 0) pe_int (fun _ _ => rfl)) (pv 1)) (pg_sub (pv 0) pe_int set_list))
        (pss_one (ps_ret (pv 2)))))
      pss_nil)
    (pss_cons (ps_asg (pe_op op_add (pe_ix ix_list (pv 0) pe_int (fun _ _ => rfl)) pe_int) (pg_sub (pv 0) pe_int set_list))
    (pss_cons (ps_set (i := 3) sc__law_take.nd rfl (.inl rfl) (pe_op op_mod (pe_op op_mul (pe_op op_add (pe_ix ix_list (pv 0) pe_int (fun _ _ => rfl)) (pe_op op_mul (pe_op op_mul pe_int (pe_ix ix_list (pv 0) pe_int (fun _ _ => rfl))) (pe_ix ix_list (pv 0) pe_int (fun _ _ => rfl)))) pe_int) pe_int))
    (pss_cons (ps_set (i := 3) sc__law_take.nd rfl (.inl rfl) (pe_op op_mod (pe_op op_mul (pv 3) (pe_op op_add (pe_op op_mod (pv 3) pe_int) (pe_op op_mul pe_int (pe_ix ix_list (pv 0) pe_int (fun _ _ => rfl))))) pe_int))
    (pss_one (ps_ret (pe_op op_mod (pe_op op_add (pe_op op_fdiv (pv 3) pe_int) (pe_op op_fdiv (pv 3) pe_int)) (pv 1)))))))), ?_⟩
    obtain ⟨c, m, t, ep, c0, s0, s1, tT⟩ := hp
    refine ⟨_, rfl, p, _, 0, _, rfl, rfl, SqL.of ep, atI_nat (j := 0) rfl, _, _, rfl, rfl, _, rfl, ite2 (fun e => ?_) (fun e => ?_)⟩
    · refine ⟨_, rfl, p, _, 0, _, rfl, rfl, SqL.of ep, atI_nat (j := 0) rfl, _, rfl, _, _, rfl, rfl, m0.1, ?_⟩
      refine ⟨_, rfl, p, _, 0, _, rfl, rfl, SqL.of ep, atI_nat (j := 0) rfl, _, rfl, _, _, rfl, rfl, m0, _, rfl, p, _, 0, 0, rfl, rfl, ep, rfl, ?_⟩
      exact ⟨_, rfl, q _ _ (Int.emod_nonneg _ (Int.ne_of_gt m0.1)) (Int.emod_lt_of_pos _ m0.1) ⟨_, m, t, upd_same, Int.ediv_nonneg c0 (Int.le_of_lt m0.1), s0, s1, by omega⟩ Keep.refl.own⟩
    · refine ⟨_, rfl, p, _, 2, _, rfl, rfl, SqL.of ep, atI_nat (j := 2) rfl, _, _, rfl, rfl, _, rfl, p, _, 2, 2, rfl, rfl, ep, rfl, ?_⟩
      have ep1 : upd H p (.lst [.int c, .int m, .int ((t : Int) + 1)]) p = some (.lst [.int c, .int m, .int ((t : Int) + 1)]) := upd_same
      have k1 : Keep p p H (upd H p (.lst [.int c, .int m, .int ((t : Int) + 1)])) := Keep.refl.own
      show tSeq _ _ _ _ (upd H p (.lst [.int c, .int m, .int ((t : Int) + 1)]))
      generalize upd H p (.lst [.int c, .int m, .int ((t : Int) + 1)]) = H1 at ep1 k1
      refine ⟨_, rfl, p, _, 1, _, rfl, rfl, SqL.of ep1, atI_nat (j := 1) rfl, _, rfl, p, _, 2, _, rfl, rfl, SqL.of ep1, atI_nat (j := 2) rfl, _, _, rfl, rfl, .inl ⟨by decide, by decide⟩, _, rfl, p, _, 2, _, rfl, rfl, SqL.of ep1, atI_nat (j := 2) rfl, _, _, rfl, rfl, .inr ⟨by omega, by omega⟩, _, _, rfl, rfl, _, _, rfl, rfl, .inr ⟨by decide, by decide⟩, _, _, rfl, rfl, (by show (0 : Int) < 2305843009213693921; decide), ?_⟩
      have b2 : ∀ x : Int, -(2 ^ 64) < x % 2305843009213693921 ∧ x % 2305843009213693921 < 2 ^ 64 := fun x => ⟨by omega, by omega⟩
      refine ⟨_, rfl, _, rfl, _, _, rfl, rfl, (by show (0 : Int) < 1000003; decide), _, rfl, p, _, 2, _, rfl, rfl, SqL.of ep1, atI_nat (j := 2) rfl, _, _, rfl, rfl, .inl ⟨by decide, by decide⟩, _, _, rfl, rfl, _, _, rfl, rfl, .inl (b2 _), _, _, rfl, rfl, (by show (0 : Int) < 2305843009213693907; decide), ?_⟩
      refine ⟨_, rfl, _, _, rfl, rfl, ⟨by decide, by decide⟩, _, rfl, _, _, rfl, rfl, ⟨by decide, by decide⟩, _, _, rfl, rfl, _, rfl, _, _, rfl, rfl, m0.1, ?_⟩
      exact q _ _ (Int.emod_nonneg _ (Int.ne_of_gt m0.1)) (Int.emod_lt_of_pos _ m0.1) ⟨c, m, t + 1, ep1, c0, s0, s1, by omega⟩ k1
theorem ok__law_of {f fT : Addr} {fd fdT : FuncData} (F : Fun K "_law_of" "_law_of" s__law_of f fd) (bi : Bi mg) (C__law_take : Cal P w K mg base "_law_take" P__law_take 1 spTakeC fT fdT) : FnOk P w K mg base CX0 2 f fd P__law_of spOfB := by
  refine F.ok sc__law_of (fun vs H Q E h => ?_) (fun cdv A outer s H vs Q E hr h => ?_)
  · obtain ⟨p, T, a, xs, rfl, _⟩ := h
    rfl
  · obtain ⟨p, T, a, xs, rfl, hp, hT, ea, nap, h1, h2, q⟩ := h
    refine ⟨_, (pss_one (ps_ret (pe_ix ix_list (pv 1) (pe_call (C__law_take.G.mono (by decide)) hr (by rfl) C__law_take.g C__law_take.kp C__law_take.b .nil pass0 (pa_cons (pv 0) (pa_cons (pe_callB call_len_seq (by rfl) bi.m_len (by decide +kernel) (pa_cons (pv 1) pa_nil)) pa_nil))) (fun _ _ => rfl)))), ?_⟩
    refine ⟨_, rfl, _, rfl, _, rfl, a, xs, rfl, .inl (SqL.of ea), p, T, (xs.length : Int), rfl, hp, by omega, wdiv (by omega) (by omega), fun d H1 d0 d1 hp1 k1 => ?_⟩
    obtain ⟨j, rfl⟩ : ∃ j : Nat, d = j := ⟨d.toNat, by omega⟩
    have hj : j < xs.length := by omega
    refine ⟨a, xs, _, xs[j], rfl, rfl, SqL.of (k1.at nap ea), atI_nat (List.getElem?_eq_getElem hj), ?_⟩
    exact q _ j _ (List.getElem?_eq_getElem hj) hp1 k1
theorem ok__law_some_breaks {fT fO f : Addr} {fdT fdO fd : FuncData} (F : Fun K "_law_some_breaks" "_law_some_breaks" s__law_some_breaks f fd) (bi : Bi mg) (C__law_take : Cal P w K mg base "_law_take" P__law_take 1 spTakeC fT fdT) (C__law_of : Cal P w K mg base "_law_of" P__law_of 2 spOfB fO fdO) : FnOk P w K mg base CX0 3 f fd P__law_some_breaks spSomeBreaks34 := by
  refine F.ok sc__law_some_breaks (fun vs H Q E h => ?_) (fun cdv A outer s H vs Q E hr h => ?_)
  · obtain ⟨p, T, most, far, rfl, _⟩ := h
    rfl
  · obtain ⟨p, T, most, far, rfl, hp, hT, m0, m1, q⟩ := h
    refine ⟨_, (pss_cons (ps_par (i := 3) (j := 4) rfl sc__law_some_breaks.nd rfl rfl (by decide) rfl rfl (pa_cons (pe_lst pa_nil) (pa_cons (pe_call (C__law_of.G.mono (by decide)) hr (by rfl) C__law_of.g C__law_of.kp C__law_of.b .nil pass0 (pa_cons (pv 0) (pa_cons (pe_lst (pa_cons pe_int (pa_cons pe_int (pa_cons pe_int (pa_cons pe_int pa_nil))))) pa_nil))) pa_nil)) rfl)
    (pss_cons (ps_for PassesOwn.never rfl (pi_range1 rfl bi.m_range (pa_cons (pe_call (C__law_take.G.mono (by decide)) hr (by rfl) C__law_take.g C__law_take.kp C__law_take.b .nil pass0 (pa_cons (pv 0) (pa_cons (pe_op op_add (pv 1) pe_int) pa_nil))) pa_nil)) (pg_name (i := 5) sc__law_some_breaks.nd rfl (.inl rfl))
      (pss_cons (ps_expr (pe_bm PySem.F.plainAttrs_list PySem.F.slot_list_append PySem.F.type_list_append mt_append (pv 3) (pa_cons (pe_tup (pa_cons (pv 4) (pa_cons (pe_call (C__law_of.G.mono (by decide)) hr (by rfl) C__law_of.g C__law_of.kp C__law_of.b .nil pass0 (pa_cons (pv 0) (pa_cons (pe_lst (pa_cons pe_int (pa_cons pe_int (pa_cons pe_int (pa_cons pe_int (pa_cons pe_int (pa_cons pe_int (pa_cons (pe_ifExp (pt_val (pv 2)) (pe_op op_pow pe_int pe_int) pe_int) pa_nil)))))))) pa_nil))) pa_nil))) pa_nil)))
        (pss_one (ps_set (i := 4) sc__law_some_breaks.nd rfl (.inl rfl) (pe_op op_add (pe_op op_add (pv 4) pe_int) (pe_call (C__law_of.G.mono (by decide)) hr (by rfl) C__law_of.g C__law_of.kp C__law_of.b .nil pass0 (pa_cons (pv 0) (pa_cons (pe_lst (pa_cons pe_int (pa_cons pe_int (pa_cons pe_int (pa_cons pe_int (pa_cons pe_int (pa_cons (pe_ifExp (pt_val (pv 2)) (pe_op op_pow pe_int pe_int) pe_int) pa_nil))))))) pa_nil))))))))
    (pss_one (ps_ret (pe_callTy call_tuple_of (by rfl) bi.m_tuple (by decide +kernel) (pa_cons (pv 3) pa_nil)))))), ?_⟩
    refine ⟨Nat.zero_le _, fun R nR => ⟨_, rfl, (by show 4 ≤ sizeLine; decide), fun Z nZ => ?_⟩⟩
    have hpR := hp.new (o := .lst []) nR
    have kR : Keep p p H (upd H R (.lst [])) := Keep.refl.new nR
    have eR : upd H R (.lst []) R = some (.lst []) := upd_same
    have nRp := hp.fresh nR
    generalize upd H R (.lst []) = H0 at hpR kR eR nZ
    have nZp := hpR.fresh nZ
    refine ⟨p, T, Z, _, rfl, hpR.new nZ, by omega, upd_same, nZp, (by show 1 ≤ 4; decide), (by show 4 ≤ 1000; decide), fun H1 j x hx hp1 k1 => ⟨_, _, rfl, ?_⟩⟩
    obtain ⟨mo, rfl, mo0, mo1⟩ : ∃ m : Int, x = .int m ∧ 0 ≤ m ∧ m ≤ 7 := by
      have := List.mem_of_getElem? hx
      simp only [List.mem_cons, List.not_mem_nil, or_false] at this
      rcases this with h | h | h | h
      · exact ⟨0, h, by decide, by decide⟩
      · exact ⟨1, h, by decide, by decide⟩
      · exact ⟨3, h, by decide, by decide⟩
      · exact ⟨7, h, by decide, by decide⟩
    have k01 := (kR.new nZ).trans k1
    have eR1 : H1 R = some (.lst []) := k1.at nRp ((upd_ne (ne_of_none eR nZ)).trans eR)
    refine ⟨_, rfl, _, rfl, _, _, rfl, rfl, p, _, most + 1, rfl, hp1, by omega, wdiv (by omega) (by omega), fun d H2 d0 d1 hp2 k2 => ?_⟩
    obtain ⟨N, rfl⟩ : ∃ N : Nat, d = N := ⟨d.toNat, by omega⟩
    refine ⟨_, rfl, by omega, by omega, ?_⟩
    have hN' : ((N : Int)).toNat = N := by omega
    rw [hN']
    obtain ⟨fr, hfr⟩ : ∃ fr : Bool, fr = far := ⟨_, rfl⟩
    refine for_range (n := N) (fun i σ' H' => ∃ (x5 : Option V) (mo : Int) (as : List Addr) (bs : List (Int × Int)), σ' = [some (.ref p), some (.int most), some (.bl far), some (.ref R), some (.int mo), x5] ∧ PotC H' p (T + 2 + 2 * i) ∧ Keep p p H H' ∧ H' R = some (.lst (as.map V.ref)) ∧ TupsAt H' as (bs.map stepV) ∧ bs.length = i ∧ 0 ≤ mo ∧ mo ≤ 7 + (10 ^ 30 + 13) * (i : Int) ∧ (fr = false → mo ≤ 7 + 13 * (i : Int)) ∧ (bs.map (·.1)).Pairwise (· < ·) ∧ ∀ b ∈ bs, 0 ≤ b.1 ∧ b.1 < mo ∧ 0 ≤ b.2) ⟨_, mo, [], [], rfl, hp2.mono (by omega), k01.trans k2, k2.at nRp eR1, TupsAt.nil, rfl, mo0, by omega, (fun _ => by omega), List.Pairwise.nil, (fun b hb => by cases hb)⟩ (fun i σ' H' hi hm => ?_) (fun σ' H' hm => ?_)
    · obtain ⟨x5, mo, as, bs, rfl, hpi, ki, eRi, tu, hl, mo0, mo1, mo2, ri, bd⟩ := hm
      have hal : as.length = i := by rw [tu.1, List.length_map, hl]
      refine ⟨_, rfl, .inl ⟨rfl, _, SqL.of eRi⟩, _, rfl, _, rfl, ?_⟩
      cases far
      all_goals
        first
          | refine ⟨_, rfl, false, rfl, iteF ?_⟩
          | refine ⟨_, rfl, true, rfl, iteT ⟨_, _, rfl, rfl, ⟨by decide, by decide, by decide⟩, ?_⟩⟩
        refine ⟨(by show 7 ≤ sizeLine; decide), fun Y nY => ?_⟩
        have nYp := hpi.fresh nY
        refine ⟨p, _, Y, _, rfl, hpi.new nY, by omega, upd_same, nYp, (by show 1 ≤ 7; decide), (by show 7 ≤ 1000; decide), fun H3 j3 x3 hx3 hp3 k3 => ⟨(by show 2 ≤ sizeLine; decide), fun z nz => ?_⟩⟩
        obtain ⟨lp, rfl, lp0⟩ : ∃ n : Int, x3 = .int n ∧ 0 ≤ n := by
          have := List.mem_of_getElem? hx3
          simp only [List.mem_cons, List.not_mem_nil, or_false] at this
          rcases this with h | h | h | h | h | h | h <;> exact ⟨_, h, by decide⟩
        have kY : Keep p p H' H3 := (Keep.refl.new nY).trans k3
        have eR3 := kY.at nRp eRi
        have tu3 := tu.mono (kY.tupsC hpi)
        have eRz : upd H3 z (.tup [.int mo, .int lp]) R = some (.lst (as.map V.ref)) := (upd_ne (ne_of_none eR3 nz)).trans eR3
        refine ⟨R, _, _, rfl, rfl, eRz, (by rw [List.length_map]; exact small1000 (by omega)), ?_⟩
        have em : (bs ++ [(mo, lp)]).map stepV = bs.map stepV ++ [stepV (mo, lp)] := List.map_append
        have tu4 : TupsAt (upd (upd H3 z (.tup [.int mo, .int lp])) R (.lst (as.map V.ref ++ [.ref z]))) (as ++ [z]) ((bs ++ [(mo, lp)]).map stepV) := by
          rw [em]
          exact ((tu3.mono (Tups.new nz)).snoc upd_same).mono (Tups.ls eRz)
        have eR4 : upd (upd H3 z (.tup [.int mo, .int lp])) R (.lst (as.map V.ref ++ [.ref z])) R = some (.lst ((as ++ [z]).map V.ref)) := by
          rw [List.map_append]
          exact upd_same
        have hp4 : PotC (upd (upd H3 z (.tup [.int mo, .int lp])) R (.lst (as.map V.ref ++ [.ref z]))) p (T + 2 + 2 * i + 1) := (hp3.new nz).other nRp
        have k4 : Keep p p H (upd (upd H3 z (.tup [.int mo, .int lp])) R (.lst (as.map V.ref ++ [.ref z]))) := ((ki.trans kY).new nz).mine nR
        generalize upd (upd H3 z (.tup [.int mo, .int lp])) R (.lst (as.map V.ref ++ [.ref z])) = H4 at tu4 eR4 hp4 k4
        refine ⟨_, rfl, _, _, rfl, rfl, _, rfl, ?_⟩
        first
          | refine ⟨_, rfl, false, rfl, iteF ?_⟩
          | refine ⟨_, rfl, true, rfl, iteT ⟨_, _, rfl, rfl, ⟨by decide, by decide, by decide⟩, ?_⟩⟩
        refine ⟨(by show 6 ≤ sizeLine; decide), fun V' nV => ?_⟩
        have nVp := hp4.fresh nV
        refine ⟨p, _, V', _, rfl, hp4.new nV, by omega, upd_same, nVp, (by show 1 ≤ 6; decide), (by show 6 ≤ 1000; decide), fun H5 j5 x5' hx5 hp5 k5 => ?_⟩
        obtain ⟨g, rfl, g0, g1, g2⟩ : ∃ n : Int, x5' = .int n ∧ 0 ≤ n ∧ n ≤ 10 ^ 30 + 12 ∧ (fr = false → n ≤ 12) := by
          have := List.mem_of_getElem? hx5
          simp only [List.mem_cons, List.not_mem_nil, or_false] at this
          rcases this with h | h | h | h | h | h <;> exact ⟨_, h, by decide, by decide, fun z => by first | decide | (rw [hfr] at z; cases z)⟩
        have k45 : Keep p p H4 H5 := (Keep.refl.new nV).trans k5
        refine ⟨_, _, rfl, rfl, ?_⟩
        refine ⟨_, mo + 1 + g, as ++ [z], bs ++ [(mo, lp)], rfl, hp5.mono (by omega), k4.trans k45, k45.at nRp eR4, tu4.mono (k45.tupsC hp4), by simp [hl], by omega, ?_, ?_, ?_, fun b hb => ?_⟩
        · rw [show ((i + 1 : Nat) : Int) = (i : Int) + 1 by omega, Int.mul_add]
          omega
        · intro z
          have := mo2 z
          have := g2 z
          omega
        · rw [List.map_append]
          refine List.pairwise_append.mpr ⟨ri, by simp, fun u hu v hv => ?_⟩
          obtain ⟨b, hb, rfl⟩ := List.mem_map.mp hu
          have : v = mo := List.mem_singleton.mp hv
          have := (bd b hb).2.1
          omega
        · rcases List.mem_append.mp hb with h | h
          · have := bd b h
            omega
          · rw [List.mem_singleton.mp h]
            show 0 ≤ mo ∧ mo < mo + 1 + g ∧ 0 ≤ lp
            omega
    · obtain ⟨x5, mo, as, bs, rfl, hpi, ki, eRi, tu, hl, mo0, mo1, mo2, ri, bd⟩ := hm
      refine ⟨_, rfl, R, _, rfl, .inl ⟨SqL.of eRi, fun U nU => ?_⟩⟩
      have hN20 : N ≤ 20 := by omega
      refine q _ U bs ((hpi.new nU).mono (by omega)) (ki.new nU) ⟨as, upd_same, tu.mono (Tups.new nU)⟩ ⟨by omega, ri, fun b hb => ?_⟩ (fun b hb => (bd b hb).2.2) (ki.freeC hpi nU) fun z b hb => ?_
      rotate_left
      · have h1 := mo2 (by rw [hfr]; exact z)
        have h2 := bd b hb
        omega
      have := bd b hb
      have : (10 ^ 30 + 13) * (N : Int) ≤ (10 ^ 30 + 13) * 20 := Int.mul_le_mul_of_nonneg_left (by omega) (by decide)
      omega
theorem ok__law_stood {f : Addr} {fd : FuncData} {k : Nat} (F : Fun K "_law_stood" "_law_stood" s__law_stood f fd) (bi : Bi mg) : FnOk P w K mg base CX0 (k + 1) f fd P__law_stood spStood34 := by
  refine F.ok sc__law_stood (fun vs H Q E h => ?_) (fun cdv A outer s H vs Q E hr h => ?_)
  · obtain ⟨m, b, bs, rfl, _⟩ := h
    rfl
  · obtain ⟨m, b, bs, rfl, ⟨⟨as, eb, tb⟩, hl, hb⟩, m0, m1, q⟩ := h
    have hu64 := hr.units
    refine ⟨_, (pss_cons (ps_par (i := 2) (j := 3) rfl sc__law_stood.nd rfl rfl (by decide) rfl rfl (pa_cons (pe_callTy (call_dictP rfl) (by rfl) bi.m_dict (by decide +kernel) (pa_cons (pe_callTy call_list_of (by rfl) bi.m_list (by decide +kernel) (pa_cons (pv 1) pa_nil)) pa_nil)) (pa_cons (pe_lst pa_nil) pa_nil)) rfl)
    (pss_cons (ps_for PassesOwn.never rfl (pi_range1 rfl bi.m_range (pa_cons (pe_op op_add (pv 0) pe_int) pa_nil)) (pg_name (i := 4) sc__law_stood.nd rfl (.inl rfl))
      (pss_cons (ps_set (i := 3) sc__law_stood.nd rfl (.inl rfl) (pe_slice sl_list (pv 3) po_none (po_some (pe_callB (call_max2 rfl) (by rfl) bi.m_max (by decide +kernel) (pa_cons pe_int (pa_cons (pe_op op_sub (pe_callB call_len_seq (by rfl) bi.m_len (by decide +kernel) (pa_cons (pv 3) pa_nil)) (pe_dget2 (hu1 hu64) (pv 2) (pv 4) pe_int ⟨rfl, rfl, rfl, rfl⟩)) pa_nil))))))
        (pss_one (ps_if (pt_cmpR op_lt (pv 4) (pv 0) (nomark _))
          (pss_one (ps_expr (pe_bm PySem.F.plainAttrs_list PySem.F.slot_list_append PySem.F.type_list_append mt_append (pv 3) (pa_cons (pv 4) pa_nil))))
          pss_nil))))
    (pss_one (ps_ret (pv 3))))), ?_⟩
    refine ⟨_, rfl, b, _, rfl, .inr (SqT.of eb), fun L nL => ?_⟩
    have sL : Same H (upd H L (.lst (as.map V.ref))) := same_new (Same.refl _) nL
    have eL : upd H L (.lst (as.map V.ref)) L = some (.lst (as.map V.ref)) := upd_same
    generalize upd H L (.lst (as.map V.ref)) = H1 at sL eL
    have hpair : Paired (fun p kv => SqT K H1 p [kV kv.1, kv.2]) as (keysB bs) := laps_paired (tb.mono (Tups.same sL))
    refine ⟨L, as, keysB bs, rfl, SqL.of eL, hpair, fun d nd => ?_⟩
    have sd : Same H (upd H1 d (.dK (mergeK [] (keysB bs)))) := same_new sL nd
    have ed : upd H1 d (.dK (mergeK [] (keysB bs))) d = some (.dK (mergeK [] (keysB bs))) := upd_same
    generalize upd H1 d (.dK (mergeK [] (keysB bs))) = H2 at sd ed
    refine ⟨Nat.zero_le _, fun D nD => ⟨_, _, rfl, ?_⟩⟩
    have sD : Same H2 (upd H2 D (.lst [])) := same_new (Same.refl _) nD
    have eD : upd H2 D (.lst []) D = some (.lst []) := upd_same
    generalize upd H2 D (.lst []) = H3 at sD eD
    refine ⟨_, rfl, _, _, rfl, rfl, _, rfl, by omega, by omega, ?_⟩
    have hlap : ∀ now, 0 ≤ lapAt now bs := fun now => lap_nonneg fun x hx => (hb.2 x hx).2
    refine for_range (n := (m + 1).toNat) (fun i σ' H' => ∃ (x4 : Option V) (o : Addr), σ' = [some (.int m), some (.ref b), some (.ref d), some (.ref o), x4] ∧ Same H2 H' ∧ H' o = some (.lst ((if (i : Int) ≤ m then stG [] 0 bs i else stoodOf m bs).map V.int))) ⟨_, D, rfl, sD, ?_⟩ (fun i σ' H' hi hm => ?_) (fun σ' H' hm => ?_)
    · rw [if_pos (show ((0 : Nat) : Int) ≤ m by omega)]
      exact eD
    · obtain ⟨x4, o, rfl, sm, eo⟩ := hm
      have him : (i : Int) ≤ m := by omega
      rw [if_pos him] at eo
      have hlen := stG_len [] 0 bs i
      refine ⟨_, rfl, _, rfl, o, _, rfl, .inl (SqL.of eo), ?_⟩
      refine ⟨_, rfl, d, rfl, .inl ⟨_, .inl (sm _ _ ed)⟩, _, rfl, _, DGet.k (k := Sum.inl (0 + (i : Int))) (sm _ _ ed), ?_⟩
      rw [laps_val hb.1, Int.zero_add]
      refine ⟨_, _, rfl, rfl, _, _, rfl, _, rfl, o, _, rfl, SqL.of eo, fun z nz => ?_⟩
      have nzH2 := sm.free nz
      have sz : Same H2 (upd H' z (.lst (cutV ((stG [] 0 bs i).map V.int) none (some (if (((stG [] 0 bs i).map V.int).length : Int) - lapAt (i : Int) bs > 0 then (((stG [] 0 bs i).map V.int).length : Int) - lapAt (i : Int) bs else 0))))) := same_new sm nz
      have ez : upd H' z (.lst (cutV ((stG [] 0 bs i).map V.int) none (some (if (((stG [] 0 bs i).map V.int).length : Int) - lapAt (i : Int) bs > 0 then (((stG [] 0 bs i).map V.int).length : Int) - lapAt (i : Int) bs else 0)))) z = some (.lst ((cutL' (stG [] 0 bs i) (lapAt (i : Int) bs)).map V.int)) := by rw [upd_same, cut_slice _ (hlap _)]
      generalize upd H' z (.lst (cutV ((stG [] 0 bs i).map V.int) none (some (if (((stG [] 0 bs i).map V.int).length : Int) - lapAt (i : Int) bs > 0 then (((stG [] 0 bs i).map V.int).length : Int) - lapAt (i : Int) bs else 0)))) = H4 at sz ez
      have hcl : (cutL' (stG [] 0 bs i) (lapAt (i : Int) bs)).length ≤ i := by
        unfold cutL'
        rw [List.length_take]
        have : ([] : List Int).length = 0 := rfl
        omega
      refine ⟨_, rfl, _, rfl, _, _, rfl, rfl, _, rfl, ite2 (fun e => ?_) (fun e => ?_)⟩
      · have e : (i : Int) < m := of_decide_eq_true e
        refine ⟨_, rfl, .inl ⟨rfl, _, SqL.of ez⟩, _, rfl, z, _, _, rfl, rfl, ez, (by rw [List.length_map]; exact small1000 (by omega)), ?_⟩
        refine ⟨_, z, rfl, same_mine sz nzH2, ?_⟩
        rw [upd_same, if_pos (show ((i + 1 : Nat) : Int) ≤ m by omega)]
        show _ = some (HO.lst ((cutL' (stG [] 0 bs i) (lapAt (0 + (i : Int)) bs) ++ [0 + (i : Int)]).map V.int))
        rw [Int.zero_add, List.map_append]
        rfl
      · have e : ¬ (i : Int) < m := fun h => e (decide_eq_true h)
        have ei : (i : Int) = m := by omega
        refine ⟨_, z, rfl, sz, ?_⟩
        rw [if_neg (show ¬ ((i + 1 : Nat) : Int) ≤ m by omega), ez]
        unfold stoodOf
        rw [← ei, Int.toNat_natCast]
    · obtain ⟨x4, o, rfl, sm, eo⟩ := hm
      rw [if_neg (show ¬ (((m + 1).toNat : Nat) : Int) ≤ m by omega)] at eo
      refine ⟨_, rfl, q _ o (sd.trans sm) eo ?_⟩
      unfold stoodOf cutL'
      rw [List.length_take]
      have := stG_len [] 0 bs m.toNat
      have h0 : ([] : List Int).length = 0 := rfl
      omega
theorem ok__law_runs_of {f : Addr} {fd : FuncData} {k : Nat} (F : Fun K "_law_runs_of" "_law_runs_of" s__law_runs_of f fd) (bi : Bi mg) : FnOk P w K mg base CX0 (k + 1) f fd P__law_runs_of spRunsOf := by
  refine F.ok sc__law_runs_of (fun vs H Q E h => ?_) (fun cdv A outer s H vs Q E hr h => ?_)
  · obtain ⟨a, xs, rfl, _⟩ := h
    rfl
  · obtain ⟨a, xs, rfl, ea, hl, bd, q⟩ := h
    have hu64 := hr.units
    refine ⟨_, (pss_cons (ps_set (i := 1) sc__law_runs_of.nd rfl (.inl rfl) (pe_lst pa_nil))
    (pss_cons (ps_for PassesOwn.never rfl (pi_list (pv 0)) (pg_name (i := 2) sc__law_runs_of.nd rfl (.inl rfl))
      (pss_one (ps_if (pw_and (pt_cmpR (op_neD hu64) (pv 1) (pe_lst pa_nil) (nomark _)) (pw_and1 (pt_cmpR op_eq (pe_ix ix_tup (pe_ix ix_list (pv 1) (pe_un un_neg pe_int) (fun _ _ => rfl)) pe_int (fun _ _ => rfl)) (pv 2) (nomark _)))).pt
          (pss_one (ps_asg (pe_tup (pa_cons (pe_ix ix_tup (pe_ix ix_list (pv 1) (pe_un un_neg pe_int) (fun _ _ => rfl)) pe_int (fun _ _ => rfl)) (pa_cons (pe_op op_add (pv 2) pe_int) pa_nil))) (pg_sub (pv 1) (pe_un un_neg pe_int) set_list)))
          (pss_one (ps_expr (pe_bm PySem.F.plainAttrs_list PySem.F.slot_list_append PySem.F.type_list_append mt_append (pv 1) (pa_cons (pe_tup (pa_cons (pv 2) (pa_cons (pe_op op_add (pv 2) pe_int) pa_nil))) pa_nil)))))))
    (pss_one (ps_ret (pe_callTy call_tuple_of (by rfl) bi.m_tuple (by decide +kernel) (pa_cons (pv 1) pa_nil)))))), ?_⟩
    refine ⟨Nat.zero_le _, fun D nD => ?_⟩
    have sD : Same H (upd H D (.lst [])) := same_new (Same.refl _) nD
    refine ⟨_, rfl, a, rfl, ⟨_, SqL.of (sD _ _ ea)⟩, for_list (xs := xs.map V.int) (fun i σ' H' => ∃ (x2 : Option V) (cs : List Addr), σ' = [some (.ref a), some (.ref D), x2] ∧ Same H H' ∧ H' D = some (.lst (cs.map V.ref)) ∧ TupsAt H' cs ((runsOf [] (xs.take i)).map stepV) ∧ (runsOf [] (xs.take i)).length ≤ i ∧ ∀ r ∈ runsOf [] (xs.take i), 0 ≤ r.1 ∧ r.1 < 2 ^ 250 ∧ 0 ≤ r.2 ∧ r.2 < 2 ^ 250) ⟨_, [], rfl, sD, upd_same, TupsAt.nil, Nat.le_refl _, fun r hr => by cases hr⟩ (fun i σ' H' hi hm => ?_) (fun i x σ' H' hx hm => ?_) (fun σ' H' hm => ?_)⟩
    · obtain ⟨_, _, _, sm, _⟩ := hm
      exact SqL.of (sm _ _ ea)
    · obtain ⟨x2, cs, rfl, sm, eD, tc, hRl, hbd⟩ := hm
      obtain ⟨x, rfl, ex⟩ := int_get hx
      obtain ⟨x0, x1⟩ := bd x (List.mem_of_getElem? ex)
      have hi : i < xs.length := (List.getElem?_eq_some_iff.mp ex).1
      have et : runsOf [] (xs.take (i + 1)) = wRun (runsOf [] (xs.take i)) x (x + 1) := by
        rw [List.take_add_one, ex]
        exact runsOf_snoc _ _
      rw [et]
      have hwl := wRun_len (runsOf [] (xs.take i)) x (x + 1)
      have hwb := wRun_bd hbd x0 x1
      generalize runsOf [] (xs.take i) = R at tc hRl hbd hwl hwb
      have hcl : cs.length ≤ 1000 := by
        rw [tc.1, List.length_map]
        omega
      -- where a new one is put
      have fresh : wRun R x (x + 1) = R ++ [(x, x + 1)] → ∀ H2, Same H' H2 → tDrop (tBM K "list" rAppend (tVar 1) (tCons (tTup (tCons (tVar 2) (tCons (tOp (rI0 fun i j => V.int (i + j)) (tVar 2) (tC (V.int 1))) tNil))) tNil)) { nx := fun σ' H' => ∃ (x2 : Option V) (cs : List Addr), σ' = [some (.ref a), some (.ref D), x2] ∧ Same H H' ∧ H' D = some (.lst (cs.map V.ref)) ∧ TupsAt H' cs ((wRun R x (x + 1)).map stepV) ∧ (wRun R x (x + 1)).length ≤ i + 1 ∧ ∀ r ∈ wRun R x (x + 1), 0 ≤ r.1 ∧ r.1 < 2 ^ 250 ∧ 0 ≤ r.2 ∧ r.2 < 2 ^ 250, rt := Q } [some (.ref a), some (.ref D), some (.int x)] H2 := fun ew H2 s2 => by
        have eD2 := s2 _ _ eD
        refine ⟨_, rfl, .inl ⟨rfl, _, SqL.of eD2⟩, _, rfl, _, rfl, _, _, rfl, rfl, (by show 2 ≤ sizeLine; decide), fun z nz => ?_⟩
        have sz : Same H2 (upd H2 z (.tup [.int x, .int (x + 1)])) := same_new (Same.refl _) nz
        have ez : upd H2 z (.tup [.int x, .int (x + 1)]) z = some (.tup (stepV (x, x + 1))) := upd_same
        generalize upd H2 z (.tup [.int x, .int (x + 1)]) = H3 at sz ez
        have eD3 := sz _ _ eD2
        refine ⟨D, _, _, rfl, rfl, eD3, (by rw [List.length_map]; exact small2000 (by omega)), ?_⟩
        refine ⟨_, cs ++ [z], rfl, same_mine (sm.trans (s2.trans sz)) nD, ?_, ?_, by omega, hwb⟩
        · rw [upd_same, List.map_append]
          rfl
        · rw [ew, List.map_append]
          exact ((tc.mono (Tups.same (s2.trans sz))).snoc ez).mono (Tups.ls eD3)
      refine ⟨_, rfl, Nat.zero_le _, fun y ny => ?_⟩
      have sy : Same H' (upd H' y (.lst [])) := same_new (Same.refl _) ny
      have ey : upd H' y (.lst []) y = some (.lst []) := upd_same
      generalize upd H' y (.lst []) = H2 at sy ey
      have eD2 := sy _ _ eD
      have tc2 := tc.mono (Tups.same sy)
      refine ⟨.list (R.map prD), .list [], .lst (SqL.of eD2) (runs_dp tc2), .lst (SqL.of ey) .nil, (runs_shaped hbd).1, rfl, ?_⟩
      rcases snoc_of R with rfl | ⟨A, a1, b1, rfl⟩
      · refine ⟨_, rfl, iteF (iteF ?_)⟩
        exact fresh (by rw [wRun_nil (by omega)]; rfl) H2 sy
      · have ene : (!PyData.eqv (.list ((A ++ [(a1, b1)]).map prD)) (.list [])) = true := by
          cases A <;> rfl
        rw [ene]
        obtain ⟨ds, c, rfl, td, ec⟩ := tups_snoc tc2
        have eal : atI ((ds ++ [c]).map V.ref) (-1) = some (.ref c) := by
          rw [List.map_append]
          exact atI_last _ _
        refine ⟨_, rfl, iteT ?_⟩
        refine ⟨_, rfl, _, rfl, D, _, _, _, rfl, rfl, SqL.of eD2, eal, c, _, _, _, rfl, rfl, SqT.of ec, atI_nat (j := 1) rfl, _, rfl, rfl, _, rfl, ite2 (fun e2 => ?_) (fun e2 => ?_)⟩
        · have e2 : b1 = x := by
            have := of_decide_eq_true e2
            injection this
          subst e2
          refine ⟨_, rfl, _, rfl, D, _, _, _, rfl, rfl, SqL.of eD2, eal, c, _, _, _, rfl, rfl, SqT.of ec, atI_nat (j := 0) rfl, _, rfl, _, _, rfl, rfl, (by show 2 ≤ sizeLine; decide), fun z nz => ?_⟩
          have sz : Same H2 (upd H2 z (.tup [.int a1, .int (b1 + 1)])) := same_new (Same.refl _) nz
          have ez : upd H2 z (.tup [.int a1, .int (b1 + 1)]) z = some (.tup (stepV (a1, b1 + 1))) := upd_same
          generalize upd H2 z (.tup [.int a1, .int (b1 + 1)]) = H3 at sz ez
          have eD3 := sz _ _ eD2
          have eix : ixN ((ds ++ [c]).map V.ref).length (-1) = some ds.length := by
            rw [List.length_map, List.length_append]
            show ixN (ds.length + 1) (-1) = _
            unfold ixN
            rw [if_neg (by decide)]
            show (if -((ds.length + 1 : Nat) : Int) ≤ -1 then some (-1 + ((ds.length + 1 : Nat) : Int)).toNat else none) = _
            rw [if_pos (by omega)]
            congr 1
            omega
          refine ⟨_, rfl, _, rfl, D, _, _, _, rfl, rfl, eD3, eix, ?_⟩
          refine ⟨_, ds ++ [z], rfl, same_mine (sm.trans (sy.trans sz)) nD, ?_, ?_, by omega, hwb⟩
          · rw [upd_same, List.map_append, List.map_append]
            show some (HO.lst ((ds.map V.ref ++ [V.ref c]).set ds.length (V.ref z))) = _
            rw [List.set_append_right _ _ (by rw [List.length_map]; exact Nat.le_refl _), List.length_map, Nat.sub_self]
            rfl
          · have em : (A ++ [(a1, b1 + 1)]).map stepV = A.map stepV ++ [stepV (a1, b1 + 1)] := List.map_append
            rw [wRun_snoc (by omega), if_pos rfl, em]
            exact ((td.mono (Tups.same sz)).snoc ez).mono (Tups.ls eD3)
        · have e2 : ¬ b1 = x := fun h => e2 (decide_eq_true (by rw [h]))
          exact fresh (by rw [wRun_snoc (by omega), if_neg e2]) H2 sy
    · obtain ⟨x2, cs, rfl, sm, eD, tc, hRl, hbd⟩ := hm
      rw [List.length_map, List.take_length] at tc
      refine ⟨_, rfl, D, _, rfl, .inl ⟨SqL.of eD, fun o no => ?_⟩⟩
      exact q _ o (same_new sm no) ⟨cs, upd_same, tc.mono (Tups.new no)⟩
theorem ok__law_near_right {fS fL fK fR fM f : Addr} {fdS fdL fdK fdR fdM fd : FuncData} (F : Fun K "_law_near_right" "_law_near_right" s__law_near_right f fd) (bi : Bi mg) (C__law_stood : Cal P w K mg base "_law_stood" P__law_stood 1 spStood34 fS fdS) (C_left : Cal P w K mg base "left" P_left 2 spLeft fL fdL)
    (C_kept_moments : Cal P w K mg base "kept_moments" P_kept_moments 3 spKept fK fdK) (C__law_runs_of : Cal P w K mg base "_law_runs_of" P__law_runs_of 1 spRunsOf fR fdR) (C_moment_of : Cal P w K mg base "moment_of" P_moment_of 4 spMomentOf fM fdM) : FnOk P w K mg base CX0 5 f fd P__law_near_right spNear34 := by
  refine F.ok sc__law_near_right (fun vs H Q E h => ?_) (fun cdv A outer s H vs Q E hr h => ?_)
  · obtain ⟨m, b, bs, rfl, _⟩ := h
    rfl
  · obtain ⟨m, b, bs, rfl, hb, m0, m1, q⟩ := h
    have hu64 := hr.units
    refine ⟨_, (pss_cons (ps_set (i := 2) sc__law_near_right.nd rfl (.inl rfl) (pe_call (C__law_stood.G.mono (by decide)) hr (by rfl) C__law_stood.g C__law_stood.kp C__law_stood.b .nil pass0 (pa_cons (pv 0) (pa_cons (pv 1) pa_nil))))
    (pss_cons (ps_set (i := 3) sc__law_near_right.nd rfl (.inl rfl) (pe_call (C_left.G.mono (by decide)) hr (by rfl) C_left.g C_left.kp C_left.b .nil pass0 (pa_cons (pv 0) (pa_cons (pv 1) pa_nil))))
    (pss_cons (ps_if (pw_or (pt_not (pt_val (pe_callB call_isi (by rfl) bi.m_isinstance (by decide +kernel) (pa_cons (pv 3) (pa_cons (pe_bltn (v := .ty "int") (by rfl) bi.m_int (by decide +kernel) rfl) pa_nil))))) (pw_or (pt_val (pe_callB call_isi (by rfl) bi.m_isinstance (by decide +kernel) (pa_cons (pv 3) (pa_cons (pe_bltn (v := .ty "bool") (by rfl) bi.m_bool (by decide +kernel) rfl) pa_nil)))) (pw_or1 (pt_cmpR op_ne (pv 3) (pe_callB call_len_seq (by rfl) bi.m_len (by decide +kernel) (pa_cons (pv 2) pa_nil)) (nomark _))))).pt
      (pss_one (ps_ret pe_bl))
      pss_nil)
    (pss_cons (ps_set (i := 4) sc__law_near_right.nd rfl (.inl rfl) (pe_call (C_kept_moments.G.mono (by decide)) hr (by rfl) C_kept_moments.g C_kept_moments.kp C_kept_moments.b .nil pass0 (pa_cons (pv 0) (pa_cons (pv 1) pa_nil))))
    (pss_cons (ps_if (pw_or (pt_not (pt_val (pe_callB call_isi (by rfl) bi.m_isinstance (by decide +kernel) (pa_cons (pv 4) (pa_cons (pe_bltn (v := .ty "tuple") (by rfl) bi.m_tuple (by decide +kernel) rfl) pa_nil))))) (pw_or (pt_cmpR (op_neD hu64) (pv 4) (pe_call (C__law_runs_of.G.mono (by decide)) hr (by rfl) C__law_runs_of.g C__law_runs_of.kp C__law_runs_of.b .nil pass0 (pa_cons (pv 2) pa_nil)) (nomark _)) (pw_or1 (pt_not (pt_val (pe_callB (cr_all rfl) (by rfl) bi.m_all (by decide +kernel) (pa_cons (pe_lc (own := [("_law_run", 6)]) (g := (gName 6)) (tt := tYes) (te := (tCB (rIsi K) (tCons (tVar 6) (tCons (tC (.ty "tuple")) tNil)))) rfl sc__law_near_right.nd (pi_tup (pv 4)) (blkOk_by (N := N__law_near_right) (sc := defScope s__law_near_right) (by decide +kernel)) (fun _ _ _ _ _ => (pg_name (i := 6) sc__law_near_right.nd rfl (.inl rfl) (.inr rfl))) (fun _ _ _ _ _ => pts_nil) (fun _ _ _ _ _ => (pe_callB call_isi (by rfl) bi.m_isinstance (by decide +kernel) (pa_cons (pv 6) (pa_cons (pe_bltn (v := .ty "tuple") (by rfl) bi.m_tuple (by decide +kernel) rfl) pa_nil))))) pa_nil))))))).pt
      (pss_one (ps_ret pe_bl))
      pss_nil)
    (pss_one (ps_ret (pe_cmpR (op_eqD hu64) (pe_lc (own := [("_law_place", 5)]) (g := (gName 5)) (tt := tYes) rfl sc__law_near_right.nd (pi_range1 rfl bi.m_range (pa_cons (pe_callB call_len_seq (by rfl) bi.m_len (by decide +kernel) (pa_cons (pv 2) pa_nil)) pa_nil)) (blkOk_by (N := N__law_near_right) (sc := defScope s__law_near_right) (by decide +kernel)) (fun _ _ _ _ _ => (pg_name (i := 5) sc__law_near_right.nd rfl (.inl rfl) (.inr rfl))) (fun _ _ _ _ _ => pts_nil) (fun _ _ _ _ _ => (pe_call (C_moment_of.G.mono (by decide)) hr (by rfl) C_moment_of.g C_moment_of.kp C_moment_of.b .nil pass0 (pa_cons (pv 5) (pa_cons (pv 0) (pa_cons (pv 1) pa_nil)))))) (pv 2) (nomark _))))))))), ?_⟩
    have hri := hb.2.2
    have okR := kept_ok (m := m) hri m0
    have eS := stood_kept (m := m) hri m0
    have eL := left_kept (m := m) hri m0
    have bdR : ∀ r ∈ keptOf m bs, 0 ≤ r.1 ∧ r.1 < 2 ^ 250 ∧ 0 ≤ r.2 ∧ r.2 < 2 ^ 250 := fun r hr => by
      have := okR.2 r hr
      have h2 : (900 : Int) < 2 ^ 250 := by decide
      omega
    refine ⟨_, rfl, _, rfl, m, b, bs, rfl, hb, m0, m1, fun H1 o s1 eo hol => ?_⟩
    rw [← eS] at eo hol
    have hmem : ∀ x ∈ expR (keptOf m bs), 0 ≤ x ∧ x < 2 ^ 200 := fun x hx => by
      obtain ⟨r, hr, h1⟩ := mem_exp.mp hx
      have := okR.2 r hr
      have h2 : (900 : Int) < 2 ^ 200 := by decide
      omega
    have hruns : runsOf [] (expR (keptOf m bs)) = keptOf m bs := by
      rw [runs_exp _ [] okR.1 (fun r hr => (okR.2 r hr).2.1) fun r hr => by cases hr]
      rfl
    refine ⟨_, rfl, _, rfl, m, b, bs, rfl, hb.same s1, fun H2 s2 => ?_⟩
    rw [← eL]
    have eo2 := s2 _ _ eo
    have hlenm : ((expR (keptOf m bs)).map V.int).length = (expR (keptOf m bs)).length := List.length_map V.int
    refine ⟨_, rfl, _, _, _, _, _, rfl, ClsV.ty "int", .base (.int _), kit_ty (show kitB "int" "int" = some true by decide +kernel), _, rfl, iteNT ?_⟩
    refine ⟨_, rfl, _, _, _, _, _, rfl, ClsV.ty "bool", .base (.int _), kit_ty (show kitB "int" "bool" = some false by decide +kernel), _, rfl, iteF ?_⟩
    refine ⟨_, rfl, _, rfl, o, _, rfl, .inl (SqL.of eo2), rfl, _, rfl, ?_⟩
    rw [hlenm, show (!decide (V.int ((expR (keptOf m bs)).length : Int) = V.int ((expR (keptOf m bs)).length : Int))) = false by rw [decide_eq_true rfl]; rfl]
    refine iteF ?_
    -- the runs
    refine ⟨_, rfl, _, rfl, m, b, bs, rfl, (hb.same s1).same s2, m0, fun H3 r s3 hr3 hkl => ?_⟩
    have hr3' := hr3
    obtain ⟨as, er, tr⟩ := hr3'
    have hal : as.length = (keptOf m bs).length := by rw [tr.1, List.length_map]
    refine ⟨_, rfl, _, _, _, _, _, rfl, ClsV.ty "tuple", .base (.tup er), kit_ty (show kitB "tuple" "tuple" = some true by decide +kernel), _, rfl, iteNT ?_⟩
    refine ⟨_, rfl, _, rfl, o, _, rfl, s3 _ _ eo2, hol, hmem, fun H4 o4 s4 h4 => ?_⟩
    rw [hruns] at h4
    refine runs_ne (hr3.mono (Tups.same s4)) h4 bdR ⟨_, rfl, iteF ?_⟩
    have er4 := s4 _ _ er
    have tr4 := tr.mono (Tups.same s4)
    refine ⟨_, rfl, r, rfl, ⟨_, SqT.of er4⟩, fun D nD => ?_⟩
    refine lc_tup (xs := as.map V.ref) (fun i H' => Same H4 H' ∧ H' D = some (.lst ((List.replicate i true).map V.bl))) ⟨same_new (Same.refl _) nD, upd_same⟩ (fun i H' hi hm => SqT.of (hm.1 _ _ er4)) (fun i x H' hx hm => ?_) (fun H5 hm => ?_)
    · obtain ⟨sm, eD⟩ := hm
      obtain ⟨c, t, lap, rfl, ep, ec⟩ := step_get tr4 hx
      have hi : i < (keptOf m bs).length := (List.getElem?_eq_some_iff.mp ep).1
      refine ⟨rfl, yesIte ?_⟩
      refine ⟨_, rfl, _, _, _, _, _, rfl, ClsV.ty "tuple", .base (.tup (sm _ _ ec)), kit_ty (show kitB "tuple" "tuple" = some true by decide +kernel), ?_⟩
      refine ⟨_, eD, ?_, same_mine sm nD, ?_⟩
      · rw [List.length_map, List.length_replicate]
        exact small1000 (by omega)
      · rw [upd_same, List.replicate_succ', List.map_append]
        rfl
    obtain ⟨sm5, eD5⟩ := hm
    refine ⟨D, _, rfl, SqL.of eD5, _, rfl, ?_⟩
    have eall : (List.replicate (as.map V.ref).length true).all id = true := by
      rw [List.all_replicate]
      split <;> rfl
    rw [eall]
    refine iteNT ?_
    -- each place
    have s25 := s3.trans (s4.trans sm5)
    have s05 := (s1.trans s2).trans s25
    have eo5 := s25 _ _ eo2
    refine ⟨_, rfl, o, _, rfl, .inl (SqL.of eo5), _, rfl, by rw [hlenm]; omega, by rw [hlenm]; omega, fun D2 nD2 => ?_⟩
    rw [hlenm, Int.toNat_natCast]
    refine lc_range (n := (expR (keptOf m bs)).length) (fun i H' => Same H5 H' ∧ H' D2 = some (.lst (((expR (keptOf m bs)).take i).map V.int))) ⟨same_new (Same.refl _) nD2, upd_same⟩ (fun i H' hi hm => ?_) (fun H6 hm => ?_)
    · obtain ⟨sm, eD⟩ := hm
      have ev : (expR (keptOf m bs))[i]? = some ((expR (keptOf m bs))[i]) := List.getElem?_eq_getElem hi
      refine ⟨rfl, yesIte ?_⟩
      rw [Int.zero_add]
      refine ⟨_, rfl, _, rfl, _, rfl, i, m, b, bs, _, rfl, (hb.same s05).same sm, m0, ev, fun H7 s7 => ?_⟩
      refine ⟨_, s7 _ _ eD, ?_, same_mine (sm.trans s7) nD2, ?_⟩
      · rw [List.length_map, List.length_take]
        exact small2000 (by omega)
      · rw [upd_same, List.take_add_one, ev, List.map_append]
        rfl
    obtain ⟨sm6, eD6⟩ := hm
    rw [List.take_length] at eD6
    refine ⟨_, rfl, ints_ld eD6 (sm6 _ _ eo5) ?_⟩
    exact q _ (s05.trans sm6)
theorem ok__law_far_left {f : Addr} {fd : FuncData} {k : Nat} (F : Fun K "_law_far_left" "_law_far_left" s__law_far_left f fd) (bi : Bi mg) : FnOk P w K mg base CX0 (k + 1) f fd P__law_far_left spLeft := by
  refine F.ok sc__law_far_left (fun vs H Q E h => ?_) (fun cdv A outer s H vs Q E hr h => ?_)
  · obtain ⟨m, b, bs, rfl, _⟩ := h
    rfl
  · obtain ⟨m, b, bs, rfl, hb, q⟩ := h
    refine ⟨_, (pss_cons (ps_asg (pe_tup (pa_cons pe_int (pa_cons pe_int pa_nil))) (pg_tup rfl (pgs_cons (pg_name (i := 2) sc__law_far_left.nd rfl (.inl rfl)) (pgs_cons (pg_name (i := 3) sc__law_far_left.nd rfl (.inl rfl)) pgs_nil))))
    (pss_cons (ps_for PassesOwn.never rfl (pi_tup (pv 1)) (pg_tup rfl (pgs_cons (pg_name (i := 4) sc__law_far_left.nd rfl (.inl rfl)) (pgs_cons (pg_name (i := 5) sc__law_far_left.nd rfl (.inl rfl)) pgs_nil)))
      (pss_one (ps_if (pt_cmpR op_le (pv 4) (pv 0) (nomark _))
          (pss_one (ps_par (i := 2) (j := 3) rfl sc__law_far_left.nd rfl rfl (by decide) rfl rfl (pa_cons (pe_callB (call_max2 rfl) (by rfl) bi.m_max (by decide +kernel) (pa_cons pe_int (pa_cons (pe_op op_sub (pe_op op_sub (pe_op op_add (pv 2) (pv 4)) (pv 3)) (pv 5)) pa_nil))) (pa_cons (pv 4) pa_nil)) rfl))
          pss_nil)))
    (pss_one (ps_ret (pe_op op_sub (pe_op op_add (pv 2) (pv 0)) (pv 3)))))), ?_⟩
    obtain ⟨⟨as, eb, tb⟩, hl, hri⟩ := hb
    have hal : as.length = bs.length := by rw [tb.1, List.length_map]
    refine ⟨(by show 2 ≤ sizeLine; decide), fun z nz => ?_⟩
    have sz : Same H (upd H z (.tup [.int 0, .int 0])) := same_new (Same.refl _) nz
    have ez : upd H z (.tup [.int 0, .int 0]) z = some (.tup [.int 0, .int 0]) := upd_same
    refine ⟨z, _, rfl, SqT.of ez, rfl, _, _, rfl, _, _, rfl, rfl, ?_⟩
    generalize upd H z (.tup [.int 0, .int 0]) = H1 at sz ez
    refine ⟨_, rfl, b, rfl, ⟨_, SqT.of (sz _ _ eb)⟩, for_tup (xs := as.map V.ref) (fun i σ' H' => ∃ (x4 x5 : Option V) (n st : Int), σ' = [some (.int m), some (.ref b), some (.int n), some (.int st), x4, x5] ∧ H' = H1 ∧ RiseB st (bs.drop i) ∧ leftN m n st (bs.drop i) = leftN m 0 0 bs) ⟨_, _, 0, 0, rfl, rfl, hri, rfl⟩ (fun i σ' H' hi hm => ?_) (fun i x σ' H' hx hm => ?_) (fun σ' H' hm => ?_)⟩
    · obtain ⟨_, _, _, _, _, rfl, _⟩ := hm
      exact SqT.of (sz _ _ eb)
    · obtain ⟨x4, x5, n, st, rfl, rfl, hri', ek⟩ := hm
      obtain ⟨c, t, lap, rfl, ep, ec⟩ := step_get tb hx
      rw [drop_cons ep] at hri' ek
      obtain ⟨hr', hlt⟩ := hri'.tail
      have ht := hri'.2 (t, lap) List.mem_cons_self
      have ht : st ≤ t ∧ 0 ≤ lap := ht
      refine ⟨c, _, rfl, SqT.of (sz _ _ ec), rfl, _, _, rfl, _, _, rfl, rfl, ?_⟩
      refine ⟨_, rfl, _, rfl, _, _, rfl, rfl, _, rfl, ite2 (fun e => ?_) (fun e => ?_)⟩
      · have e : t ≤ m := of_decide_eq_true e
        rw [left_behind e] at ek
        refine ⟨_, rfl, _, rfl, _, _, rfl, rfl, _, rfl, _, _, rfl, rfl, _, rfl, _, _, rfl, rfl, _, _, rfl, _, rfl, _, _, rfl, ?_⟩
        exact ⟨_, _, mx0 (n + t - st - lap), t, rfl, rfl, hr', ek⟩
      · have e : ¬ t ≤ m := fun h => e (decide_eq_true h)
        have hall : ∀ b ∈ (t, lap) :: bs.drop (i + 1), m < b.1 := fun b hb => by
          rcases List.mem_cons.mp hb with rfl | hb
          · show m < t
            omega
          · have := hlt b hb
            omega
        rw [left_ahead hall] at ek
        refine ⟨_, _, n, st, rfl, rfl, ⟨hr'.1, fun b hb => ⟨by have := hlt b hb; omega, (hr'.2 b hb).2⟩⟩, ?_⟩
        rw [left_ahead fun b hb => hall b (List.mem_cons_of_mem _ hb)]
        exact ek
    · obtain ⟨x4, x5, n, st, rfl, rfl, _, ek⟩ := hm
      rw [List.length_map, hal, List.drop_length] at ek
      refine ⟨_, rfl, _, rfl, _, _, rfl, rfl, _, rfl, _, _, rfl, rfl, ?_⟩
      have := q _ sz
      rw [← ek] at this
      exact this
theorem ok__law_is_kept {fL f : Addr} {fdL fd : FuncData} (F : Fun K "_law_is_kept" "_law_is_kept" s__law_is_kept f fd) (bi : Bi mg) (C__law_far_left : Cal P w K mg base "_law_far_left" P__law_far_left 1 spLeft fL fdL) : FnOk P w K mg base CX0 2 f fd P__law_is_kept spIsKept := by
  refine F.ok sc__law_is_kept (fun vs H Q E h => ?_) (fun cdv A outer s H vs Q E hr h => ?_)
  · obtain ⟨x, m, b, bs, k, rfl, _⟩ := h
    rfl
  · obtain ⟨x, m, b, bs, k, rfl, hb, hk, q⟩ := h
    refine ⟨_, (pss_cons (ps_set (i := 3) sc__law_is_kept.nd rfl (.inr rfl) (pe_call (C__law_far_left.G.mono (by decide)) hr (by rfl) C__law_far_left.g C__law_far_left.kp C__law_far_left.b .nil pass0 (pa_cons (pv 0) (pa_cons (pv 2) pa_nil))))
    (pss_one (ps_ret (pe_callB (cr_all rfl) (by rfl) bi.m_all (by decide +kernel) (pa_cons (pe_lc (own := [("_law_at", 4), ("_law_lap", 5)]) (g := (gTup K 2 (gCons (gName 4) (gCons (gName 5) gNil)))) rfl sc__law_is_kept.nd (pi_tup (pv 2)) (blkOk_by (N := N__law_is_kept) (sc := defScope s__law_is_kept) (by decide +kernel)) (fun _ _ _ _ _ => (pg_tup rfl (pgs_cons (pg_name (i := 4) sc__law_is_kept.nd rfl (.inl rfl) (.inr rfl)) (pgs_cons (pg_name (i := 5) sc__law_is_kept.nd rfl (.inl rfl) (.inr rfl)) pgs_nil)))) (fun _ _ _ _ _ => (pts_one (pt_chain op_lt op_le (pv 0) (pv 4) (pv 1)))) (fun _ _ _ _ _ => (pe_cmpR op_gt (pe_call (C__law_far_left.G.mono (by decide)) hr (by rfl) C__law_far_left.g C__law_far_left.kp C__law_far_left.b .nil pass0 (pa_cons (pv 4) (pa_cons (pv 2) pa_nil))) (pv 3) (nomark _)))) pa_nil))))), ?_⟩
    refine ⟨_, rfl, _, rfl, x, b, bs, rfl, hb, fun H1 s1 => ?_⟩
    obtain ⟨⟨as, eb, tb⟩, hl, hri⟩ := hb
    have hal : as.length = bs.length := by rw [tb.1, List.length_map]
    have hb1 : Brk H1 b bs := Brk.same ⟨⟨as, eb, tb⟩, hl, hri⟩ s1
    have eb1 := s1 _ _ eb
    have tb1 := tb.mono (Tups.same s1)
    refine ⟨_, rfl, b, rfl, ⟨_, SqT.of eb1⟩, fun D nD => ?_⟩
    refine lc_tup (xs := as.map V.ref) (fun i H' => ∃ ks : List Bool, Same H1 H' ∧ H' D = some (.lst (ks.map V.bl)) ∧ ks.length ≤ i ∧ (ks.all id = true ↔ ∀ c ∈ bs.take i, x < c.1 → c.1 ≤ m → leftN x 0 0 bs < leftN c.1 0 0 bs)) ⟨[], same_new (Same.refl _) nD, upd_same, Nat.le_refl _, ⟨(fun _ c hc => by cases hc), (fun _ => rfl)⟩⟩ (fun i H' hi hm => ?_) (fun i v H' hx hm => ?_) (fun H' hm => ?_)
    · obtain ⟨_, sm, _⟩ := hm
      exact SqT.of (sm _ _ eb1)
    · obtain ⟨ks, sm, eD, hkl, hks⟩ := hm
      obtain ⟨c, t, lap, rfl, ep, ec⟩ := step_get tb1 hx
      have hi : i < bs.length := (List.getElem?_eq_some_iff.mp ep).1
      have et : bs.take (i + 1) = bs.take i ++ [(t, lap)] := by
        rw [List.take_add_one, ep]
        rfl
      refine ⟨c, _, rfl, SqT.of (sm _ _ ec), rfl, _, _, rfl, _, _, rfl, rfl, ?_⟩
      have no : ¬ (x < t ∧ t ≤ m) → ∃ ks : List Bool, Same H1 H' ∧ H' D = some (.lst (ks.map V.bl)) ∧ ks.length ≤ i + 1 ∧ (ks.all id = true ↔ ∀ c ∈ bs.take (i + 1), x < c.1 → c.1 ≤ m → leftN x 0 0 bs < leftN c.1 0 0 bs) := fun hn => by
        refine ⟨ks, sm, eD, by omega, hks.trans ⟨fun hh c hc h1 h2 => ?_, fun hh c hc => hh c (by rw [et]; exact List.mem_append_left _ hc)⟩⟩
        rw [et] at hc
        rcases List.mem_append.mp hc with hc | hc
        · exact hh c hc h1 h2
        · rw [List.mem_singleton.mp hc] at h1 h2
          exact absurd ⟨h1, h2⟩ hn
      refine ⟨rfl, ?_⟩
      refine ⟨_, rfl, _, rfl, _, _, rfl, rfl, _, rfl, ite2 (fun e1 => ?_) (fun e1 => ?_)⟩
      · have e1 : x < t := of_decide_eq_true e1
        refine ⟨_, rfl, _, _, rfl, rfl, _, rfl, ite2 (fun e2 => ?_) (fun e2 => ?_)⟩
        · have e2 : t ≤ m := of_decide_eq_true e2
          refine ⟨_, rfl, _, rfl, t, b, bs, rfl, hb1.same sm, fun H2 s2 => ?_⟩
          refine ⟨_, rfl, _, _, rfl, rfl, ?_⟩
          refine ⟨_, s2 _ _ eD, (by rw [List.length_map]; exact small1000 (by omega)), ks ++ [decide (leftN x 0 0 bs < leftN t 0 0 bs)], same_mine (sm.trans s2) nD, ?_, ?_, ?_⟩
          · rw [upd_same, List.map_append]
            rfl
          · rw [List.length_append]
            show ks.length + 1 ≤ i + 1
            omega
          · rw [List.all_append, Bool.and_eq_true, hks, et]
            show (_ ∧ (decide (leftN x 0 0 bs < leftN t 0 0 bs) && true) = true) ↔ _
            rw [Bool.and_true, decide_eq_true_iff]
            constructor
            · rintro ⟨h1, h2⟩ c hc h3 h4
              rcases List.mem_append.mp hc with hc | hc
              · exact h1 c hc h3 h4
              · rw [List.mem_singleton.mp hc]
                exact h2
            · intro hh
              exact ⟨fun c hc => hh c (List.mem_append_left _ hc), hh (t, lap) (List.mem_append_right _ (List.mem_singleton.mpr rfl)) e1 e2⟩
        · have e2 : ¬ t ≤ m := fun h => e2 (decide_eq_true h)
          exact no fun z => e2 z.2
      · have e1 : ¬ x < t := fun h => e1 (decide_eq_true h)
        exact ⟨_, rfl, iteF (no fun z => e1 z.1)⟩
    · obtain ⟨ks, sm, eD, hkl, hks⟩ := hm
      rw [List.length_map, hal, List.take_length] at hks
      refine ⟨D, _, rfl, SqL.of eD, ?_⟩
      have : ks.all id = k := by
        rw [Bool.eq_iff_iff, hks, hk]
      rw [this]
      exact q _ (s1.trans sm)
theorem ok__law_far_right {fK fF fL fM fI f : Addr} {fdK fdF fdL fdM fdI fd : FuncData} (F : Fun K "_law_far_right" "_law_far_right" s__law_far_right f fd) (bi : Bi mg) (C_kept_moments : Cal P w K mg base "kept_moments" P_kept_moments 3 spKept fK fdK) (C__law_far_left : Cal P w K mg base "_law_far_left" P__law_far_left 1 spLeft fF fdF)
    (C_left : Cal P w K mg base "left" P_left 2 spLeft fL fdL) (C_moment_of : Cal P w K mg base "moment_of" P_moment_of 4 spMomentOf fM fdM) (C__law_is_kept : Cal P w K mg base "_law_is_kept" P__law_is_kept 2 spIsKept fI fdI) : FnOk P w K mg base CX0 5 f fd P__law_far_right spFar34 := by
  refine F.ok sc__law_far_right (fun vs H Q E h => ?_) (fun cdv A outer s H vs Q E hr h => ?_)
  · obtain ⟨m, b, bs, rfl, _⟩ := h
    rfl
  · obtain ⟨m, b, bs, rfl, hb, m0, q⟩ := h
    refine ⟨_, (pss_cons (ps_par (i := 2) (j := 3) rfl sc__law_far_right.nd rfl rfl (by decide) rfl rfl (pa_cons (pe_call (C_kept_moments.G.mono (by decide)) hr (by rfl) C_kept_moments.g C_kept_moments.kp C_kept_moments.b .nil pass0 (pa_cons (pv 0) (pa_cons (pv 1) pa_nil))) (pa_cons (pe_call (C__law_far_left.G.mono (by decide)) hr (by rfl) C__law_far_left.g C__law_far_left.kp C__law_far_left.b .nil pass0 (pa_cons (pv 0) (pa_cons (pv 1) pa_nil))) pa_nil)) rfl)
    (pss_cons (ps_if (pw_or (pt_cmpR op_ne (pe_call (C_left.G.mono (by decide)) hr (by rfl) C_left.g C_left.kp C_left.b .nil pass0 (pa_cons (pv 0) (pa_cons (pv 1) pa_nil))) (pv 3) (nomark _)) (pw_or1 (pt_cmpR op_ne (pe_callB (cr_sum rfl) (by rfl) bi.m_sum (by decide +kernel) (pa_cons (pe_lc (own := [("_law_start", 4), ("_law_end", 5)]) (g := (gTup K 2 (gCons (gName 4) (gCons (gName 5) gNil)))) (tt := tYes) rfl sc__law_far_right.nd (pi_tup (pv 2)) (blkOk_by (N := N__law_far_right) (sc := defScope s__law_far_right) (by decide +kernel)) (fun _ _ _ _ _ => (pg_tup rfl (pgs_cons (pg_name (i := 4) sc__law_far_right.nd rfl (.inl rfl) (.inr rfl)) (pgs_cons (pg_name (i := 5) sc__law_far_right.nd rfl (.inl rfl) (.inr rfl)) pgs_nil)))) (fun _ _ _ _ _ => pts_nil) (fun _ _ _ _ _ => (pe_op op_sub (pv 5) (pv 4)))) pa_nil)) (pv 3) (nomark _)))).pt
      (pss_one (ps_ret pe_bl))
      pss_nil)
    (pss_cons (ps_asg (pe_tup (pa_cons (pe_un un_neg pe_int) (pa_cons pe_int pa_nil))) (pg_tup rfl (pgs_cons (pg_name (i := 6) sc__law_far_right.nd rfl (.inl rfl)) (pgs_cons (pg_name (i := 7) sc__law_far_right.nd rfl (.inl rfl)) pgs_nil))))
    (pss_cons (ps_for PassesOwn.never rfl (pi_tup (pv 2)) (pg_tup rfl (pgs_cons (pg_name (i := 4) sc__law_far_right.nd rfl (.inl rfl)) (pgs_cons (pg_name (i := 5) sc__law_far_right.nd rfl (.inl rfl)) pgs_nil)))
      (pss_cons (ps_if (pt_not (pt_links op_lt op_lt op_le (pv 6) (pv 4) (pv 5) (pv 0)))
          (pss_one (ps_ret pe_bl))
          pss_nil)
        (pss_cons (ps_if (pw_or (pt_cmpR op_ne (pe_call (C_moment_of.G.mono (by decide)) hr (by rfl) C_moment_of.g C_moment_of.kp C_moment_of.b .nil pass0 (pa_cons (pv 7) (pa_cons (pv 0) (pa_cons (pv 1) pa_nil)))) (pv 4) (nomark _)) (pw_or1 (pt_cmpR op_ne (pe_call (C_moment_of.G.mono (by decide)) hr (by rfl) C_moment_of.g C_moment_of.kp C_moment_of.b .nil pass0 (pa_cons (pe_op op_sub (pe_op op_sub (pe_op op_add (pv 7) (pv 5)) (pv 4)) pe_int) (pa_cons (pv 0) (pa_cons (pv 1) pa_nil)))) (pe_op op_sub (pv 5) pe_int) (nomark _)))).pt
          (pss_one (ps_ret pe_bl))
          pss_nil)
        (pss_one (ps_par (i := 6) (j := 7) rfl sc__law_far_right.nd rfl rfl (by decide) rfl rfl (pa_cons (pv 5) (pa_cons (pe_op op_sub (pe_op op_add (pv 7) (pv 5)) (pv 4)) pa_nil)) rfl)))))
    (pss_cons (ps_set (i := 9) sc__law_far_right.nd rfl (.inl rfl) (pe_op op_cat (pe_op op_cat (pe_lc (own := [("_law_at", 8), ("_law_lap", 12)]) (g := (gTup K 2 (gCons (gName 8) (gCons (gName 12) gNil)))) (tt := tYes) rfl sc__law_far_right.nd (pi_tup (pv 1)) (blkOk_by (N := N__law_far_right) (sc := defScope s__law_far_right) (by decide +kernel)) (fun _ _ _ _ _ => (pg_tup rfl (pgs_cons (pg_name (i := 8) sc__law_far_right.nd rfl (.inl rfl) (.inr rfl)) (pgs_cons (pg_name (i := 12) sc__law_far_right.nd rfl (.inl rfl) (.inr rfl)) pgs_nil)))) (fun _ _ _ _ _ => pts_nil) (fun _ _ _ _ _ => (pv 8))) (pe_lc (own := [("_law_start", 4), ("_law_end", 5)]) (g := (gTup K 2 (gCons (gName 4) (gCons (gName 5) gNil)))) (tt := tYes) rfl sc__law_far_right.nd (pi_tup (pv 2)) (blkOk_by (N := N__law_far_right) (sc := defScope s__law_far_right) (by decide +kernel)) (fun _ _ _ _ _ => (pg_tup rfl (pgs_cons (pg_name (i := 4) sc__law_far_right.nd rfl (.inl rfl) (.inr rfl)) (pgs_cons (pg_name (i := 5) sc__law_far_right.nd rfl (.inl rfl) (.inr rfl)) pgs_nil)))) (fun _ _ _ _ _ => pts_nil) (fun _ _ _ _ _ => (pv 4)))) (pe_lc (own := [("_law_start", 4), ("_law_end", 5)]) (g := (gTup K 2 (gCons (gName 4) (gCons (gName 5) gNil)))) (tt := tYes) rfl sc__law_far_right.nd (pi_tup (pv 2)) (blkOk_by (N := N__law_far_right) (sc := defScope s__law_far_right) (by decide +kernel)) (fun _ _ _ _ _ => (pg_tup rfl (pgs_cons (pg_name (i := 4) sc__law_far_right.nd rfl (.inl rfl) (.inr rfl)) (pgs_cons (pg_name (i := 5) sc__law_far_right.nd rfl (.inl rfl) (.inr rfl)) pgs_nil)))) (fun _ _ _ _ _ => pts_nil) (fun _ _ _ _ _ => (pv 5)))))
    (pss_cons (ps_for PassesOwn.never rfl (pi_list (pv 9)) (pg_name (i := 8) sc__law_far_right.nd rfl (.inl rfl))
      (pss_one (ps_for PassesOwn.never rfl (pi_tup (pe_tup (pa_cons (pe_op op_sub (pv 8) pe_int) (pa_cons (pv 8) (pa_cons (pe_op op_add (pv 8) pe_int) pa_nil))))) (pg_name (i := 10) sc__law_far_right.nd rfl (.inr rfl))
          (pss_cons (ps_set (i := 11) sc__law_far_right.nd rfl (.inl rfl) (pe_callB (cr_any rfl) (by rfl) bi.m_any (by decide +kernel) (pa_cons (pe_lc (own := [("_law_start", 4), ("_law_end", 5)]) (g := (gTup K 2 (gCons (gName 4) (gCons (gName 5) gNil)))) (tt := tYes) rfl sc__law_far_right.nd (pi_tup (pv 2)) (blkOk_by (N := N__law_far_right) (sc := defScope s__law_far_right) (by decide +kernel)) (fun _ _ _ _ _ => (pg_tup rfl (pgs_cons (pg_name (i := 4) sc__law_far_right.nd rfl (.inl rfl) (.inr rfl)) (pgs_cons (pg_name (i := 5) sc__law_far_right.nd rfl (.inl rfl) (.inr rfl)) pgs_nil)))) (fun _ _ _ _ _ => pts_nil) (fun _ _ _ _ _ => (pe_chain op_le op_lt (pv 4) (pv 10) (pv 5)))) pa_nil)))
            (pss_one (ps_if (pw_and (pt_chain op_le op_lt pe_int (pv 10) (pv 0)) (pw_and1 (pt_cmpR op_ne (pe_call (C__law_is_kept.G.mono (by decide)) hr (by rfl) C__law_is_kept.g C__law_is_kept.kp C__law_is_kept.b .nil pass0 (pa_cons (pv 10) (pa_cons (pv 0) (pa_cons (pv 1) pa_nil)))) (pv 11) (nomark _)))).pt
              (pss_one (ps_ret pe_bl))
              pss_nil))))))
    (pss_one (ps_ret pe_bl)))))))), ?_⟩
    have hri := hb.2.2
    have okR := kept_ok (m := m) hri m0
    have eL := left_kept (m := m) hri m0
    have kiff := fun x (h1 : 0 ≤ x) (h2 : x < m) => kept_iff (m := m) (x := x) hri m0 h1 h2
    refine ⟨_, rfl, _, rfl, m, b, bs, rfl, hb, m0, fun H1 r s1 hr1 hkl => ?_⟩
    refine ⟨_, rfl, _, rfl, m, b, bs, rfl, hb.same s1, fun H2 s2 => ⟨_, _, rfl, ?_⟩⟩
    refine ⟨_, rfl, _, rfl, m, b, bs, rfl, (hb.same s1).same s2, fun H3 s3 => ?_⟩
    rw [← eL]
    refine ⟨_, rfl, rfl, _, rfl, ?_⟩
    rw [show (!decide (V.int ((expR (keptOf m bs)).length : Int) = V.int ((expR (keptOf m bs)).length : Int))) = false by rw [decide_eq_true rfl]; rfl]
    refine iteF ?_
    have s03 := (s1.trans s2).trans s3
    have hr3 := hr1.mono (Tups.same (s2.trans s3))
    obtain ⟨as, er, tr⟩ := hr3
    have hal : as.length = (keptOf m bs).length := by rw [tr.1, List.length_map]
    generalize hR : keptOf m bs = R at *
    -- how many together
    refine ⟨_, rfl, r, rfl, ⟨_, SqT.of er⟩, fun D nD => ?_⟩
    refine lc_tup (xs := as.map V.ref) (fun i H' => Same H3 H' ∧ H' D = some (.lst (((R.take i).map fun r => r.2 - r.1).map V.int))) ⟨same_new (Same.refl _) nD, upd_same⟩ (fun i H' hi hm => SqT.of (hm.1 _ _ er)) (fun i x H' hx hm => ?_) (fun H4 hm => ?_)
    · obtain ⟨sm, eD⟩ := hm
      obtain ⟨c, t, u, rfl, ep, ec⟩ := step_get tr hx
      have hi : i < R.length := (List.getElem?_eq_some_iff.mp ep).1
      refine ⟨c, _, rfl, SqT.of (sm _ _ ec), rfl, _, _, rfl, _, _, rfl, rfl, rfl, yesIte ?_⟩
      refine ⟨_, rfl, _, rfl, _, _, rfl, rfl, _, eD, ?_, same_mine sm nD, ?_⟩
      · rw [List.length_map, List.length_map, List.length_take]
        exact small1000 (by omega)
      · rw [upd_same, take_map_succ _ ep, List.map_append]
        rfl
    obtain ⟨sm4, eD4⟩ := hm
    rw [List.length_map, hal, List.take_length] at eD4
    refine ⟨D, _, rfl, SqL.of eD4, ?_⟩
    rw [sum_runs fun r hr => (okR.2 r hr).2.1]
    refine ⟨_, rfl, rfl, _, rfl, ?_⟩
    rw [show (!decide (V.int ((expR R).length : Int) = V.int ((expR R).length : Int))) = false by rw [decide_eq_true rfl]; rfl]
    refine iteF ?_
    have er4 := sm4 _ _ er
    have tr4 := tr.mono (Tups.same sm4)
    have s04 := s03.trans sm4
    -- one behind the other
    refine ⟨_, rfl, (by show 2 ≤ sizeLine; decide), fun z nz => ?_⟩
    have sz : Same H4 (upd H4 z (.tup [.int (-1), .int 0])) := same_new (Same.refl _) nz
    refine ⟨z, _, rfl, SqT.of upd_same, rfl, _, _, rfl, _, _, rfl, rfl, ?_⟩
    generalize upd H4 z (.tup [.int (-1), .int 0]) = H5 at sz
    have s05 := s04.trans sz
    have er5 := sz _ _ er4
    have tr5 := tr4.mono (Tups.same sz)
    refine ⟨_, rfl, r, rfl, ⟨_, SqT.of er5⟩, for_tup (xs := as.map V.ref) (fun j σ' H' => ∃ (x4 x5 : Option V) (l : Int), σ' = [some (.int m), some (.ref b), some (.ref r), some (.int (expR R).length), x4, x5, some (.int l), some (.int (expR (R.take j)).length), none, none, none, none, none] ∧ Same H5 H' ∧ ∀ t, R[j]? = some t → l < t.1) ⟨_, _, -1, rfl, Same.refl _, fun t ht => ?_⟩ (fun j σ' H' hj hm => ?_) (fun j x σ' H' hx hm => ?_) (fun σ' H6 hm => ?_)⟩
    · have := okR.2 t (List.mem_of_getElem? ht)
      omega
    · obtain ⟨_, _, _, _, sm, _⟩ := hm
      exact SqT.of (sm _ _ er5)
    · obtain ⟨x4, x5, l, rfl, sm, hlt⟩ := hm
      obtain ⟨c, t, u, rfl, ep, ec⟩ := step_get tr5 hx
      have htu := okR.2 (t, u) (List.mem_of_getElem? ep)
      have htu : 0 ≤ t ∧ t < u ∧ u ≤ m := htu
      have hl1 : l < t := hlt (t, u) ep
      refine ⟨c, _, rfl, SqT.of (sm _ _ ec), rfl, _, _, rfl, _, _, rfl, rfl, ?_⟩
      refine ⟨_, rfl, _, rfl, _, _, rfl, rfl, _, rfl, ?_⟩
      rw [decide_eq_true hl1]
      refine iteT ⟨_, rfl, _, _, rfl, rfl, _, rfl, ?_⟩
      rw [decide_eq_true htu.2.1]
      refine iteT ⟨_, rfl, _, _, rfl, rfl, _, rfl, ?_⟩
      rw [decide_eq_true htu.2.2]
      refine iteNT ?_
      have s0m := s05.trans sm
      have n0 := exp_nth (k := 0) ep (by omega)
      have n1 := exp_nth (k := (u - t).toNat - 1) ep (by omega)
      rw [show t + (((u - t).toNat - 1 : Nat) : Int) = u - 1 by omega] at n1
      rw [Nat.add_zero, show t + ((0 : Nat) : Int) = t by omega] at n0
      refine ⟨_, rfl, _, rfl, _, rfl, _, m, b, bs, t, rfl, hb.same s0m, m0, by rw [hR]; exact n0, fun H7 s7 => ?_⟩
      refine ⟨_, rfl, rfl, _, rfl, ?_⟩
      rw [show (!decide (V.int t = V.int t)) = false by rw [decide_eq_true rfl]; rfl]
      refine iteF ?_
      refine ⟨_, rfl, _, rfl, _, _, rfl, rfl, _, rfl, _, _, rfl, rfl, _, _, rfl, rfl, _, rfl, _, rfl, ?_⟩
      dsimp only
      rw [show ((expR (R.take j)).length : Int) + u - t - 1 = (((expR (R.take j)).length + ((u - t).toNat - 1) : Nat) : Int) by omega]
      refine ⟨_, m, b, bs, u - 1, rfl, hb.same (s0m.trans s7), m0, by rw [hR]; exact n1, fun H8 s8 => ?_⟩
      refine ⟨_, rfl, _, _, rfl, rfl, rfl, _, rfl, ?_⟩
      rw [show (!decide (V.int (u - 1) = V.int (u - 1))) = false by rw [decide_eq_true rfl]; rfl]
      refine iteF ?_
      refine ⟨_, rfl, _, rfl, _, rfl, _, _, rfl, rfl, _, rfl, _, _, rfl, rfl, _, _, rfl, ?_⟩
      refine ⟨some (.int t), some (.int u), u, ?_, sm.trans (s7.trans s8), fun t2 h2 => ?_⟩
      · rw [exp_more ep, show (((expR (R.take j)).length + (u - t).toNat : Nat) : Int) = ((expR (R.take j)).length : Int) + u - t by omega]
        rfl
      · exact ok_next okR ep h2
    obtain ⟨x4, x5, l, rfl, sm6, _⟩ := hm
    rw [List.length_map, hal, List.take_length]
    have s06 := s05.trans sm6
    have er6 := sm6 _ _ er5
    have tr6 := tr5.mono (Tups.same sm6)
    obtain ⟨⟨bas, eb6, tb6⟩, hbl, _⟩ := hb.same s06
    have hbal : bas.length = bs.length := by rw [tb6.1, List.length_map]
    -- places to be asked
    refine ⟨_, rfl, b, rfl, ⟨_, SqT.of eb6⟩, fun D1 nD1 => ?_⟩
    refine lc_tup (xs := bas.map V.ref) (fun i H' => ∃ ns : List Int, Same H6 H' ∧ H' D1 = some (.lst (ns.map V.int)) ∧ ns.length = i) ⟨[], same_new (Same.refl _) nD1, upd_same, rfl⟩ (fun i H' hi hm => ?_) (fun i x H' hx hm => ?_) (fun H7 hm => ?_)
    · obtain ⟨_, sm, _⟩ := hm
      exact SqT.of (sm _ _ eb6)
    · obtain ⟨ns, sm, eD, hnl⟩ := hm
      obtain ⟨c, t, u, rfl, ep, ec⟩ := step_get tb6 hx
      have hi : i < bs.length := (List.getElem?_eq_some_iff.mp ep).1
      refine ⟨c, _, rfl, SqT.of (sm _ _ ec), rfl, _, _, rfl, _, _, rfl, rfl, rfl, yesIte ?_⟩
      refine ⟨_, rfl, _, eD, (by rw [List.length_map]; exact small1000 (by omega)), ns ++ [t], same_mine sm nD1, ?_, by rw [List.length_append, hnl]; rfl⟩
      rw [upd_same, List.map_append]
      rfl
    obtain ⟨n1, sm7, eD7, hn1⟩ := hm
    rw [List.length_map, hbal] at hn1
    have er7 := sm7 _ _ er6
    have tr7 := tr6.mono (Tups.same sm7)
    refine ⟨_, rfl, r, rfl, ⟨_, SqT.of er7⟩, fun D2 nD2 => ?_⟩
    refine lc_tup (xs := as.map V.ref) (fun i H' => ∃ ns : List Int, Same H7 H' ∧ H' D2 = some (.lst (ns.map V.int)) ∧ ns.length = i) ⟨[], same_new (Same.refl _) nD2, upd_same, rfl⟩ (fun i H' hi hm => ?_) (fun i x H' hx hm => ?_) (fun H8 hm => ?_)
    · obtain ⟨_, sm, _⟩ := hm
      exact SqT.of (sm _ _ er7)
    · obtain ⟨ns, sm, eD, hnl⟩ := hm
      obtain ⟨c, t, u, rfl, ep, ec⟩ := step_get tr7 hx
      have hi : i < R.length := (List.getElem?_eq_some_iff.mp ep).1
      refine ⟨c, _, rfl, SqT.of (sm _ _ ec), rfl, _, _, rfl, _, _, rfl, rfl, rfl, yesIte ?_⟩
      refine ⟨_, rfl, _, eD, (by rw [List.length_map]; exact small1000 (by omega)), ns ++ [t], same_mine sm nD2, ?_, by rw [List.length_append, hnl]; rfl⟩
      rw [upd_same, List.map_append]
      rfl
    obtain ⟨n2, sm8, eD8, hn2⟩ := hm
    rw [List.length_map, hal] at hn2
    refine ⟨D1, D2, _, _, rfl, rfl, sm8 _ _ eD7, eD8, Nat.le_of_lt (small1000 (by rw [List.length_map, List.length_map]; omega)), fun y ny => ?_⟩
    have sy : Same H8 (upd H8 y (.lst (n1.map V.int ++ n2.map V.int))) := same_new (Same.refl _) ny
    have ey : upd H8 y (.lst (n1.map V.int ++ n2.map V.int)) y = some (.lst ((n1 ++ n2).map V.int)) := by rw [upd_same, List.map_append]
    generalize upd H8 y (.lst (n1.map V.int ++ n2.map V.int)) = H9 at sy ey
    have er9 := sy _ _ (sm8 _ _ er7)
    have tr9 := (tr7.mono (Tups.same sm8)).mono (Tups.same sy)
    refine ⟨_, rfl, r, rfl, ⟨_, SqT.of er9⟩, fun D3 nD3 => ?_⟩
    refine lc_tup (xs := as.map V.ref) (fun i H' => ∃ ns : List Int, Same H9 H' ∧ H' D3 = some (.lst (ns.map V.int)) ∧ ns.length = i) ⟨[], same_new (Same.refl _) nD3, upd_same, rfl⟩ (fun i H' hi hm => ?_) (fun i x H' hx hm => ?_) (fun HA hm => ?_)
    · obtain ⟨_, sm, _⟩ := hm
      exact SqT.of (sm _ _ er9)
    · obtain ⟨ns, sm, eD, hnl⟩ := hm
      obtain ⟨c, t, u, rfl, ep, ec⟩ := step_get tr9 hx
      have hi : i < R.length := (List.getElem?_eq_some_iff.mp ep).1
      refine ⟨c, _, rfl, SqT.of (sm _ _ ec), rfl, _, _, rfl, _, _, rfl, rfl, rfl, yesIte ?_⟩
      refine ⟨_, rfl, _, eD, (by rw [List.length_map]; exact small1000 (by omega)), ns ++ [u], same_mine sm nD3, ?_, by rw [List.length_append, hnl]; rfl⟩
      rw [upd_same, List.map_append]
      rfl
    obtain ⟨n3, smA, eDA, hn3⟩ := hm
    rw [List.length_map, hal] at hn3
    refine ⟨y, D3, _, _, rfl, rfl, smA _ _ ey, eDA, Nat.le_of_lt (small1000 (by rw [List.length_map, List.length_map, List.length_append]; omega)), fun o no => ?_⟩
    have so : Same HA (upd HA o (.lst ((n1 ++ n2).map V.int ++ n3.map V.int))) := same_new (Same.refl _) no
    have eo : upd HA o (.lst ((n1 ++ n2).map V.int ++ n3.map V.int)) o = some (.lst ((n1 ++ n2 ++ n3).map V.int)) := by rw [upd_same, List.map_append (l₁ := n1 ++ n2)]
    generalize upd HA o (.lst ((n1 ++ n2).map V.int ++ n3.map V.int)) = HB at so eo
    have s9B := smA.trans so
    have s0B : Same H HB := (((s06.trans sm7).trans sm8).trans sy).trans s9B
    have erB := s9B _ _ er9
    have trB := tr9.mono (Tups.same s9B)
    generalize n1 ++ n2 ++ n3 = ns at eo
    refine ⟨_, rfl, o, rfl, ⟨_, SqL.of eo⟩, for_list (xs := ns.map V.int) (fun j σ' H' => ∃ (x4 x5 x8 x10 x11 x12 : Option V), σ' = [some (.int m), some (.ref b), some (.ref r), some (.int (expR R).length), x4, x5, some (.int l), some (.int (expR R).length), x8, some (.ref o), x10, x11, x12] ∧ Same HB H') ⟨_, _, _, _, _, _, rfl, Same.refl _⟩ (fun j σ' H' hj hm => ?_) (fun j v σ' H' hv hm => ?_) (fun σ' HC hm => ?_)⟩
    · obtain ⟨_, _, _, _, _, _, _, sm⟩ := hm
      exact SqL.of (sm _ _ eo)
    · obtain ⟨x4, x5, x8, x10, x11, x12, rfl, sm⟩ := hm
      obtain ⟨k, rfl, ek⟩ := int_get hv
      refine ⟨_, rfl, _, _, rfl, rfl, _, rfl, _, rfl, _, _, rfl, rfl, (by show 3 ≤ sizeLine; decide), fun t nt => ?_⟩
      have st : Same H' (upd H' t (.tup [.int (k - 1), .int k, .int (k + 1)])) := same_new (Same.refl _) nt
      have et : upd H' t (.tup [.int (k - 1), .int k, .int (k + 1)]) t = some (.tup ([k - 1, k, k + 1].map V.int)) := upd_same
      generalize upd H' t (.tup [.int (k - 1), .int k, .int (k + 1)]) = H2' at st et
      generalize [k - 1, k, k + 1] = ks at et
      refine ⟨t, rfl, ⟨_, SqT.of et⟩, for_tup (xs := ks.map V.int) (fun i σ' H' => ∃ (x4 x5 x10 x11 x12 : Option V), σ' = [some (.int m), some (.ref b), some (.ref r), some (.int (expR R).length), x4, x5, some (.int l), some (.int (expR R).length), some (.int k), some (.ref o), x10, x11, x12] ∧ Same H2' H') ⟨_, _, _, _, _, rfl, Same.refl _⟩ (fun i σ' H' hi hm => ?_) (fun i w' σ' H3' hw hm => ?_) (fun σ' H3' hm => ?_)⟩
      · obtain ⟨_, _, _, _, _, _, sm⟩ := hm
        exact SqT.of (sm _ _ et)
      · obtain ⟨x4, x5, x10, x11, x12, rfl, s3'⟩ := hm
        obtain ⟨x, rfl, _⟩ := int_get hw
        have sB3 := sm.trans (st.trans s3')
        have er3' := sB3 _ _ erB
        have tr3' := trB.mono (Tups.same sB3)
        -- whether it stays
        refine ⟨_, rfl, r, rfl, ⟨_, SqT.of er3'⟩, fun D4 nD4 => ?_⟩
        refine lc_tup (xs := as.map V.ref) (fun i H' => Same H3' H' ∧ H' D4 = some (.lst (((R.take i).map fun r => decide (r.1 ≤ x) && decide (x < r.2)).map V.bl))) ⟨same_new (Same.refl _) nD4, upd_same⟩ (fun i H' hi hm => SqT.of (hm.1 _ _ er3')) (fun i v H' hx hm => ?_) (fun H4' hm => ?_)
        · obtain ⟨sm', eD⟩ := hm
          obtain ⟨c, t1, u1, rfl, ep, ec⟩ := step_get tr3' hx
          have hi : i < R.length := (List.getElem?_eq_some_iff.mp ep).1
          have fin : ∀ bb : Bool, bb = (decide (t1 ≤ x) && decide (x < u1)) → ∃ acc, H' D4 = some (HO.lst acc) ∧ acc.length < sizeLine ∧ Same H3' (upd H' D4 (.lst (acc ++ [.bl bb]))) ∧ upd H' D4 (.lst (acc ++ [.bl bb])) D4 = some (.lst (((R.take (i + 1)).map fun r => decide (r.1 ≤ x) && decide (x < r.2)).map V.bl)) := fun bb hbb => by
            refine ⟨_, eD, ?_, same_mine sm' nD4, ?_⟩
            · rw [List.length_map, List.length_map, List.length_take]
              exact small1000 (by omega)
            · rw [upd_same, take_map_succ _ ep, List.map_append, hbb]
              rfl
          refine ⟨c, _, rfl, SqT.of (sm' _ _ ec), rfl, _, _, rfl, _, _, rfl, rfl, rfl, yesIte ?_⟩
          refine ⟨_, rfl, _, rfl, _, _, rfl, rfl, _, rfl, ite2 (fun e1 => ?_) (fun e1 => ?_)⟩
          · refine ⟨_, rfl, _, _, rfl, rfl, fin _ ?_⟩
            rw [e1, Bool.true_and]
          · refine fin false ?_
            rw [Bool.eq_false_iff.mpr e1, Bool.false_and]
        obtain ⟨s4', eD4'⟩ := hm
        rw [List.length_map, hal, List.take_length] at eD4'
        refine ⟨D4, _, rfl, SqL.of eD4', ?_⟩
        have eany : (R.map fun r => decide (r.1 ≤ x) && decide (x < r.2)).any id = true ↔ x ∈ expR R := by
          rw [mem_exp, List.any_map, List.any_eq_true]
          constructor
          · rintro ⟨r, hr, h⟩
            have h : (decide (r.1 ≤ x) && decide (x < r.2)) = true := h
            rw [Bool.and_eq_true, decide_eq_true_iff, decide_eq_true_iff] at h
            exact ⟨r, hr, h⟩
          · rintro ⟨r, hr, h⟩
            refine ⟨r, hr, ?_⟩
            show (decide (r.1 ≤ x) && decide (x < r.2)) = true
            rw [Bool.and_eq_true, decide_eq_true_iff, decide_eq_true_iff]
            exact h
        generalize (R.map fun r => decide (r.1 ≤ x) && decide (x < r.2)).any id = kb at eany
        have s04' := (s0B.trans sB3).trans s4'
        refine ⟨_, rfl, _, _, rfl, rfl, _, rfl, ite2 (fun e1 => ?_) (fun e1 => ?_)⟩
        · have e1 : 0 ≤ x := of_decide_eq_true e1
          refine ⟨_, rfl, _, _, rfl, rfl, _, rfl, ite2 (fun e2 => ?_) (fun e2 => ?_)⟩
          · have e2 : x < m := of_decide_eq_true e2
            refine ⟨_, rfl, _, rfl, _, rfl, x, m, b, bs, kb, rfl, hb.same s04', eany.trans (kiff x e1 e2), fun H5' s5' => ?_⟩
            refine ⟨_, rfl, rfl, _, rfl, ?_⟩
            rw [show (!decide (V.bl kb = V.bl kb)) = false by rw [decide_eq_true rfl]; rfl]
            exact iteF ⟨_, _, _, _, _, rfl, s3'.trans (s4'.trans s5')⟩
          · exact iteF ⟨_, _, _, _, _, rfl, s3'.trans s4'⟩
        · exact ⟨_, rfl, iteF (iteF ⟨_, _, _, _, _, rfl, s3'.trans s4'⟩)⟩
      · obtain ⟨x4, x5, x10, x11, x12, rfl, s3'⟩ := hm
        exact ⟨_, _, _, _, _, _, rfl, sm.trans (st.trans s3')⟩
    · obtain ⟨x4, x5, x8, x10, x11, x12, rfl, sm⟩ := hm
      exact q _ (s0B.trans sm)
theorem ok_law {fB fT fO fX fN fR f : Addr} {fdB fdT fdO fdX fdN fdR fd : FuncData} (F : Fun K "law" "law" s_law f fd) (bi : Bi mg)
    (C__law_begin : Cal P w K mg base "_law_begin" P__law_begin 1 (spBeginC K) fB fdB) (C__law_take : Cal P w K mg base "_law_take" P__law_take 1 spTakeC fT fdT) (C__law_of : Cal P w K mg base "_law_of" P__law_of 2 spOfB fO fdO) (C__law_some_breaks : Cal P w K mg base "_law_some_breaks" P__law_some_breaks 3 spSomeBreaks34 fX fdX)
    (C__law_near_right : Cal P w K mg base "_law_near_right" P__law_near_right 5 spNear34 fN fdN) (C__law_far_right : Cal P w K mg base "_law_far_right" P__law_far_right 5 spFar34 fR fdR) : FnOk P w K mg base CX0 6 f fd P_law (spLaw K) := by
  refine F.ok sc_law (fun vs H Q E h => ?_) (fun cdv A outer s H vs Q E hr h => ?_)
  · obtain ⟨a, ns, rfl, _⟩ := h
    rfl
  · obtain ⟨a, ns, rfl, hS, hn, q⟩ := h
    have hu64 := hr.units
    refine ⟨_, (pss_cons (ps_for PassesOwn.never rfl (pi_range1 rfl bi.m_range (pa_cons (pe_callB (call_max2 rfl) (by rfl) bi.m_max (by decide +kernel) (pa_cons pe_int (pa_cons (pe_callB (call_min2 rfl) (by rfl) bi.m_min (by decide +kernel) (pa_cons pe_int (pa_cons (pe_callB call_len_seq (by rfl) bi.m_len (by decide +kernel) (pa_cons (pv 0) pa_nil)) pa_nil))) pa_nil))) pa_nil)) (pg_name (i := 1) sc_law.nd rfl (.inl rfl))
      (pss_cons (ps_set (i := 2) sc_law.nd rfl (.inl rfl) (pe_call (C__law_begin.G.mono (by decide)) hr (by rfl) C__law_begin.g C__law_begin.kp C__law_begin.b .nil pass0 (pa_cons (pv 0) (pa_cons (pv 1) pa_nil))))
        (pss_cons (ps_set (i := 3) sc_law.nd rfl (.inl rfl) (pe_call (C__law_some_breaks.G.mono (by decide)) hr (by rfl) C__law_some_breaks.g C__law_some_breaks.kp C__law_some_breaks.b .nil pass0 (pa_cons (pv 2) (pa_cons (pe_call (C__law_of.G.mono (by decide)) hr (by rfl) C__law_of.g C__law_of.kp C__law_of.b .nil pass0 (pa_cons (pv 2) (pa_cons (pe_lst (pa_cons pe_int (pa_cons pe_int (pa_cons pe_int (pa_cons pe_int (pa_cons pe_int (pa_cons pe_int (pa_cons pe_int (pa_cons (pe_ix ix_list (pe_lst (pa_cons pe_int (pa_cons pe_int (pa_cons pe_int (pa_cons pe_int pa_nil))))) (pv 1) (fun _ _ => rfl)) pa_nil))))))))) pa_nil))) (pa_cons pe_bl pa_nil)))))
        (pss_cons (ps_set (i := 5) sc_law.nd rfl (.inl rfl) (pe_op op_cat (pe_lc (own := [("_law_at", 4), ("_law_lap", 8)]) (g := (gTup K 2 (gCons (gName 4) (gCons (gName 8) gNil)))) (tt := tYes) rfl sc_law.nd (pi_tup (pv 3)) (blkOk_by (N := N_law) (sc := defScope s_law) (by decide +kernel)) (fun _ _ _ _ _ => (pg_tup rfl (pgs_cons (pg_name (i := 4) sc_law.nd rfl (.inl rfl) (.inr rfl)) (pgs_cons (pg_name (i := 8) sc_law.nd rfl (.inl rfl) (.inr rfl)) pgs_nil)))) (fun _ _ _ _ _ => pts_nil) (fun _ _ _ _ _ => (pv 4))) (pe_lst (pa_cons pe_int pa_nil))))
        (pss_cons (ps_for PassesOwn.never rfl (pi_range1 rfl bi.m_range (pa_cons pe_int pa_nil)) (pg_name (i := 6) sc_law.nd rfl (.inl rfl))
          (pss_cons (ps_set (i := 4) sc_law.nd rfl (.inl rfl) (pe_call (C__law_of.G.mono (by decide)) hr (by rfl) C__law_of.g C__law_of.kp C__law_of.b .nil pass0 (pa_cons (pv 2) (pa_cons (pv 5) pa_nil))))
            (pss_one (ps_if (pt_not (pt_val (pe_call (C__law_near_right.G.mono (by decide)) hr (by rfl) C__law_near_right.g C__law_near_right.kp C__law_near_right.b .nil pass0 (pa_cons (pe_call (C__law_of.G.mono (by decide)) hr (by rfl) C__law_of.g C__law_of.kp C__law_of.b .nil pass0 (pa_cons (pv 2) (pa_cons (pe_lst (pa_cons (pv 4) (pa_cons (pe_op op_add (pv 4) pe_int) (pa_cons (pe_callB (call_max2 rfl) (by rfl) bi.m_max (by decide +kernel) (pa_cons pe_int (pa_cons (pe_op op_sub (pv 4) pe_int) pa_nil))) (pa_cons (pe_op op_add (pv 4) pe_int) (pa_cons (pe_call (C__law_take.G.mono (by decide)) hr (by rfl) C__law_take.g C__law_take.kp C__law_take.b .nil pass0 (pa_cons (pv 2) (pa_cons pe_int pa_nil))) pa_nil)))))) pa_nil))) (pa_cons (pv 3) pa_nil)))))
              (pss_one (ps_ret pe_bl))
              pss_nil))))
        (pss_cons (ps_set (i := 7) sc_law.nd rfl (.inl rfl) (pe_call (C__law_some_breaks.G.mono (by decide)) hr (by rfl) C__law_some_breaks.g C__law_some_breaks.kp C__law_some_breaks.b .nil pass0 (pa_cons (pv 2) (pa_cons pe_int (pa_cons pe_bl pa_nil)))))
        (pss_cons (ps_set (i := 5) sc_law.nd rfl (.inl rfl) (pe_op op_cat (pe_lc (own := [("_law_at", 4), ("_law_lap", 8)]) (g := (gTup K 2 (gCons (gName 4) (gCons (gName 8) gNil)))) (tt := tYes) rfl sc_law.nd (pi_tup (pv 7)) (blkOk_by (N := N_law) (sc := defScope s_law) (by decide +kernel)) (fun _ _ _ _ _ => (pg_tup rfl (pgs_cons (pg_name (i := 4) sc_law.nd rfl (.inl rfl) (.inr rfl)) (pgs_cons (pg_name (i := 8) sc_law.nd rfl (.inl rfl) (.inr rfl)) pgs_nil)))) (fun _ _ _ _ _ => pts_nil) (fun _ _ _ _ _ => (pv 4))) (pe_lst (pa_cons pe_int (pa_cons (pe_op op_pow pe_int pe_int) pa_nil)))))
        (pss_one (ps_for PassesOwn.never rfl (pi_range1 rfl bi.m_range (pa_cons pe_int pa_nil)) (pg_name (i := 6) sc_law.nd rfl (.inl rfl))
          (pss_cons (ps_set (i := 4) sc_law.nd rfl (.inl rfl) (pe_call (C__law_of.G.mono (by decide)) hr (by rfl) C__law_of.g C__law_of.kp C__law_of.b .nil pass0 (pa_cons (pv 2) (pa_cons (pv 5) pa_nil))))
            (pss_one (ps_if (pt_not (pt_val (pe_call (C__law_far_right.G.mono (by decide)) hr (by rfl) C__law_far_right.g C__law_far_right.kp C__law_far_right.b .nil pass0 (pa_cons (pe_call (C__law_of.G.mono (by decide)) hr (by rfl) C__law_of.g C__law_of.kp C__law_of.b .nil pass0 (pa_cons (pv 2) (pa_cons (pe_lst (pa_cons (pv 4) (pa_cons (pe_op op_add (pv 4) pe_int) (pa_cons (pe_callB (call_max2 rfl) (by rfl) bi.m_max (by decide +kernel) (pa_cons pe_int (pa_cons (pe_op op_sub (pv 4) pe_int) pa_nil))) (pa_cons (pe_op op_add (pe_op op_fdiv (pv 4) pe_int) pe_int) pa_nil))))) pa_nil))) (pa_cons (pv 7) pa_nil)))))
              (pss_one (ps_ret pe_bl))
              pss_nil))))))))))))
    (pss_one (ps_ret pe_bl))), ?_⟩
    refine ⟨_, rfl, a, _, rfl, .inl hS, _, _, rfl, _, _, rfl, _, rfl, ?_, ?_, ?_⟩
    · rw [List.length_map]
      split <;> split <;> omega
    · rw [List.length_map]
      split <;> split <;> omega
    generalize hN : Int.toNat _ = N
    have hN4 : N ≤ 4 := by
      rw [← hN, List.length_map]
      split <;> split <;> omega
    clear hN
    have hq : ∀ b : Int, 0 < b → b ≤ 1000 → CDivW 0 b := fun b h0 h1 => wdiv h0 (by omega)
    refine for_range (n := N) (fun i σ' H' => ∃ (x1 x2 x3 x4 x5 x6 x7 x8 : Option V), σ' = [some (.ref a), x1, x2, x3, x4, x5, x6, x7, x8] ∧ Same H H') ⟨_, _, _, _, _, _, _, _, rfl, Same.refl H⟩ (fun i σ' H' hi hm => ?_) (fun σ' H' hm => ?_)
    · obtain ⟨x1, x2, x3, x4, x5, x6, x7, x8, rfl, sH⟩ := hm
      refine ⟨_, rfl, _, rfl, a, ns, 0 + i, rfl, sH.seq hS, hn, by omega, by omega, fun H1 p sB np hp => ?_⟩
      -- near ones
      refine ⟨_, rfl, _, rfl, (by show 4 ≤ sizeLine; decide), fun Z nZ => ?_⟩
      have sZ : Same H1 (upd H1 Z (.lst [.int 20, .int 7, .int 7, .int 7])) := same_new (Same.refl _) nZ
      have eZ : upd H1 Z (.lst [.int 20, .int 7, .int 7, .int 7]) Z = some (.lst [.int 20, .int 7, .int 7, .int 7]) := upd_same
      generalize upd H1 Z (.lst [.int 20, .int 7, .int 7, .int 7]) = H2 at sZ eZ
      obtain ⟨g, hg, g0, g1⟩ : ∃ g : Int, atI [V.int 20, V.int 7, V.int 7, V.int 7] (0 + (i : Int)) = some (.int g) ∧ 0 ≤ g ∧ g ≤ 20 := by
        rw [Int.zero_add]
        have : i = 0 ∨ i = 1 ∨ i = 2 ∨ i = 3 := by omega
        rcases this with rfl | rfl | rfl | rfl
        · exact ⟨20, rfl, by decide, by decide⟩
        · exact ⟨7, rfl, by decide, by decide⟩
        · exact ⟨7, rfl, by decide, by decide⟩
        · exact ⟨7, rfl, by decide, by decide⟩
      refine ⟨_, rfl, Z, _, _, _, rfl, rfl, SqL.of eZ, hg, (by show 8 ≤ sizeLine; decide), fun Y nY => ?_⟩
      have hp2 := hp.same sZ
      have nYp := hp2.fresh nY
      refine ⟨p, _, Y, _, rfl, hp2.new nY, by decide, upd_same, nYp, (by show 1 ≤ 8; decide), (by show 8 ≤ 1000; decide), fun H3 j x hx hp3 k3 => ?_⟩
      obtain ⟨most, rfl, mo0, mo1⟩ : ∃ n : Int, x = .int n ∧ 0 ≤ n ∧ n ≤ 20 := by
        have := List.mem_of_getElem? hx
        simp only [List.mem_cons, List.not_mem_nil, or_false] at this
        rcases this with h | h | h | h | h | h | h | h
        · exact ⟨2, h, by decide, by decide⟩
        · exact ⟨4, h, by decide, by decide⟩
        · exact ⟨7, h, by decide, by decide⟩
        · exact ⟨3, h, by decide, by decide⟩
        · exact ⟨5, h, by decide, by decide⟩
        · exact ⟨6, h, by decide, by decide⟩
        · exact ⟨4, h, by decide, by decide⟩
        · exact ⟨g, h, g0, g1⟩
      have k13 : Keep p p H1 H3 := ((Same.keep sZ).new nY).trans k3
      refine ⟨p, _, most, false, rfl, hp3, by decide, mo0, mo1, fun H4 b bs hp4 k4 hb gb lb nb hnear => ?_⟩
      have hB := brk_of hb gb lb
      have hnear := hnear rfl
      obtain ⟨as, eb, tb⟩ := hb
      have hal : as.length = bs.length := by rw [tb.1, List.length_map]
      refine ⟨_, rfl, b, rfl, ⟨_, SqT.of eb⟩, fun D nD => ?_⟩
      refine lc_tup (xs := as.map V.ref) (fun j H' => ∃ ns : List Int, Same H4 H' ∧ H' D = some (.lst (ns.map V.int)) ∧ ns.length = j ∧ ∀ n ∈ ns, 0 ≤ n ∧ n ≤ 270) ⟨[], same_new (Same.refl _) nD, upd_same, rfl, fun n hn => by cases hn⟩ (fun j H' hj hm => ?_) (fun j x H' hx hm => ?_) (fun H5 hm => ?_)
      · obtain ⟨_, sm, _⟩ := hm
        exact SqT.of (sm _ _ eb)
      · obtain ⟨ms, sm, eD, hml, hms⟩ := hm
        obtain ⟨c, t, u, rfl, ep, ec⟩ := step_get tb hx
        have hj : j < bs.length := (List.getElem?_eq_some_iff.mp ep).1
        have h20 := gb.1
        refine ⟨c, _, rfl, SqT.of (sm _ _ ec), rfl, _, _, rfl, _, _, rfl, rfl, rfl, yesIte ?_⟩
        refine ⟨_, rfl, _, eD, (by rw [List.length_map]; exact small1000 (by omega)), ms ++ [t], same_mine sm nD, ?_, by rw [List.length_append, hml]; rfl, fun n hn => ?_⟩
        · rw [upd_same, List.map_append]
          rfl
        · rcases List.mem_append.mp hn with h | h
          · exact hms n h
          · rw [List.mem_singleton.mp h]
            exact ⟨(gb.2.2 (t, u) (List.mem_of_getElem? ep)).1, hnear (t, u) (List.mem_of_getElem? ep)⟩
      obtain ⟨ms, sm5, eD5, hml, hms⟩ := hm
      rw [List.length_map, hal] at hml
      have h20 := gb.1
      refine ⟨(by show 1 ≤ sizeLine; decide), fun y ny => ?_⟩
      have sy : Same H5 (upd H5 y (.lst [.int 0])) := same_new (Same.refl _) ny
      have ey : upd H5 y (.lst [.int 0]) y = some (.lst [.int 0]) := upd_same
      generalize upd H5 y (.lst [.int 0]) = H6 at sy ey
      refine ⟨D, y, _, _, rfl, rfl, sy _ _ eD5, ey, Nat.le_of_lt (small1000 (by rw [List.length_map]; show ms.length + 1 ≤ 1000; omega)), fun R nR => ?_⟩
      have sR : Same H6 (upd H6 R (.lst (ms.map V.int ++ [.int 0]))) := same_new (Same.refl _) nR
      have eR : upd H6 R (.lst (ms.map V.int ++ [.int 0])) R = some (.lst ((ms ++ [0]).map V.int)) := by
        rw [upd_same, List.map_append]
        rfl
      have hp6 := (hp4.same sm5).same sy
      have nRp := hp6.fresh nR
      generalize upd H6 R (.lst (ms.map V.int ++ [.int 0])) = H7 at sR eR
      have hp7 := hp6.same sR
      have s47 := sm5.trans (sy.trans sR)
      have hms' : ∀ n ∈ ms ++ [0], 0 ≤ n ∧ n ≤ 270 := fun n hn => by
        rcases List.mem_append.mp hn with h | h
        · exact hms n h
        · rw [List.mem_singleton.mp h]
          exact ⟨by decide, by decide⟩
      have hlms : 1 ≤ ((ms ++ [0]).map V.int).length ∧ ((ms ++ [0]).map V.int).length ≤ 1000 := by
        rw [List.length_map, List.length_append]
        show 1 ≤ ms.length + 1 ∧ ms.length + 1 ≤ 1000
        omega
      generalize ms ++ [0] = es at eR hms' hlms
      have k17 : Keep p p H1 H7 := (k13.trans k4).trans (Same.keep s47)
      have hB7 := hB.same s47
      clear hms hml eD5 sm5 nD ey sy
      refine ⟨5, rfl, by decide, by decide, for_range (n := 5) (fun j σ' H' => ∃ (x4 x6 x7 x8 : Option V), σ' = [some (.ref a), some (.int (0 + i)), some (.ref p), some (.ref b), x4, some (.ref R), x6, x7, x8] ∧ PotC H' p (100 + 3 * j) ∧ Keep p p H7 H') ⟨_, _, _, _, rfl, hp7.mono (by decide), Keep.refl⟩ (fun j σ' H' hj hm => ?_) (fun σ' H8 hm => ?_)⟩
      · obtain ⟨x4, x6, x7, x8, rfl, hpj, kj⟩ := hm
        have hBj : ∀ H'', Keep p p H7 H'' → Brk H'' b bs := fun H'' k => ⟨hB7.1.mono (k.tupsC hp7), hB7.2⟩
        refine ⟨_, rfl, _, rfl, p, _, R, _, rfl, hpj, by omega, kj.at nRp eR, nRp, hlms.1, hlms.2, fun H9 j9 v hv hp9 k9 => ?_⟩
        obtain ⟨t, rfl, et⟩ := int_get hv
        obtain ⟨t0, t1⟩ := hms' t (List.mem_of_getElem? et)
        refine ⟨_, rfl, _, rfl, _, rfl, _, _, rfl, rfl, _, rfl, _, _, rfl, rfl, _, _, rfl, ?_⟩
        obtain ⟨w1, ew1, w10, w11⟩ : ∃ w : Int, (if t - 1 > 0 then t - 1 else 0) = w ∧ 0 ≤ w ∧ w ≤ 270 := ⟨_, rfl, by split <;> omega, by split <;> omega⟩
        rw [ew1]
        refine ⟨_, rfl, _, _, rfl, rfl, ?_⟩
        refine ⟨_, rfl, p, _, 60, rfl, hp9, by omega, hq _ (by omega) (by omega), fun d HA d0 d1 hpA kA => ⟨(by show 5 ≤ sizeLine; decide), fun X nX => ?_⟩⟩
        have d1 : d < 60 := d1
        have nXp := hpA.fresh nX
        refine ⟨p, _, X, _, rfl, hpA.new nX, by omega, upd_same, nXp, (by show 1 ≤ 5; decide), (by show 5 ≤ 1000; decide), fun HB jB v hv hpB kB => ?_⟩
        obtain ⟨m, rfl, m0, m1⟩ : ∃ m : Int, v = .int m ∧ 0 ≤ m ∧ m ≤ 900 := by
          have := List.mem_of_getElem? hv
          simp only [List.mem_cons, List.not_mem_nil, or_false] at this
          rcases this with h | h | h | h | h
          · exact ⟨t, h, by omega, by omega⟩
          · exact ⟨t + 1, h, by omega, by omega⟩
          · exact ⟨w1, h, by omega, by omega⟩
          · exact ⟨t + 9, h, by omega, by omega⟩
          · exact ⟨d, h, by omega, by omega⟩
        have k7B : Keep p p H7 HB := ((kj.trans k9).trans (kA.new nX)).trans kB
        refine ⟨_, rfl, m, b, bs, rfl, hBj _ k7B, m0, m1, fun HC sC => ⟨_, rfl, iteNT ?_⟩⟩
        exact ⟨_, _, _, _, rfl, (hpB.same sC).mono (by omega), k7B.trans (Same.keep sC)⟩
      obtain ⟨x4', x6', x7', x8', rfl, hp8, k8⟩ := hm
      have hp8 := hp8.mono (U := 200) (by decide)
      have k18 := k17.trans k8
      clear hB hB7 hal tb eb hms' hlms eR nRp hnear
      -- far ones
      refine ⟨_, rfl, p, _, 7, true, rfl, hp8, by decide, by decide, by decide, fun H9 b2 bs2 hp9 k9 hb2 gb2 lb2 nb2 _ => ?_⟩
      have hB2 := brk_of hb2 gb2 lb2
      obtain ⟨as2, eb2, tb2⟩ := hb2
      have hal2 : as2.length = bs2.length := by rw [tb2.1, List.length_map]
      refine ⟨_, rfl, b2, rfl, ⟨_, SqT.of eb2⟩, fun D2 nD2 => ?_⟩
      refine lc_tup (xs := as2.map V.ref) (fun j H' => ∃ ns : List Int, Same H9 H' ∧ H' D2 = some (.lst (ns.map V.int)) ∧ ns.length = j ∧ ∀ n ∈ ns, 0 ≤ n ∧ n < 2 ^ 120) ⟨[], same_new (Same.refl _) nD2, upd_same, rfl, fun n hn => by cases hn⟩ (fun j H' hj hm => ?_) (fun j x H' hx hm => ?_) (fun HA hm => ?_)
      · obtain ⟨_, sm, _⟩ := hm
        exact SqT.of (sm _ _ eb2)
      · obtain ⟨ms, sm, eD, hml, hms⟩ := hm
        obtain ⟨c, t, u, rfl, ep, ec⟩ := step_get tb2 hx
        have hj : j < bs2.length := (List.getElem?_eq_some_iff.mp ep).1
        have h20 := gb2.1
        refine ⟨c, _, rfl, SqT.of (sm _ _ ec), rfl, _, _, rfl, _, _, rfl, rfl, rfl, yesIte ?_⟩
        refine ⟨_, rfl, _, eD, (by rw [List.length_map]; exact small1000 (by omega)), ms ++ [t], same_mine sm nD2, ?_, by rw [List.length_append, hml]; rfl, fun n hn => ?_⟩
        · rw [upd_same, List.map_append]
          rfl
        · rcases List.mem_append.mp hn with h | h
          · exact hms n h
          · rw [List.mem_singleton.mp h]
            exact gb2.2.2 (t, u) (List.mem_of_getElem? ep)
      obtain ⟨ms, smA, eDA, hml, hms⟩ := hm
      rw [List.length_map, hal2] at hml
      have h20 := gb2.1
      refine ⟨_, _, rfl, rfl, ⟨by decide, by decide, by decide⟩, ?_⟩
      dsimp only
      refine ⟨(by show 2 ≤ sizeLine; decide), fun y ny => ?_⟩
      obtain ⟨tt, ett⟩ : ∃ tt : Int, tt = 10 ^ (33 : Int).toNat := ⟨_, rfl⟩
      have tt0 : 0 ≤ tt ∧ tt < 2 ^ 120 := by rw [ett]; exact ⟨by decide, by decide⟩
      rw [← ett]
      clear ett
      have sy : Same HA (upd HA y (.lst [.int 0, .int tt])) := same_new (Same.refl _) ny
      have ey : upd HA y (.lst [.int 0, .int tt]) y = some (.lst [.int 0, .int tt]) := upd_same
      refine ⟨D2, y, _, _, rfl, rfl, sy _ _ eDA, ey, Nat.le_of_lt (small1000 (by rw [List.length_map]; show ms.length + 2 ≤ 1000; omega)), fun R2 nR2 => ?_⟩
      generalize upd HA y (.lst [.int 0, .int tt]) = HB at sy ey nR2
      have sR2 : Same HB (upd HB R2 (.lst (ms.map V.int ++ [.int 0, .int tt]))) := same_new (Same.refl _) nR2
      have eR2 : upd HB R2 (.lst (ms.map V.int ++ [.int 0, .int tt])) R2 = some (.lst ((ms ++ [0, tt]).map V.int)) := by
        rw [upd_same, List.map_append]
        rfl
      have hpB := (hp9.same smA).same sy
      have nR2p := hpB.fresh nR2
      generalize upd HB R2 (.lst (ms.map V.int ++ [.int 0, .int tt])) = HC at sR2 eR2
      have hpC := hpB.same sR2
      have s9C := smA.trans (sy.trans sR2)
      have hms' : ∀ n ∈ ms ++ [0, tt], 0 ≤ n ∧ n < 2 ^ 120 := fun n hn => by
        rcases List.mem_append.mp hn with h | h
        · exact hms n h
        · simp only [List.mem_cons, List.not_mem_nil, or_false] at h
          rcases h with rfl | rfl
          · exact ⟨by decide, by decide⟩
          · exact tt0
      have hlms : 1 ≤ ((ms ++ [0, tt]).map V.int).length ∧ ((ms ++ [0, tt]).map V.int).length ≤ 1000 := by
        rw [List.length_map, List.length_append]
        show 1 ≤ ms.length + 2 ∧ ms.length + 2 ≤ 1000
        omega
      generalize ms ++ [0, tt] = es2 at eR2 hms' hlms
      have k1C : Keep p p H1 HC := (k18.trans k9).trans (Same.keep s9C)
      have hBC := hB2.same s9C
      clear hms hml eDA smA nD2 ey sy
      refine ⟨4, rfl, by decide, by decide, for_range (n := 4) (fun j σ' H' => ∃ (x4 x6 x8 : Option V), σ' = [some (.ref a), some (.int (0 + i)), some (.ref p), some (.ref b), x4, some (.ref R2), x6, some (.ref b2), x8] ∧ PotC H' p (300 + 2 * j) ∧ Keep p p HC H') ⟨_, _, _, rfl, hpC.mono (by decide), Keep.refl⟩ (fun j σ' H' hj hm => ?_) (fun σ' HD hm => ?_)⟩
      · obtain ⟨x4, x6, x8, rfl, hpj, kj⟩ := hm
        have hBj : ∀ H'', Keep p p HC H'' → Brk H'' b2 bs2 := fun H'' k => ⟨hBC.1.mono (k.tupsC hpC), hBC.2⟩
        refine ⟨_, rfl, _, rfl, p, _, R2, _, rfl, hpj, by omega, kj.at nR2p eR2, nR2p, hlms.1, hlms.2, fun HE jE v hv hpE kE => ?_⟩
        obtain ⟨t, rfl, et⟩ := int_get hv
        obtain ⟨t0, t1⟩ := hms' t (List.mem_of_getElem? et)
        refine ⟨_, rfl, _, rfl, _, rfl, _, _, rfl, rfl, _, rfl, _, _, rfl, rfl, _, _, rfl, ?_⟩
        obtain ⟨w1, ew1, w10⟩ : ∃ w : Int, (if t - 1 > 0 then t - 1 else 0) = w ∧ 0 ≤ w := ⟨_, rfl, by split <;> omega⟩
        rw [ew1]
        refine ⟨_, rfl, _, _, rfl, rfl, ?_⟩
        refine ⟨⟨by decide, by decide⟩, _, _, rfl, rfl, (by show 4 ≤ sizeLine; decide), fun X nX => ?_⟩
        have nXp := hpE.fresh nX
        have hd2 : 0 ≤ t / 2 + 5 := by omega
        refine ⟨p, _, X, _, rfl, hpE.new nX, by omega, upd_same, nXp, (by show 1 ≤ 4; decide), (by show 4 ≤ 1000; decide), fun HF jF v hv hpF kF => ?_⟩
        obtain ⟨m, rfl, m0⟩ : ∃ m : Int, v = .int m ∧ 0 ≤ m := by
          have := List.mem_of_getElem? hv
          simp only [List.mem_cons, List.not_mem_nil, or_false] at this
          rcases this with h | h | h | h
          · exact ⟨t, h, by omega⟩
          · exact ⟨t + 1, h, by omega⟩
          · exact ⟨w1, h, by omega⟩
          · refine ⟨_, h, ?_⟩
            first
              | exact hd2
              | (have : t.fdiv 2 = t / 2 := Int.fdiv_eq_ediv_of_nonneg _ (by decide)
                 show 0 ≤ t.fdiv 2 + 5
                 rw [this]
                 exact hd2)
        have kCF : Keep p p HC HF := (kj.trans (kE.new nX)).trans kF
        refine ⟨_, rfl, m, b2, bs2, rfl, hBj _ kCF, m0, fun HG sG => ⟨_, rfl, iteNT ?_⟩⟩
        exact ⟨_, _, _, rfl, (hpF.same sG).mono (by omega), kCF.trans (Same.keep sG)⟩
      · obtain ⟨x4, x6, x8, rfl, hpD, kD⟩ := hm
        exact ⟨_, _, _, _, _, _, _, _, rfl, sH.trans ((k1C.trans kD).from sB np)⟩
    · exact q _
end
/-! ### the end of a law whose def is such a one -/
theorem lawG {P : Program} {w : World} {K : PySem.W.Frag} {mg mb : Str → Option Value} {k : Nat} {fa a : Addr} {fd : FuncData} {x : Str} {sp : Sp} {t : Shared} {ws : List Value} {ns : List Int} (kin : K.In t.heap) (gl : t.heap.Ns mainGlobals mg) (bl : t.heap.Ns builtinsNs mb)
    (bb : ∀ y : Str, y ≠ "__name__" → mb y = bootBuiltins y) (nol : t.heap.NoLimit) (gn : t.gens = #[]) (ea : t.heap.get? a = some { cls := .type "list", data := .seq ws.toArray }) (ia : IntsAre ws ns) (sz : ns.length ≤ sizeLine) (hr : Room k callerA)
    (F : ∀ bs : Heap, K.In bs → bs.Ns mainGlobals mg → FnG P w K mg bs k fa fd [x] sp) (bd : ∀ (s : Shared) (u : Value), BindsTo s fd ⟨[u], []⟩ [(x, u)]) (hs : ∀ H : Hp, SqL K H a (ns.map V.int) → sp [.ref a] H (fun v _ => v = .bl true) fun _ _ _ => False) :
    codeAny (model P w) callerA (.call (.ref fa) ⟨[.ref a], []⟩) (fun r s' => r = .ok (.ret (.bool true)) ∧ OldK t.heap s'.heap ∧ s'.os = t.os ∧ AllBare s'.gens) t := by
  have va := vals_ints ia
  have key : ∀ H : Hp, Only H → SqL K H a (ns.map V.int) → HOk P w H t.heap → (∀ b, H b ≠ none → b = a) → (H a ≠ none → K.lookup a = none) → codeAny (model P w) callerA (.call (.ref fa) ⟨[.ref a], []⟩)
      (fun r s' => r = .ok (.ret (.bool true)) ∧ OldK t.heap s'.heap ∧ s'.os = t.os ∧ AllBare s'.gens) t := fun H on sq hok only notK => by
    have free : ∀ {b : Addr} {o : Obj} {es : Array DictEntry} {n : Nat}, t.heap.get? b = some o → o.data = .dict es n → H b = none := fun {b o es n} e d => by
      rcases on b with z | ⟨ob, xs, z⟩
      · exact z
      · have e' : b = a := only b (by rw [z]; exact Option.some_ne_none _)
        rw [e', ea] at e
        cases e
        cases (show Data.seq ws.toArray _ = Data.dict es n from d)
    have nsB : ∀ {b : Addr} {m : Str → Option Value}, t.heap.Ns b m → (hidT t.heap H).Ns b m := fun ⟨o, es, n, e, d, r⟩ => ⟨o, es, n, hidT_get e (free e d), d, r⟩
    have kB : K.In (hidT t.heap H) := fun b o e => hidT_get (kin b o e) (by
      rcases on b with z | ⟨ob, xs, z⟩
      · exact z
      · have e' : b = a := only b (by rw [z]; exact Option.some_ne_none _)
        rw [e', notK (by rw [← e', z]; exact Option.some_ne_none _)] at e
        cases e)
    have md : Mod K mg (hidT t.heap H) := ⟨kB, nsB gl, ⟨mb, nsB bl, bb⟩, nol.elim fun mc z => ⟨mc, nsB z.1, z.2⟩⟩
    have e0 : Env0 P w K mg (hidT t.heap H) callerA [] t H := ⟨rfl, md, fun _ _ e => of_hidT e, Nat.le_of_eq (hidT_size _ _), trivial, (fun b hb => by cases hb), hok, .of_eq gn⟩
    refine codeAny_mono ((F _ kB (nsB gl)).goes callerA [] t H _ [.ref a] [.ref a] _ _ hr rfl e0 (bd t (.ref a)) (.cons rfl .nil) (hs H sq)) fun r s' h => ?_
    match r, h with
    | .error _, h => exact False.elim h
    | .ok .next, h => exact False.elim h
    | .ok .brk, h => exact False.elim h
    | .ok .cont, h => exact False.elim h
    | .ok (.ret u), h =>
      obtain ⟨v, H', eos, eb, un, ok', rv, q⟩ := h
      cases (show v = .bl true from q)
      cases (show u = Value.bool true from rv)
      refine ⟨rfl, OldK.of_keep fun b o e => ?_, eos, eb⟩
      rcases on b with z | ⟨ob, xs, z⟩
      · exact un.keep b o e z (fun y => by cases y) (fun y => by cases y)
      · obtain ⟨e1, _⟩ := hok b _ z
        obtain ⟨e2, _⟩ := ok' b _ (un.frzs b ob _ z)
        rw [e] at e1
        cases e1
        exact e2
  cases hk : K.lookup a with
  | some o =>
    have e := kin a o hk
    rw [ea] at e
    cases e
    exact key (fun _ => none) (fun _ => .inl rfl) (.inr ⟨_, ws.toArray, _, hk, rfl, rfl, rfl, (by rw [List.size_toArray, ia.length]; exact sz), by simpa using va⟩) (fun b u z => nomatch (show (none : Option HO) = some u from z)) (fun b z => absurd rfl z) (fun z => absurd rfl z)
  | none =>
    have at_ : ∀ b, (if b = a then some (HO.frz { cls := .type "list", data := .seq ws.toArray } (.lst (ns.map V.int))) else none) ≠ none → b = a := fun b z => by
      by_cases h : b = a
      · exact h
      · exact absurd (if_neg h) z
    refine key (fun b => if b = a then some (.frz { cls := .type "list", data := .seq ws.toArray } (.lst (ns.map V.int))) else none) (fun b => ?_) (.inl (.inr ⟨_, if_pos rfl⟩)) (fun b u z => ?_) at_ (fun _ => hk)
    · by_cases h : b = a
      · exact .inr ⟨_, _, if_pos h⟩
      · exact .inl (if_neg h)
    · have h : b = a := at_ b (fun y => by rw [show (if b = a then some (HO.frz { cls := .type "list", data := .seq ws.toArray } (.lst (ns.map V.int))) else none) = some u from z] at y; cases y)
      subst h
      have z' := (if_pos rfl).symm.trans z
      cases z'
      exact ⟨ea, by rw [List.length_map]; exact sz, ws, _, va, ea⟩
theorem walkG {l : PySem.W.OpenLaw} {n k : Nat} {q : Program} {loose : List Str} {XP : (Str → Option Value) → Heap → Prop} {YP : World → Heap → Prop} {d : DefRec} {K : Params → PySem.W.Frag} {sp : World → Sp} {x : Str} (hn : l.most = some n) (h2 : n ≤ sizeLine) (hd : d.params.defaults = []) (hr : Room k callerA)
    (hY : ∀ (w : World) (h : Heap), YP w h → (K w.params).In h) (F : ∀ (w : World) (mg : Str → Option Value) (fa : Addr) (h : Heap), (K w.params).In h → h.Ns mainGlobals mg → mg d.name = some (.ref fa) → ∃ fd : FuncData, (∀ (s : Shared) (u : Value), BindsTo s fd ⟨[u], []⟩ [(x, u)]) ∧
      ∀ bs : Heap, (K w.params).In bs → bs.Ns mainGlobals mg → FnG l.prog w (K w.params) mg bs k fa fd [x] (sp w)) (hs : ∀ (w : World) (H : Hp) (a : Addr) (ns : List Int), ns.length ≤ n → SqL (K w.params) H a (ns.map V.int) → sp w [.ref a] H (fun v _ => v = .bl true) fun _ _ _ => False) :
    PySem.W.WalkO q loose XP YP l.row.toRowW d [] (fun f vs => PySem.call f vs) := Att.attach_call hn hd fun w s t mg mb fa o pm cd dc a ws ns G Y ho hdt hcd hmg eo ia hl hg => by
  obtain ⟨fd, bd, hF⟩ := F w mg fa _ (hY w _ Y) G.T.g hmg
  exact lawG (hY w _ Y) G.T.g G.T.b G.T.builtins G.T.nolimit hg eo ia (Nat.le_trans hl h2) hr hF bd fun H sq => hs w H a ns hl sq
theorem all_mk {l : PySem.W.OpenLaw} {w : World} {K : PySem.W.Frag} {h : Heap} {mg : Str → Option Value} {fa f1 f2 f3 f4 f5 f6 f7 f8 f9 f10 f11 f12 f13 f14 f15 f16 f17 : Addr}  (X : K.In h) (G : h.Ns mainGlobals mg) (hfa : mg "law" = some (.ref fa))
    {od1 an1 od2 an2 od3 an3 od4 an4 od5 an5 od6 an6 od7 an7 od8 an8 od9 an9 od10 an10 od11 an11 od12 an12 od13 an13 od14 an14 od15 an15 od16 an16 od17 an17 : Option Addr} {sl1 sl2 sl3 sl4 sl5 sl6 sl7 sl8 sl9 sl10 sl11 sl12 sl13 sl14 sl15 sl16 sl17 : Array (Option Value)} {oc1 kV1 dc1 pm1 cd1 ct1 oc2 kV2 dc2 pm2 cd2 ct2 oc3 kV3 dc3 pm3 cd3 ct3 oc4 kV4 dc4 pm4 cd4 ct4 oc5 kV5 dc5 pm5 cd5 ct5 oc6 kV6 dc6 pm6 cd6 ct6 oc7 kV7 dc7 pm7 cd7 ct7 oc8 kV8 dc8 pm8 cd8 ct8 oc9 kV9 dc9 pm9 cd9 ct9 oc10 kV10 dc10 pm10 cd10 ct10 oc11 kV11 dc11 pm11 cd11 ct11 oc12 kV12 dc12 pm12 cd12 ct12 oc13 kV13 dc13 pm13 cd13 ct13 oc14 kV14 dc14 pm14 cd14 ct14 oc15 kV15 dc15 pm15 cd15 ct15 oc16 kV16 dc16 pm16 cd16 ct16 oc17 kV17 dc17 pm17 cd17 ct17 : Value}
    (a1 : PySem.W.nsIn K mainGlobals "spans_of" = some (some (.ref f1))) (l1 : K.lookup f1 = some ⟨oc1, od1, .func (PySem.W.fnOf "spans_of" "spans_of" (defArgs s_spans_of) (defBody s_spans_of) (defScope s_spans_of) .none kV1 dc1 pm1 an1 cd1 ct1), sl1⟩) (c1 : PySem.W.codeIn K cd1 "spans_of" = true) (k1 : PySem.W.keepIn K (.ref f1) = true)
    (a2 : PySem.W.nsIn K mainGlobals "left" = some (some (.ref f2))) (l2 : K.lookup f2 = some ⟨oc2, od2, .func (PySem.W.fnOf "left" "left" (defArgs s_left) (defBody s_left) (defScope s_left) .none kV2 dc2 pm2 an2 cd2 ct2), sl2⟩) (c2 : PySem.W.codeIn K cd2 "left" = true) (k2 : PySem.W.keepIn K (.ref f2) = true)
    (a3 : PySem.W.nsIn K mainGlobals "with_run" = some (some (.ref f3))) (l3 : K.lookup f3 = some ⟨oc3, od3, .func (PySem.W.fnOf "with_run" "with_run" (defArgs s_with_run) (defBody s_with_run) (defScope s_with_run) .none kV3 dc3 pm3 an3 cd3 ct3), sl3⟩) (c3 : PySem.W.codeIn K cd3 "with_run" = true) (k3 : PySem.W.keepIn K (.ref f3) = true)
    (a4 : PySem.W.nsIn K mainGlobals "without_last" = some (some (.ref f4))) (l4 : K.lookup f4 = some ⟨oc4, od4, .func (PySem.W.fnOf "without_last" "without_last" (defArgs s_without_last) (defBody s_without_last) (defScope s_without_last) .none kV4 dc4 pm4 an4 cd4 ct4), sl4⟩) (c4 : PySem.W.codeIn K cd4 "without_last" = true) (k4 : PySem.W.keepIn K (.ref f4) = true)
    (a5 : PySem.W.nsIn K mainGlobals "kept_moments" = some (some (.ref f5))) (l5 : K.lookup f5 = some ⟨oc5, od5, .func (PySem.W.fnOf "kept_moments" "kept_moments" (defArgs s_kept_moments) (defBody s_kept_moments) (defScope s_kept_moments) .none kV5 dc5 pm5 an5 cd5 ct5), sl5⟩) (c5 : PySem.W.codeIn K cd5 "kept_moments" = true) (k5 : PySem.W.keepIn K (.ref f5) = true)
    (a6 : PySem.W.nsIn K mainGlobals "moment_of" = some (some (.ref f6))) (l6 : K.lookup f6 = some ⟨oc6, od6, .func (PySem.W.fnOf "moment_of" "moment_of" (defArgs s_moment_of) (defBody s_moment_of) (defScope s_moment_of) .none kV6 dc6 pm6 an6 cd6 ct6), sl6⟩) (c6 : PySem.W.codeIn K cd6 "moment_of" = true) (k6 : PySem.W.keepIn K (.ref f6) = true)
    (a7 : PySem.W.nsIn K mainGlobals "_law_begin" = some (some (.ref f7))) (l7 : K.lookup f7 = some ⟨oc7, od7, .func (PySem.W.fnOf "_law_begin" "_law_begin" (defArgs s__law_begin) (defBody s__law_begin) (defScope s__law_begin) .none kV7 dc7 pm7 an7 cd7 ct7), sl7⟩) (c7 : PySem.W.codeIn K cd7 "_law_begin" = true) (k7 : PySem.W.keepIn K (.ref f7) = true)
    (a8 : PySem.W.nsIn K mainGlobals "_law_take" = some (some (.ref f8))) (l8 : K.lookup f8 = some ⟨oc8, od8, .func (PySem.W.fnOf "_law_take" "_law_take" (defArgs s__law_take) (defBody s__law_take) (defScope s__law_take) .none kV8 dc8 pm8 an8 cd8 ct8), sl8⟩) (c8 : PySem.W.codeIn K cd8 "_law_take" = true) (k8 : PySem.W.keepIn K (.ref f8) = true)
    (a9 : PySem.W.nsIn K mainGlobals "_law_of" = some (some (.ref f9))) (l9 : K.lookup f9 = some ⟨oc9, od9, .func (PySem.W.fnOf "_law_of" "_law_of" (defArgs s__law_of) (defBody s__law_of) (defScope s__law_of) .none kV9 dc9 pm9 an9 cd9 ct9), sl9⟩) (c9 : PySem.W.codeIn K cd9 "_law_of" = true) (k9 : PySem.W.keepIn K (.ref f9) = true)
    (a10 : PySem.W.nsIn K mainGlobals "_law_some_breaks" = some (some (.ref f10))) (l10 : K.lookup f10 = some ⟨oc10, od10, .func (PySem.W.fnOf "_law_some_breaks" "_law_some_breaks" (defArgs s__law_some_breaks) (defBody s__law_some_breaks) (defScope s__law_some_breaks) .none kV10 dc10 pm10 an10 cd10 ct10), sl10⟩) (c10 : PySem.W.codeIn K cd10 "_law_some_breaks" = true) (k10 : PySem.W.keepIn K (.ref f10) = true)
    (a11 : PySem.W.nsIn K mainGlobals "_law_stood" = some (some (.ref f11))) (l11 : K.lookup f11 = some ⟨oc11, od11, .func (PySem.W.fnOf "_law_stood" "_law_stood" (defArgs s__law_stood) (defBody s__law_stood) (defScope s__law_stood) .none kV11 dc11 pm11 an11 cd11 ct11), sl11⟩) (c11 : PySem.W.codeIn K cd11 "_law_stood" = true) (k11 : PySem.W.keepIn K (.ref f11) = true)
    (a12 : PySem.W.nsIn K mainGlobals "_law_runs_of" = some (some (.ref f12))) (l12 : K.lookup f12 = some ⟨oc12, od12, .func (PySem.W.fnOf "_law_runs_of" "_law_runs_of" (defArgs s__law_runs_of) (defBody s__law_runs_of) (defScope s__law_runs_of) .none kV12 dc12 pm12 an12 cd12 ct12), sl12⟩) (c12 : PySem.W.codeIn K cd12 "_law_runs_of" = true) (k12 : PySem.W.keepIn K (.ref f12) = true)
    (a13 : PySem.W.nsIn K mainGlobals "_law_near_right" = some (some (.ref f13))) (l13 : K.lookup f13 = some ⟨oc13, od13, .func (PySem.W.fnOf "_law_near_right" "_law_near_right" (defArgs s__law_near_right) (defBody s__law_near_right) (defScope s__law_near_right) .none kV13 dc13 pm13 an13 cd13 ct13), sl13⟩) (c13 : PySem.W.codeIn K cd13 "_law_near_right" = true) (k13 : PySem.W.keepIn K (.ref f13) = true)
    (a14 : PySem.W.nsIn K mainGlobals "_law_far_left" = some (some (.ref f14))) (l14 : K.lookup f14 = some ⟨oc14, od14, .func (PySem.W.fnOf "_law_far_left" "_law_far_left" (defArgs s__law_far_left) (defBody s__law_far_left) (defScope s__law_far_left) .none kV14 dc14 pm14 an14 cd14 ct14), sl14⟩) (c14 : PySem.W.codeIn K cd14 "_law_far_left" = true) (k14 : PySem.W.keepIn K (.ref f14) = true)
    (a15 : PySem.W.nsIn K mainGlobals "_law_is_kept" = some (some (.ref f15))) (l15 : K.lookup f15 = some ⟨oc15, od15, .func (PySem.W.fnOf "_law_is_kept" "_law_is_kept" (defArgs s__law_is_kept) (defBody s__law_is_kept) (defScope s__law_is_kept) .none kV15 dc15 pm15 an15 cd15 ct15), sl15⟩) (c15 : PySem.W.codeIn K cd15 "_law_is_kept" = true) (k15 : PySem.W.keepIn K (.ref f15) = true)
    (a16 : PySem.W.nsIn K mainGlobals "_law_far_right" = some (some (.ref f16))) (l16 : K.lookup f16 = some ⟨oc16, od16, .func (PySem.W.fnOf "_law_far_right" "_law_far_right" (defArgs s__law_far_right) (defBody s__law_far_right) (defScope s__law_far_right) .none kV16 dc16 pm16 an16 cd16 ct16), sl16⟩) (c16 : PySem.W.codeIn K cd16 "_law_far_right" = true) (k16 : PySem.W.keepIn K (.ref f16) = true)
    (a17 : PySem.W.nsIn K mainGlobals "law" = some (some (.ref f17))) (l17 : K.lookup f17 = some ⟨oc17, od17, .func (PySem.W.fnOf "law" "law" (defArgs s_law) (defBody s_law) (defScope s_law) .none kV17 dc17 pm17 an17 cd17 ct17), sl17⟩) (c17 : PySem.W.codeIn K cd17 "law" = true) (k17 : PySem.W.keepIn K (.ref f17) = true)
    (z1 : PySem.W.nsIn K mainGlobals "len" = some none)
    (z2 : PySem.W.nsIn K mainGlobals "sum" = some none)
    (z3 : PySem.W.nsIn K mainGlobals "abs" = some none)
    (z4 : PySem.W.nsIn K mainGlobals "isinstance" = some none)
    (z5 : PySem.W.nsIn K mainGlobals "max" = some none)
    (z6 : PySem.W.nsIn K mainGlobals "min" = some none)
    (z7 : PySem.W.nsIn K mainGlobals "tuple" = some none)
    (z8 : PySem.W.nsIn K mainGlobals "list" = some none)
    (z9 : PySem.W.nsIn K mainGlobals "int" = some none)
    (z10 : PySem.W.nsIn K mainGlobals "bool" = some none)
    (z11 : PySem.W.nsIn K mainGlobals "range" = some none)
    (z12 : PySem.W.nsIn K mainGlobals "enumerate" = some none)
    (z13 : PySem.W.nsIn K mainGlobals "zip" = some none)
    (z14 : PySem.W.nsIn K mainGlobals "repr" = some none)
    (z15 : PySem.W.nsIn K mainGlobals "str" = some none)
    (z16 : PySem.W.nsIn K mainGlobals "sorted" = some none)
    (z17 : PySem.W.nsIn K mainGlobals "set" = some none)
    (z18 : PySem.W.nsIn K mainGlobals "all" = some none)
    (z19 : PySem.W.nsIn K mainGlobals "any" = some none)
    (z20 : PySem.W.nsIn K mainGlobals "dict" = some none) :
    ∃ fd : FuncData, (∀ (s : Shared) (v : Value), BindsTo s fd ⟨[v], []⟩ [("_law_script", v)]) ∧ ∀ base : Heap, K.In base → base.Ns mainGlobals mg → FnOk l.prog w K mg base CX0 6 fa fd P_law (spLaw K) := by
  have e := hfa.symm.trans (PySem.W.mg_of X G a17)
  cases e
  have F1 := fun_mk (st := s_spans_of) l1 c1 k1
  have F2 := fun_mk (st := s_left) l2 c2 k2
  have F3 := fun_mk (st := s_with_run) l3 c3 k3
  have F4 := fun_mk (st := s_without_last) l4 c4 k4
  have F5 := fun_mk (st := s_kept_moments) l5 c5 k5
  have F6 := fun_mk (st := s_moment_of) l6 c6 k6
  have F7 := fun_mk (st := s__law_begin) l7 c7 k7
  have F8 := fun_mk (st := s__law_take) l8 c8 k8
  have F9 := fun_mk (st := s__law_of) l9 c9 k9
  have F10 := fun_mk (st := s__law_some_breaks) l10 c10 k10
  have F11 := fun_mk (st := s__law_stood) l11 c11 k11
  have F12 := fun_mk (st := s__law_runs_of) l12 c12 k12
  have F13 := fun_mk (st := s__law_near_right) l13 c13 k13
  have F14 := fun_mk (st := s__law_far_left) l14 c14 k14
  have F15 := fun_mk (st := s__law_is_kept) l15 c15 k15
  have F16 := fun_mk (st := s__law_far_right) l16 c16 k16
  have F17 := fun_mk (st := s_law) l17 c17 k17
  have bi : Bi mg := ⟨PySem.W.mg_none_of X G z1, PySem.W.mg_none_of X G z2, PySem.W.mg_none_of X G z3, PySem.W.mg_none_of X G z4, PySem.W.mg_none_of X G z5, PySem.W.mg_none_of X G z6, PySem.W.mg_none_of X G z7, PySem.W.mg_none_of X G z8, PySem.W.mg_none_of X G z9, PySem.W.mg_none_of X G z10, PySem.W.mg_none_of X G z11, PySem.W.mg_none_of X G z12, PySem.W.mg_none_of X G z13, PySem.W.mg_none_of X G z14, PySem.W.mg_none_of X G z15, PySem.W.mg_none_of X G z16, PySem.W.mg_none_of X G z17, PySem.W.mg_none_of X G z18, PySem.W.mg_none_of X G z19, PySem.W.mg_none_of X G z20⟩
  refine ⟨PySem.W.fnOf "law" "law" (defArgs s_law) (defBody s_law) (defScope s_law) .none kV17 dc17 pm17 an17 cd17 ct17, fun s v => .of_eq rfl, fun base _ _ => ?_⟩
  have C_spans_of : Cal l.prog w K mg base "spans_of" P_spans_of 1 spSpans f1 _ := ⟨ok_spans_of F1 bi, PySem.W.mg_of X G a1, F1.kp, F1.binds (ps := P_spans_of) fun _ _ _ _ _ _ us hl => match us, hl with | [_], _ => rfl⟩
  have C_left : Cal l.prog w K mg base "left" P_left 2 spLeft f2 _ := ⟨ok_left F2 bi C_spans_of, PySem.W.mg_of X G a2, F2.kp, F2.binds (ps := P_left) fun _ _ _ _ _ _ us hl => match us, hl with | [_, _], _ => rfl⟩
  have C_with_run : Cal l.prog w K mg base "with_run" P_with_run 1 spWithRun f3 _ := ⟨ok_with_run F3 bi, PySem.W.mg_of X G a3, F3.kp, F3.binds (ps := P_with_run) fun _ _ _ _ _ _ us hl => match us, hl with | [_, _, _], _ => rfl⟩
  have C_without_last : Cal l.prog w K mg base "without_last" P_without_last 2 spWithout f4 _ := ⟨ok_without_last F4 bi C_with_run, PySem.W.mg_of X G a4, F4.kp, F4.binds (ps := P_without_last) fun _ _ _ _ _ _ us hl => match us, hl with | [_, _], _ => rfl⟩
  have C_kept_moments : Cal l.prog w K mg base "kept_moments" P_kept_moments 3 spKept f5 _ := ⟨ok_kept_moments F5 bi C_with_run C_without_last, PySem.W.mg_of X G a5, F5.kp, F5.binds (ps := P_kept_moments) fun _ _ _ _ _ _ us hl => match us, hl with | [_, _], _ => rfl⟩
  have C_moment_of : Cal l.prog w K mg base "moment_of" P_moment_of 4 spMomentOf f6 _ := ⟨ok_moment_of F6 bi C_kept_moments, PySem.W.mg_of X G a6, F6.kp, F6.binds (ps := P_moment_of) fun _ _ _ _ _ _ us hl => match us, hl with | [_, _, _], _ => rfl⟩
  have C__law_begin : Cal l.prog w K mg base "_law_begin" P__law_begin 1 (spBeginC K) f7 _ := ⟨ok__law_begin F7 bi, PySem.W.mg_of X G a7, F7.kp, F7.binds (ps := P__law_begin) fun _ _ _ _ _ _ us hl => match us, hl with | [_, _], _ => rfl⟩
  have C__law_take : Cal l.prog w K mg base "_law_take" P__law_take 1 spTakeC f8 _ := ⟨ok__law_take F8 bi, PySem.W.mg_of X G a8, F8.kp, F8.binds (ps := P__law_take) fun _ _ _ _ _ _ us hl => match us, hl with | [_, _], _ => rfl⟩
  have C__law_of : Cal l.prog w K mg base "_law_of" P__law_of 2 spOfB f9 _ := ⟨ok__law_of F9 bi C__law_take, PySem.W.mg_of X G a9, F9.kp, F9.binds (ps := P__law_of) fun _ _ _ _ _ _ us hl => match us, hl with | [_, _], _ => rfl⟩
  have C__law_some_breaks : Cal l.prog w K mg base "_law_some_breaks" P__law_some_breaks 3 spSomeBreaks34 f10 _ := ⟨ok__law_some_breaks F10 bi C__law_take C__law_of, PySem.W.mg_of X G a10, F10.kp, F10.binds (ps := P__law_some_breaks) fun _ _ _ _ _ _ us hl => match us, hl with | [_, _, _], _ => rfl⟩
  have C__law_stood : Cal l.prog w K mg base "_law_stood" P__law_stood 1 spStood34 f11 _ := ⟨ok__law_stood F11 bi, PySem.W.mg_of X G a11, F11.kp, F11.binds (ps := P__law_stood) fun _ _ _ _ _ _ us hl => match us, hl with | [_, _], _ => rfl⟩
  have C__law_runs_of : Cal l.prog w K mg base "_law_runs_of" P__law_runs_of 1 spRunsOf f12 _ := ⟨ok__law_runs_of F12 bi, PySem.W.mg_of X G a12, F12.kp, F12.binds (ps := P__law_runs_of) fun _ _ _ _ _ _ us hl => match us, hl with | [_], _ => rfl⟩
  have C__law_near_right : Cal l.prog w K mg base "_law_near_right" P__law_near_right 5 spNear34 f13 _ := ⟨ok__law_near_right F13 bi C__law_stood C_left C_kept_moments C__law_runs_of C_moment_of, PySem.W.mg_of X G a13, F13.kp, F13.binds (ps := P__law_near_right) fun _ _ _ _ _ _ us hl => match us, hl with | [_, _], _ => rfl⟩
  have C__law_far_left : Cal l.prog w K mg base "_law_far_left" P__law_far_left 1 spLeft f14 _ := ⟨ok__law_far_left F14 bi, PySem.W.mg_of X G a14, F14.kp, F14.binds (ps := P__law_far_left) fun _ _ _ _ _ _ us hl => match us, hl with | [_, _], _ => rfl⟩
  have C__law_is_kept : Cal l.prog w K mg base "_law_is_kept" P__law_is_kept 2 spIsKept f15 _ := ⟨ok__law_is_kept F15 bi C__law_far_left, PySem.W.mg_of X G a15, F15.kp, F15.binds (ps := P__law_is_kept) fun _ _ _ _ _ _ us hl => match us, hl with | [_, _, _], _ => rfl⟩
  have C__law_far_right : Cal l.prog w K mg base "_law_far_right" P__law_far_right 5 spFar34 f16 _ := ⟨ok__law_far_right F16 bi C_kept_moments C__law_far_left C_left C_moment_of C__law_is_kept, PySem.W.mg_of X G a16, F16.kp, F16.binds (ps := P__law_far_right) fun _ _ _ _ _ _ us hl => match us, hl with | [_, _], _ => rfl⟩
  exact ok_law F17 bi C__law_begin C__law_take C__law_of C__law_some_breaks C__law_near_right C__law_far_right
end My
open PySem PySem.W PyProof.Rows
set_option maxHeartbeats 0 in
theorem PySem.Challenge.cw_evenstrand_k34_places_left_holds : PySem.Challenge.rw_evenstrand_k34_places_left.Holds := by
  w_on; o_law; k_head; (case hw => w_witness2)
  k_fill
  refine L2.walk_of (l := PySem.Challenge.rw_evenstrand_k34_places_left) (n := 63) (k := 6) (x := "_law_script") (CX := fun _ => L2.CX0) (sp := fun w => My.spLaw _) rfl (by decide) rfl ⟨rfl, by decide, by decide⟩ (fun w h Y => PySem.W.kIn_of Y) ?F (fun _ _ a ns hl _ hS => ⟨a, ns, rfl, hS, hl, fun _ => rfl⟩) (fun _ _ _ _ _ h => h)
  case F =>
    intro w mg fa h KX G hmg
    refine' My.all_mk KX G hmg ?a1 ?l1 ?c1 ?k1 ?a2 ?l2 ?c2 ?k2 ?a3 ?l3 ?c3 ?k3 ?a4 ?l4 ?c4 ?k4 ?a5 ?l5 ?c5 ?k5 ?a6 ?l6 ?c6 ?k6 ?a7 ?l7 ?c7 ?k7 ?a8 ?l8 ?c8 ?k8 ?a9 ?l9 ?c9 ?k9 ?a10 ?l10 ?c10 ?k10 ?a11 ?l11 ?c11 ?k11 ?a12 ?l12 ?c12 ?k12 ?a13 ?l13 ?c13 ?k13 ?a14 ?l14 ?c14 ?k14 ?a15 ?l15 ?c15 ?k15 ?a16 ?l16 ?c16 ?k16 ?a17 ?l17 ?c17 ?k17 ?z1 ?z2 ?z3 ?z4 ?z5 ?z6 ?z7 ?z8 ?z9 ?z10 ?z11 ?z12 ?z13 ?z14 ?z15 ?z16 ?z17 ?z18 ?z19 ?z20 
    (case a1 => k_is)
    (case l1 => k_is)
    (case c1 => k_is)
    (case k1 => k_is)
    (case a2 => k_is)
    (case l2 => k_is)
    (case c2 => k_is)
    (case k2 => k_is)
    (case a3 => k_is)
    (case l3 => k_is)
    (case c3 => k_is)
    (case k3 => k_is)
    (case a4 => k_is)
    (case l4 => k_is)
    (case c4 => k_is)
    (case k4 => k_is)
    (case a5 => k_is)
    (case l5 => k_is)
    (case c5 => k_is)
    (case k5 => k_is)
    (case a6 => k_is)
    (case l6 => k_is)
    (case c6 => k_is)
    (case k6 => k_is)
    (case a7 => k_is)
    (case l7 => k_is)
    (case c7 => k_is)
    (case k7 => k_is)
    (case a8 => k_is)
    (case l8 => k_is)
    (case c8 => k_is)
    (case k8 => k_is)
    (case a9 => k_is)
    (case l9 => k_is)
    (case c9 => k_is)
    (case k9 => k_is)
    (case a10 => k_is)
    (case l10 => k_is)
    (case c10 => k_is)
    (case k10 => k_is)
    (case a11 => k_is)
    (case l11 => k_is)
    (case c11 => k_is)
    (case k11 => k_is)
    (case a12 => k_is)
    (case l12 => k_is)
    (case c12 => k_is)
    (case k12 => k_is)
    (case a13 => k_is)
    (case l13 => k_is)
    (case c13 => k_is)
    (case k13 => k_is)
    (case a14 => k_is)
    (case l14 => k_is)
    (case c14 => k_is)
    (case k14 => k_is)
    (case a15 => k_is)
    (case l15 => k_is)
    (case c15 => k_is)
    (case k15 => k_is)
    (case a16 => k_is)
    (case l16 => k_is)
    (case c16 => k_is)
    (case k16 => k_is)
    (case a17 => k_is)
    (case l17 => k_is)
    (case c17 => k_is)
    (case k17 => k_is)
    (case z1 => k_is)
    (case z2 => k_is)
    (case z3 => k_is)
    (case z4 => k_is)
    (case z5 => k_is)
    (case z6 => k_is)
    (case z7 => k_is)
    (case z8 => k_is)
    (case z9 => k_is)
    (case z10 => k_is)
    (case z11 => k_is)
    (case z12 => k_is)
    (case z13 => k_is)
    (case z14 => k_is)
    (case z15 => k_is)
    (case z16 => k_is)
    (case z17 => k_is)
    (case z18 => k_is)
    (case z19 => k_is)
    (case z20 => k_is)
