import PyProof.Rows.All
import Wide.All
import OpenK.AllK
import Wide.FinOn
import HandS.ForMost
import HandS.Wide
import HandS.IsInst
import HandS.More
import HandS.TupAny
import HandS.Codes
import HandS.Zip
import HandS.SortKw
import HandS.Walk
import KE.KMinKey
import PyProof.Rows.NestShow
import PyProof.ReprBulk
import PyProof.FitsInt
import HandS.SortInts
import HandS.Flow
import HandS.SetKeys
import HandS.NoneIn
import HandS.Style
import HandS.SetFor
import HandS.Defaults
import PyProof.LongRange
import PyProof.Rows.SortShellAny
import PyProof.FactsAll.NoneType_2
import KE.DatumOrd
import PyProof.Claim2Refuses
import PyProof.MaxThree
import HandS.FStr
import KE.IntTextLaws
import HandS.StrMore
import HandS.TupMul
import PyProof.Rows.StrCut
import PySem.Challenge.RW_evenstrand_k54_entries_and_pages_or_none
set_option Elab.async false
set_option linter.all false
set_option maxRecDepth 100000
set_option maxHeartbeats 4000000
namespace My
open PySem PySem.Spec PyProof.Rows L2
/-! ### defs that are called where no object is just being shown: there repr tells all of a thing -/
structure FnG (P : Program) (w : World) (K : PySem.W.Frag) (mg : Str → Option Value) (bs : Heap) (k : Nat) (f : Addr) (fd : FuncData) (ps : List Str) (sp : Sp) : Prop where
  long : ∀ us H Q E, sp us H Q E → us.length = ps.length
  goes : ∀ (B : Around) (ou : List Env) (t : Shared) (H : Hp) (ar : Args) (ws : List Value) (us : List V) (Q : VK) (E : XK), Room k B → B.guards = some [] → Env0 P w K mg bs B ou t H → BindsTo t fd ar (ps.zip ws) →
    Vals us ws → sp us H Q E → codeAny (model P w) B (.call (.ref f) ar) (CR CX0 ou P w H t Q E) t
section
variable {P : Program} {w : World} {K : PySem.W.Frag} {mg : Str → Option Value} {bs : Heap} {f : Addr} {fd : FuncData} {ps : List Str} {sp : Sp}
theorem FnG.up {j k : Nat} (F : FnG P w K mg bs j f fd ps sp) (h : j ≤ k) : FnG P w K mg bs k f fd ps sp := ⟨F.long, fun B ou t H ar ws us Q E r => F.goes B ou t H ar ws us Q E (r.mono h)⟩
theorem FnG.of {k : Nat} (F : FnOk P w K mg bs CX0 k f fd ps sp) : FnG P w K mg bs k f fd ps sp := ⟨F.len, fun B ou t H ar ws us Q E r _ => F.run B ou t H ar ws us Q E r⟩
/-- from the body's walk -/
theorem okG {x qual : Str} {st : Stmt} {N : List Str} {k : Nat} (F : Fun K x qual st f fd) (S : FnScope N ps (defScope st)) (ln : ∀ us H Q E, sp us H Q E → us.length = ps.length)
    (hb : ∀ (cv : Value) (B : Around) (ou : List Env) (t : Shared) (H : Hp) (us : List V) (Q : VK) (E : XK), Room k (B.deeper (envOfC qual (defScope st) t.heap.objs.size f cv)) → (B.deeper (envOfC qual (defScope st) t.heap.objs.size f cv)).guards = some [] → sp us H Q E →
      ∃ u, PSs (cxOf CX0 P w K mg bs N qual (defScope st) f cv B ou t H E).nox (defBody st) u ∧ u { nx := fun _ H' => Q .non H', rt := Q } (start N us) H) : FnG P w K mg bs (k + 1) f fd ps sp := by
  obtain ⟨oc, od, kV, dc, pm, an, cv, ct, sl, rfl, lk, hcv⟩ := F.ex
  refine ⟨ln, fun B ou t H ar ws us Q E r gd e0 bi va hs => ?_⟩
  have kin : K.In t.heap := e0.mod.kin.keeps fun b o e => (e0.bs b o e).1
  have nol : t.heap.NoLimit := e0.mod.nolimit.keeps fun b o e => (e0.bs b o e).1
  refine codeAny_call_function r.depth (kin _ _ lk) rfl S.co S.gen rfl (PySem.W.codeRec_of kin hcv) (bi _ _ _ _ (wpAny_newFunctionEnv_cells S.kind (fun ⟨y, v⟩ hy => ?_) fun en hen t1 z => ?_))
  · rcases S.par y (List.of_mem_zip hy).1 with l | l
    · exact .inl l
    · exact .inr ⟨l, PySem.W.cellsFrom_some _ _ _ (.inl l)⟩
  · subst hen
    refine ⟨nol.keeps z.toInCall.keep, codeAny_func ?_⟩
    obtain ⟨u, hu, hq⟩ := hb cv B ou t H us Q E (r.deeper _) gd hs
    refine wpAny_mono (hu.nox.run [] t1 (start N us) H _ (inv_start S r.hd e0 (ln _ _ _ _ hs) va z) hq) (fun fl t' ht => ?_) fun _ _ ht => ht
    cases fl with
    | ret y =>
      obtain ⟨v, σ', H', J, rv, q⟩ := ht
      exact ⟨v, H', J.os, J.bare, J.base, J.hok, rv, q⟩
    | next =>
      obtain ⟨σ', H', J, q⟩ := ht
      exact ⟨.non, H', J.os, J.bare, J.base, J.hok, rfl, q⟩
    | brk => exact ht.elim fun _ z => z.elim fun _ z => z.2.elim
    | cont => exact ht.elim fun _ z => z.elim fun _ z => z.2.elim
end
section
variable {X : Cx}
theorem pe_callG {k : Nat} {f : Addr} {fd : FuncData} {ps : List Str} {sp : Sp} {x : Str} {p pos : Pos} {e : Expr} {es : List Expr} {t : TA} (F : FnG X.prog X.w X.K X.mg X.base k f fd ps sp) (hr : Room k X.A) (gd : X.A.guards = some []) (hg : Gl X x) (hm : X.mg x = some (.ref f)) (kp : PySem.W.keepIn X.K (.ref f) = true)
    (bd : Binds X.K fd ps []) (ha : PA X (e :: es) t) (hdb : (x == ("__debug__" : Str)) = false := by decide) (hst : starEach (e :: es) X.env = (false, eval e X.env) :: starEach es X.env := by rfl)
    (hpl : (backTo pos (starEach es X.env)).any (·.1) = false := by rfl) : PE X (.Call (.Name x p) (e :: es) [] pos) (tCall sp [] E0 t) := by
  refine ⟨fun pins s σ H Q I h => wpAny_Call_Name_kw (ld_glob I hg hm (PySem.W.callWith_K (h₀ := X.base) I.ok.mod.kin kp (thn (ha.run pos pins s σ H _ I h) fun ws s1 ⟨us, H1, J, va, q⟩ => ⟨J.kIn, ?_⟩) hst hpl) hdb)⟩
  have q : sp (us ++ []) H1 Q E0 := q
  rw [List.append_nil] at q
  have hl : (ws ++ []).length = ps.length := by rw [List.append_nil, ← va.length]; exact F.long _ _ _ _ q
  have bt := bd s1 ws J.kIn hl
  rw [List.append_nil] at bt
  refine wpAny_call (codeAny_mono (F.goes X.A X.stack s1 H1 ⟨ws, []⟩ ws us Q E0 hr gd J.env0 bt va q) fun r s' hq => ?_)
  match r, hq with
  | .ok (.ret _), hq => exact J.after hq
  | .ok .next, hq => exact False.elim hq
  | .ok .brk, hq => exact False.elim hq
  | .ok .cont, hq => exact False.elim hq
  | .error _, hq => exact False.elim hq
/-- repr of a thing made of lists, tuples, texts, numbers, truths and None -/
def rRepr (K : PySem.W.Frag) : List V → Hp → VK → Prop := fun xs H Q => ∃ (a : Addr) (d : PyData), xs = [.ref a] ∧ Dp K H (.ref a) d ∧ d.showable = true ∧ d.hasDict = false ∧ d.depth ≤ 60 ∧ d.shown.length ≤ sizeLine ∧ Q (.str d.shown) H
theorem call_reprD (gd : X.A.guards = some []) (hu : X.A.units + 64 < cLine) : CallR X (.builtin "repr") (rRepr X.K) := by
  intro pins s σ H xs us Q I va h
  obtain ⟨a, d, rfl, dp, h1, h2, h3, h4, q⟩ := h
  rw [Vals.ref1 va]
  obtain ⟨as, rd⟩ := Dp.reads I d (.ref a) (.ref a) dp rfl
  exact repr_of_reads' rd h1 (PyData.noDict_hsm h2) gd (by omega) (fun _ _ e => e) (fun h' u tk hk => ⟨.str _, H, I.kept hk, ⟨_, rfl⟩, q⟩) h4
end
/-! ### the text -/
def topS (i : Nat) : Stmt := PySem.Challenge.pw_evenstrand_k54_entries_and_pages_or_none.main.body.getD i (.Pass ⟨0, 0, 0, 0⟩)
abbrev s_is_whole : Stmt := topS 1
abbrev N_is_whole : List Str := ["thing", "least"]
abbrev P_is_whole : List Str := ["thing", "least"]
theorem sc_is_whole : FnScope N_is_whole P_is_whole (defScope s_is_whole) := ⟨rfl, rfl, rfl, by decide +kernel, rfl, by decide +kernel, by decide +kernel⟩
abbrev s_is_tuple : Stmt := topS 2
abbrev N_is_tuple : List Str := ["thing", "fewest", "most"]
abbrev P_is_tuple : List Str := ["thing", "fewest", "most"]
theorem sc_is_tuple : FnScope N_is_tuple P_is_tuple (defScope s_is_tuple) := ⟨rfl, rfl, rfl, by decide +kernel, rfl, by decide +kernel, by decide +kernel⟩
abbrev s_is_step : Stmt := topS 5
abbrev N_is_step : List Str := ["thing"]
abbrev P_is_step : List Str := ["thing"]
theorem sc_is_step : FnScope N_is_step P_is_step (defScope s_is_step) := ⟨rfl, rfl, rfl, by decide +kernel, rfl, by decide +kernel, by decide +kernel⟩
abbrev s_are_steps : Stmt := topS 6
abbrev N_are_steps : List Str := ["thing", "ahead", "step"]
abbrev P_are_steps : List Str := ["thing"]
theorem sc_are_steps : FnScope N_are_steps P_are_steps (defScope s_are_steps) := ⟨rfl, rfl, rfl, by decide +kernel, rfl, by decide +kernel, by decide +kernel⟩
abbrev s_is_wisp : Stmt := topS 7
abbrev N_is_wisp : List Str := ["thing", "sort", "steps"]
abbrev P_is_wisp : List Str := ["thing"]
theorem sc_is_wisp : FnScope N_is_wisp P_is_wisp (defScope s_is_wisp) := ⟨rfl, rfl, rfl, by decide +kernel, rfl, by decide +kernel, by decide +kernel⟩
abbrev s_is_name : Stmt := topS 12
abbrev N_is_name : List Str := ["thing", "sign"]
abbrev P_is_name : List Str := ["thing"]
theorem sc_is_name : FnScope N_is_name P_is_name (defScope s_is_name) := ⟨rfl, rfl, rfl, by decide +kernel, rfl, by decide +kernel, by decide +kernel⟩
abbrev s_is_entry : Stmt := topS 13
abbrev N_is_entry : List Str := ["thing"]
abbrev P_is_entry : List Str := ["thing"]
theorem sc_is_entry : FnScope N_is_entry P_is_entry (defScope s_is_entry) := ⟨rfl, rfl, rfl, by decide +kernel, rfl, by decide +kernel, by decide +kernel⟩
abbrev s_is_page : Stmt := topS 14
abbrev N_is_page : List Str := ["thing", "entry"]
abbrev P_is_page : List Str := ["thing"]
theorem sc_is_page : FnScope N_is_page P_is_page (defScope s_is_page) := ⟨rfl, rfl, rfl, by decide +kernel, rfl, by decide +kernel, by decide +kernel⟩
abbrev s__law_pot : Stmt := topS 16
abbrev N__law_pot : List Str := ["_law_script", "_law_k", "_law_cell", "_law_bound", "_law_seed"]
abbrev P__law_pot : List Str := ["_law_script", "_law_k"]
theorem sc__law_pot : FnScope N__law_pot P__law_pot (defScope s__law_pot) := ⟨rfl, rfl, rfl, by decide +kernel, rfl, by decide +kernel, by decide +kernel⟩
abbrev s__law_pick : Stmt := topS 17
abbrev N__law_pick : List Str := ["_law_pot_here", "_law_many", "_law_digit", "_law_step", "_law_mixed"]
abbrev P__law_pick : List Str := ["_law_pot_here", "_law_many"]
theorem sc__law_pick : FnScope N__law_pick P__law_pick (defScope s__law_pick) := ⟨rfl, rfl, rfl, by decide +kernel, rfl, by decide +kernel, by decide +kernel⟩
abbrev s__law_great : Stmt := topS 18
abbrev N__law_great : List Str := ["_law_pot_here"]
abbrev P__law_great : List Str := ["_law_pot_here"]
theorem sc__law_great : FnScope N__law_great P__law_great (defScope s__law_great) := ⟨rfl, rfl, rfl, by decide +kernel, rfl, by decide +kernel, by decide +kernel⟩
abbrev s__law_sign : Stmt := topS 19
abbrev N__law_sign : List Str := ["_law_pot_here", "_law_some"]
abbrev P__law_sign : List Str := ["_law_pot_here"]
theorem sc__law_sign : FnScope N__law_sign P__law_sign (defScope s__law_sign) := ⟨rfl, rfl, rfl, by decide +kernel, rfl, by decide +kernel, by decide +kernel⟩
abbrev s__law_number : Stmt := topS 20
abbrev N__law_number : List Str := ["_law_pot_here"]
abbrev P__law_number : List Str := ["_law_pot_here"]
theorem sc__law_number : FnScope N__law_number P__law_number (defScope s__law_number) := ⟨rfl, rfl, rfl, by decide +kernel, rfl, by decide +kernel, by decide +kernel⟩
abbrev s__law_name : Stmt := topS 21
abbrev N__law_name : List Str := ["_law_pot_here", "_law_size", "_law_k"]
abbrev P__law_name : List Str := ["_law_pot_here"]
theorem sc__law_name : FnScope N__law_name P__law_name (defScope s__law_name) := ⟨rfl, rfl, rfl, by decide +kernel, rfl, by decide +kernel, by decide +kernel⟩
abbrev s__law_wisp : Stmt := topS 22
abbrev N__law_wisp : List Str := ["_law_pot_here", "_law_steps", "_law_strong", "_law_k"]
abbrev P__law_wisp : List Str := ["_law_pot_here"]
theorem sc__law_wisp : FnScope N__law_wisp P__law_wisp (defScope s__law_wisp) := ⟨rfl, rfl, rfl, by decide +kernel, rfl, by decide +kernel, by decide +kernel⟩
abbrev s__law_entry : Stmt := topS 23
abbrev N__law_entry : List Str := ["_law_pot_here", "_law_way"]
abbrev P__law_entry : List Str := ["_law_pot_here"]
theorem sc__law_entry : FnScope N__law_entry P__law_entry (defScope s__law_entry) := ⟨rfl, rfl, rfl, by decide +kernel, rfl, by decide +kernel, by decide +kernel⟩
abbrev s__law_other_number : Stmt := topS 24
abbrev N__law_other_number : List Str := ["_law_pot_here", "_law_number_here", "_law_some"]
abbrev P__law_other_number : List Str := ["_law_pot_here", "_law_number_here"]
theorem sc__law_other_number : FnScope N__law_other_number P__law_other_number (defScope s__law_other_number) := ⟨rfl, rfl, rfl, by decide +kernel, rfl, by decide +kernel, by decide +kernel⟩
abbrev s__law_other_text : Stmt := topS 25
abbrev N__law_other_text : List Str := ["_law_pot_here", "_law_text", "_law_way", "_law_at", "_law_more", "_law_sign_here"]
abbrev P__law_other_text : List Str := ["_law_pot_here", "_law_text"]
theorem sc__law_other_text : FnScope N__law_other_text P__law_other_text (defScope s__law_other_text) := ⟨rfl, rfl, rfl, by decide +kernel, rfl, by decide +kernel, by decide +kernel⟩
abbrev s__law_other_tuple : Stmt := topS 26
abbrev N__law_other_tuple : List Str := ["_law_pot_here", "_law_parts", "_law_way", "_law_at", "_law_more"]
abbrev P__law_other_tuple : List Str := ["_law_pot_here", "_law_parts"]
theorem sc__law_other_tuple : FnScope N__law_other_tuple P__law_other_tuple (defScope s__law_other_tuple) := ⟨rfl, rfl, rfl, by decide +kernel, rfl, by decide +kernel, by decide +kernel⟩
abbrev s__law_otherwise : Stmt := topS 27
abbrev N__law_otherwise : List Str := ["_law_pot_here", "_law_thing", "_law_deep", "_law_at"]
abbrev P__law_otherwise : List Str := ["_law_pot_here", "_law_thing"]
theorem sc__law_otherwise : FnScope N__law_otherwise P__law_otherwise (defScope s__law_otherwise) := ⟨rfl, rfl, rfl, by decide +kernel, rfl, by decide +kernel, by decide +kernel⟩
abbrev s__law_is_count : Stmt := topS 28
abbrev N__law_is_count : List Str := ["_law_found"]
abbrev P__law_is_count : List Str := ["_law_found"]
theorem sc__law_is_count : FnScope N__law_is_count P__law_is_count (defScope s__law_is_count) := ⟨rfl, rfl, rfl, by decide +kernel, rfl, by decide +kernel, by decide +kernel⟩
abbrev s__law_is_name : Stmt := topS 29
abbrev N__law_is_name : List Str := ["_law_found"]
abbrev P__law_is_name : List Str := ["_law_found"]
theorem sc__law_is_name : FnScope N__law_is_name P__law_is_name (defScope s__law_is_name) := ⟨rfl, rfl, rfl, by decide +kernel, rfl, by decide +kernel, by decide +kernel⟩
abbrev s__law_is_wisp : Stmt := topS 30
abbrev N__law_is_wisp : List Str := ["_law_found", "_law_last", "_law_step", "_law_one"]
abbrev P__law_is_wisp : List Str := ["_law_found"]
theorem sc__law_is_wisp : FnScope N__law_is_wisp P__law_is_wisp (defScope s__law_is_wisp) := ⟨rfl, rfl, rfl, by decide +kernel, rfl, by decide +kernel, by decide +kernel⟩
abbrev s__law_is_entry : Stmt := topS 31
abbrev N__law_is_entry : List Str := ["_law_found"]
abbrev P__law_is_entry : List Str := ["_law_found"]
theorem sc__law_is_entry : FnScope N__law_is_entry P__law_is_entry (defScope s__law_is_entry) := ⟨rfl, rfl, rfl, by decide +kernel, rfl, by decide +kernel, by decide +kernel⟩
abbrev s__law_is_page : Stmt := topS 32
abbrev N__law_is_page : List Str := ["_law_found", "_law_one"]
abbrev P__law_is_page : List Str := ["_law_found"]
theorem sc__law_is_page : FnScope N__law_is_page P__law_is_page (defScope s__law_is_page) := ⟨rfl, rfl, rfl, by decide +kernel, rfl, by decide +kernel, by decide +kernel⟩
abbrev s__law_right : Stmt := topS 33
abbrev N__law_right : List Str := ["_law_thing", "_law_told", "_law_some", "_law_tolds", "_law_one"]
abbrev P__law_right : List Str := ["_law_thing"]
theorem sc__law_right : FnScope N__law_right P__law_right (defScope s__law_right) := ⟨rfl, rfl, rfl, by decide +kernel, rfl, by decide +kernel, by decide +kernel⟩
abbrev s_law : Stmt := topS 34
abbrev N_law : List Str := ["_law_script", "_law_k", "_law_pot_here", "_law_bent", "_law_count", "_law_page", "_law_found", "_law_odd", "_law_j", "_law_thing"]
abbrev P_law : List Str := ["_law_script"]
theorem sc_law : FnScope N_law P_law (defScope s_law) := ⟨rfl, rfl, rfl, by decide +kernel, rfl, by decide +kernel, by decide +kernel⟩
/-! ### the names that are still the built-in ones -/
structure Bi (mg : Str → Option Value) : Prop where
  m_len : mg "len" = none
  m_sum : mg "sum" = none
  m_abs : mg "abs" = none
  m_isinstance : mg "isinstance" = none
  m_max : mg "max" = none
  m_min : mg "min" = none
  m_tuple : mg "tuple" = none
  m_list : mg "list" = none
  m_int : mg "int" = none
  m_bool : mg "bool" = none
  m_range : mg "range" = none
  m_enumerate : mg "enumerate" = none
  m_zip : mg "zip" = none
  m_repr : mg "repr" = none
  m_str : mg "str" = none
  m_sorted : mg "sorted" = none
  m_set : mg "set" = none
  m_all : mg "all" = none
  m_any : mg "any" = none
  m_dict : mg "dict" = none
/-! ### a def as its callers use it -/
structure Cal (P : Program) (w : World) (K : PySem.W.Frag) (mg : Str → Option Value) (base : Heap) (x : Str) (ps : List Str) (k : Nat) (sp : Sp) (f : Addr) (fd : FuncData) : Prop where
  G : FnOk P w K mg base CX0 k f fd ps sp
  g : mg x = some (.ref f)
  kp : PySem.W.keepIn K (.ref f) = true
  b : Binds K fd ps []
structure CalG (P : Program) (w : World) (K : PySem.W.Frag) (mg : Str → Option Value) (base : Heap) (x : Str) (ps : List Str) (k : Nat) (sp : Sp) (f : Addr) (fd : FuncData) : Prop where
  G : FnG P w K mg base k f fd ps sp
  g : mg x = some (.ref f)
  kp : PySem.W.keepIn K (.ref f) = true
  b : Binds K fd ps []
/-! ### heaps -/
def Keep (p l : Addr) (H H' : Hp) : Prop := ∀ a o, a ≠ p → a ≠ l → H a = some o → H' a = some o
theorem Keep.refl {p l : Addr} {H : Hp} : Keep p l H H := fun _ _ _ _ h => h
theorem Keep.trans {p l : Addr} {H H1 H2 : Hp} (a : Keep p l H H1) (b : Keep p l H1 H2) : Keep p l H H2 := fun c o n1 n2 h => b c o n1 n2 (a c o n1 n2 h)
theorem Keep.new {p l : Addr} {H H1 : Hp} {a : Addr} {o : HO} (k : Keep p l H H1) (h : H1 a = none) : Keep p l H (upd H1 a o) := fun c u n1 n2 e => by
  have e1 := k c u n1 n2 e
  rw [upd_ne (ne_of_none e1 h)]
  exact e1
theorem Keep.own {p l : Addr} {H H1 : Hp} {o : HO} (k : Keep p l H H1) : Keep p l H (upd H1 p o) := fun c u n1 n2 e => by
  rw [upd_ne n1]
  exact k c u n1 n2 e
theorem Keep.own2 {p l : Addr} {H H1 : Hp} {o : HO} (k : Keep p l H H1) : Keep p l H (upd H1 l o) := fun c u n1 n2 e => by
  rw [upd_ne n2]
  exact k c u n1 n2 e
/-- an object that was not there at H may change -/
theorem Keep.mine {p l a : Addr} {H H1 : Hp} {o : HO} (k : Keep p l H H1) (h : H a = none) : Keep p l H (upd H1 a o) := fun c u n1 n2 e => by
  rw [upd_ne (ne_of_none e h)]
  exact k c u n1 n2 e
def Tups (H H' : Hp) : Prop := ∀ a xs, H a = some (.tup xs) → H' a = some (.tup xs)
theorem Tups.refl {H : Hp} : Tups H H := fun _ _ h => h
theorem Tups.trans {H H1 H2 : Hp} (a : Tups H H1) (b : Tups H1 H2) : Tups H H2 := fun c xs h => b c xs (a c xs h)
theorem Tups.new {H : Hp} {a : Addr} {o : HO} (h : H a = none) : Tups H (upd H a o) := fun c xs e => by
  rw [upd_ne (ne_of_none e h)]
  exact e
theorem Tups.ls {H : Hp} {a : Addr} {xs : List V} {o : HO} (h : H a = some (.lst xs)) : Tups H (upd H a o) := fun c ys e => by
  have n : c ≠ a := ne_of e h (by intro z; cases z)
  rw [upd_ne n]
  exact e
theorem Tups.same {H H' : Hp} (h : Same H H') : Tups H H' := fun a xs e => h a _ e
/-- the pot: the cells that are left, the great number at hand, the seed, how many were drawn -/
def Pot (H : Hp) (p l : Addr) (T : Nat) : Prop := ∃ (ns : List Int) (c m : Int) (t : Nat), H p = some (.lst [.ref l, .int c, .int m, .int (t : Int)]) ∧ H l = some (.lst (ns.map V.int)) ∧ 0 ≤ c ∧ t ≤ T ∧ ns.length ≤ 63
theorem Pot.ne {H : Hp} {p l : Addr} {T : Nat} (h : Pot H p l T) : p ≠ l := by
  obtain ⟨ns, c, m, t, h1, h2, _⟩ := h
  intro e
  rw [e, h2] at h1
  cases ns with
  | nil => exact absurd h1 (by intro z; cases z)
  | cons n r => exact absurd h1 (by intro z; cases z)
theorem Pot.mono {H : Hp} {p l : Addr} {T U : Nat} (h : Pot H p l T) (e : T ≤ U) : Pot H p l U := by
  obtain ⟨ns, c, m, t, h1, h2, h3, h4, h5⟩ := h
  exact ⟨ns, c, m, t, h1, h2, h3, Nat.le_trans h4 e, h5⟩
theorem Pot.new {H : Hp} {p l a : Addr} {T : Nat} {o : HO} (h : Pot H p l T) (n : H a = none) : Pot (upd H a o) p l T := by
  obtain ⟨ns, c, m, t, h1, h2, h3⟩ := h
  exact ⟨ns, c, m, t, by rw [upd_ne (ne_of_none h1 n)]; exact h1, by rw [upd_ne (ne_of_none h2 n)]; exact h2, h3⟩
theorem Pot.other {H : Hp} {p l a : Addr} {T : Nat} {o : HO} (h : Pot H p l T) (n1 : a ≠ p) (n2 : a ≠ l) : Pot (upd H a o) p l T := by
  obtain ⟨ns, c, m, t, h1, h2, h3⟩ := h
  exact ⟨ns, c, m, t, by rw [upd_ne n1.symm]; exact h1, by rw [upd_ne n2.symm]; exact h2, h3⟩
theorem Pot.notP {H : Hp} {p l a : Addr} {T : Nat} {xs : List V} (h : Pot H p l T) (e : H a = some (.tup xs)) : a ≠ p ∧ a ≠ l := by
  obtain ⟨ns, c, m, t, h1, h2, h3⟩ := h
  exact ⟨ne_of e h1 (by intro z; cases z), ne_of e h2 (by intro z; cases z)⟩
theorem Pot.fresh {H : Hp} {p l a : Addr} {T : Nat} (h : Pot H p l T) (e : H a = none) : a ≠ p ∧ a ≠ l := by
  obtain ⟨ns, c, m, t, h1, h2, h3⟩ := h
  exact ⟨(ne_of_none h1 e).symm, (ne_of_none h2 e).symm⟩
theorem Keep.tups {p l : Addr} {H H' : Hp} {T : Nat} (k : Keep p l H H') (h : Pot H p l T) : Tups H H' := fun a xs e => by
  obtain ⟨n1, n2⟩ := h.notP e
  exact k a _ n1 n2 e
/-! ### what is drawn -/
def spBlend : Sp := fun vs H Q _ => ∃ (n : Int) (t : Int), vs = [.int n, .int t] ∧ 0 ≤ t ∧ t < 2 ^ 62 ∧ ∀ r, Q (.int r) H
def spDraw : Sp := fun vs H Q _ => ∃ (p l : Addr) (T : Nat) (many : Int), vs = [.ref p, .int many] ∧ Pot H p l T ∧ T < 2 ^ 40 ∧ CDivW 0 many ∧
  ∀ d H', 0 ≤ d → d < many → Pot H' p l (T + 1) → Keep p l H H' → Q (.int d) H'
def spGreat : Sp := fun vs H Q _ => ∃ (p l : Addr) (T : Nat), vs = [.ref p] ∧ Pot H p l T ∧ T < 2 ^ 39 ∧
  ∀ d H', 0 ≤ d → d < 2 ^ 122 → Pot H' p l (T + 5) → Keep p l H H' → Q (.int d) H'
/-! ### tuples at addresses -/
def TupsAt (H : Hp) (as : List Addr) (xss : List (List V)) : Prop := as.length = xss.length ∧ ∀ (i : Nat) (a : Addr), as[i]? = some a → ∃ xs, xss[i]? = some xs ∧ H a = some (.tup xs)
theorem TupsAt.nil {H : Hp} : TupsAt H [] [] := ⟨rfl, fun i a h => by simp at h⟩
theorem TupsAt.mono {H H' : Hp} {as : List Addr} {xss : List (List V)} (h : TupsAt H as xss) (t : Tups H H') : TupsAt H' as xss := ⟨h.1, fun i a e => by
  obtain ⟨xs, h1, h2⟩ := h.2 i a e
  exact ⟨xs, h1, t a xs h2⟩⟩
theorem TupsAt.cons {H : Hp} {as : List Addr} {xss : List (List V)} {a : Addr} {xs : List V} (h : TupsAt H as xss) (e : H a = some (.tup xs)) : TupsAt H (a :: as) (xs :: xss) := by
  refine ⟨by simp [h.1], fun i b hb => ?_⟩
  cases i with
  | zero =>
    have : a = b := Option.some.inj hb
    subst this
    exact ⟨xs, rfl, e⟩
  | succ j => exact h.2 j b hb
theorem TupsAt.snoc {H : Hp} {as : List Addr} {xss : List (List V)} {a : Addr} {xs : List V} (h : TupsAt H as xss) (e : H a = some (.tup xs)) : TupsAt H (as ++ [a]) (xss ++ [xs]) := by
  refine ⟨by simp [h.1], fun i b hb => ?_⟩
  by_cases hi : i < as.length
  · rw [List.getElem?_append_left hi] at hb
    obtain ⟨ys, h1, h2⟩ := h.2 i b hb
    exact ⟨ys, by rw [List.getElem?_append_left (by rw [← h.1]; exact hi)]; exact h1, h2⟩
  · rw [List.getElem?_append_right (by omega)] at hb
    have hz : i - as.length = 0 := by
      cases hk : i - as.length with
      | zero => rfl
      | succ n =>
        rw [hk] at hb
        simp at hb
    rw [hz] at hb
    have : a = b := Option.some.inj hb
    subst this
    refine ⟨xs, ?_, e⟩
    rw [List.getElem?_append_right (by rw [← h.1]; omega), ← h.1, hz]
    rfl
theorem TupsAt.get {H : Hp} {as : List Addr} {xss : List (List V)} (h : TupsAt H as xss) {i : Nat} {v : V} (e : (as.map V.ref)[i]? = some v) : ∃ a xs, v = .ref a ∧ as[i]? = some a ∧ xss[i]? = some xs ∧ H a = some (.tup xs) := by
  rw [List.getElem?_map] at e
  cases q : as[i]? with
  | none =>
    rw [q] at e
    cases e
  | some a =>
    rw [q] at e
    have e' : V.ref a = v := Option.some.inj e
    obtain ⟨xs, h1, h2⟩ := h.2 i a q
    exact ⟨a, xs, e'.symm, rfl, h1, h2⟩
/-! ### wisps -/
abbrev stepV (p : Int × Int) : List V := [.int p.1, .int p.2]
def WispAt (H : Hp) (a : Addr) (s : Int) (ps : List (Int × Int)) : Prop := ∃ (st : Addr) (as : List Addr), H a = some (.tup [.int s, .ref st]) ∧ H st = some (.tup (as.map V.ref)) ∧ TupsAt H as (ps.map stepV)
theorem WispAt.mono {H H' : Hp} {a : Addr} {s : Int} {ps : List (Int × Int)} (h : WispAt H a s ps) (t : Tups H H') : WispAt H' a s ps := by
  obtain ⟨st, as, h1, h2, h3⟩ := h
  exact ⟨st, as, t _ _ h1, t _ _ h2, h3.mono t⟩
theorem step_get {H : Hp} {as : List Addr} {ps : List (Int × Int)} (h : TupsAt H as (ps.map stepV)) {i : Nat} {v : V} (e : (as.map V.ref)[i]? = some v) : ∃ a t g, v = .ref a ∧ ps[i]? = some (t, g) ∧ H a = some (.tup [.int t, .int g]) := by
  obtain ⟨a, xs, h1, _, h2, h3⟩ := h.get e
  rw [List.getElem?_map] at h2
  cases q : ps[i]? with
  | none =>
    rw [q] at h2
    cases h2
  | some p =>
    rw [q] at h2
    have e' : stepV p = xs := Option.some.inj h2
    subst e'
    exact ⟨a, p.1, p.2, h1, rfl, h3⟩
def Good (ps : List (Int × Int)) : Prop := 1 ≤ ps.length ∧ ps.length ≤ 10 ∧ ∀ p ∈ ps, 1 ≤ p.1 ∧ p.1 < 2 ^ 200 ∧ 1 ≤ p.2 ∧ p.2 < 2 ^ 200
def Falls (ps : List (Int × Int)) : Prop := ps.Pairwise (fun a b => b.1 < a.1)
def Small (ps : List (Int × Int)) : Prop := ∀ p ∈ ps, p.1 ≤ 1000 ∧ p.2 ≤ 3
def spPot (K : PySem.W.Frag) : Sp := fun vs H Q _ => ∃ (a : Addr) (ns : List Int), vs = [.ref a] ∧ SqL K H a (ns.map V.int) ∧ ns.length ≤ 63 ∧
  ∀ H' p l, Same H H' → H p = none → H l = none → Pot H' p l 0 → Q (.ref p) H'
def spWisp : Sp := fun vs H Q _ => ∃ (p l : Addr) (T : Nat) (most : Int) (small : Bool), vs = [.ref p, .int most, .bl small] ∧ Pot H p l T ∧ T < 2 ^ 38 ∧ 1 ≤ most ∧ most ≤ 10 ∧
  ∀ H' a s ps, Pot H' p l (T + 150) → Keep p l H H' → WispAt H' a s ps → 0 ≤ s → s ≤ 1 → Good ps → (ps.length : Int) ≤ most → Falls ps → (small = true → Small ps) → H a = none → Q (.ref a) H'
def spWhole : Sp := fun vs H Q _ => ∃ i : Int, vs = [.int i] ∧ Q (.bl true) H
theorem Keep.free {p l a : Addr} {H H' : Hp} {T : Nat} (k : Keep p l H H') (hp : Pot H' p l T) (h : H' a = none) : H a = none := by
  obtain ⟨n1, n2⟩ := hp.fresh h
  cases q : H a with
  | none => rfl
  | some o =>
    rw [k a o n1 n2 q] at h
    cases h
/-! ### the mirrors -/
def longs (ps : List (Int × Int)) : Int := (ps.map (·.2)).sum
def weigh (ps : List (Int × Int)) : Int := (ps.map fun p => p.1 * p.2).sum
def thickAt : List (Int × Int) → Int → Int
  | [], _ => 0
  | (t, g) :: r, k => if k < g then t else thickAt r (k - g)
abbrev rowV (t : Int × Int × Int) : List V := [.int t.1, .int t.2.1, .int t.2.2]
def tableOf : Int → List (Int × Int) → List (Int × Int × Int)
  | _, [] => []
  | b, (t, g) :: r => (b, b + g, t) :: tableOf (b + g) r
def inRow (k : Int) (t : Int × Int × Int) : Bool := decide (t.1 ≤ k) && decide (k < t.2.1)
def strongOf (k : Int) (ts : List (Int × Int × Int)) : Int := ((ts.filter (inRow k)).map (·.2.2)).sum
theorem longs_nonneg : ∀ {ps : List (Int × Int)}, (∀ p ∈ ps, 1 ≤ p.2) → 0 ≤ longs ps
  | [], _ => by decide
  | p :: r, h => by
    have h1 := h p (by simp)
    have h2 := longs_nonneg (ps := r) fun x hx => h x (by simp [hx])
    unfold longs at *
    rw [List.map_cons, List.sum_cons]
    omega
theorem longs_cons {p : Int × Int} {r : List (Int × Int)} : longs (p :: r) = p.2 + longs r := by
  unfold longs
  rw [List.map_cons, List.sum_cons]
theorem weigh_cons {p : Int × Int} {r : List (Int × Int)} : weigh (p :: r) = p.1 * p.2 + weigh r := by
  unfold weigh
  rw [List.map_cons, List.sum_cons]
theorem table_len : ∀ (ps : List (Int × Int)) (b : Int), (tableOf b ps).length = ps.length
  | [], _ => rfl
  | (t, g) :: r, b => by
    show (tableOf (b + g) r).length + 1 = r.length + 1
    rw [table_len r]
theorem table_get : ∀ (ps : List (Int × Int)) (b : Int) (i : Nat) (t g : Int), ps[i]? = some (t, g) → (tableOf b ps)[i]? = some (b + longs (ps.take i), b + longs (ps.take (i + 1)), t)
  | [], _, _, _, _, h => by simp at h
  | (t', g') :: r, b, 0, t, g, h => by
    have e := Option.some.inj h
    obtain ⟨rfl, rfl⟩ := Prod.mk.inj e
    show some (b, b + g', t') = some (b + longs [], b + longs [(t', g')], t')
    unfold longs
    simp
  | (t', g') :: r, b, i + 1, t, g, h => by
    show (tableOf (b + g') r)[i]? = some (b + longs ((t', g') :: r.take i), b + longs ((t', g') :: r.take (i + 1)), t)
    rw [table_get r (b + g') i t g h, longs_cons, longs_cons]
    simp only [Int.add_assoc]
theorem strong_cons {k : Int} {t : Int × Int × Int} {ts : List (Int × Int × Int)} : strongOf k (t :: ts) = (if inRow k t = true then t.2.2 else 0) + strongOf k ts := by
  unfold strongOf
  rw [List.filter_cons]
  split
  · rw [List.map_cons, List.sum_cons]
  · rw [Int.zero_add]
theorem strong_table : ∀ (ps : List (Int × Int)) (b k : Int), (∀ p ∈ ps, 1 ≤ p.2) → strongOf k (tableOf b ps) = if k < b then 0 else thickAt ps (k - b)
  | [], b, k, _ => by
    show (0 : Int) = if k < b then 0 else 0
    split <;> rfl
  | (t, g) :: r, b, k, h => by
    have hg : 1 ≤ g := h (t, g) (by simp)
    have ih := strong_table r (b + g) k fun x hx => h x (by simp [hx])
    show strongOf k ((b, b + g, t) :: tableOf (b + g) r) = if k < b then 0 else if k - b < g then t else thickAt r (k - b - g)
    rw [strong_cons, ih]
    have e : k - b - g = k - (b + g) := by omega
    rw [e]
    by_cases h1 : k < b
    · rw [if_pos h1, if_pos (show k < b + g by omega), if_neg]
      · rfl
      · intro z
        have := (Bool.and_eq_true_iff.mp z).1
        have := of_decide_eq_true this
        simp only at this
        omega
    · by_cases h2 : k - b < g
      · rw [if_neg h1, if_pos h2, if_pos (show k < b + g by omega), if_pos]
        · show t + 0 = t
          omega
        · exact Bool.and_eq_true_iff.mpr ⟨decide_eq_true (show b ≤ k by omega), decide_eq_true (show k < b + g by omega)⟩
      · rw [if_neg h1, if_neg h2, if_neg (show ¬ k < b + g by omega), if_neg]
        · omega
        · intro z
          have := of_decide_eq_true (Bool.and_eq_true_iff.mp z).2
          simp only at this
          omega
def dueOf (ts : List (Int × Int × Int)) : Int := (ts.map fun t => (t.2.1 - t.1) * t.2.2).sum
theorem due_table : ∀ (ps : List (Int × Int)) (b : Int), dueOf (tableOf b ps) = weigh ps
  | [], _ => rfl
  | (t, g) :: r, b => by
    have ih := due_table r (b + g)
    show ((b, b + g, t) :: tableOf (b + g) r |>.map fun t => (t.2.1 - t.1) * t.2.2).sum = weigh ((t, g) :: r)
    rw [weigh_cons, List.map_cons, List.sum_cons, ← ih]
    show (b + g - b) * t + dueOf _ = t * g + dueOf _
    rw [show b + g - b = g by omega, Int.mul_comm]
def sumTo (n : Nat) (f : Int → Int) : Int := ((List.range n).map fun (i : Nat) => f (i : Int)).sum
theorem sumTo_succ (n : Nat) (f : Int → Int) : sumTo (n + 1) f = sumTo n f + f n := by
  unfold sumTo
  rw [List.range_succ, List.map_append, List.sum_append]
  simp
theorem sumTo_const (t : Int) : ∀ n : Nat, sumTo n (fun _ => t) = n * t
  | 0 => by simp [sumTo]
  | n + 1 => by
    rw [sumTo_succ, sumTo_const t n, Int.natCast_add, Int.add_mul]
    simp
theorem sumTo_add (f : Int → Int) (n : Nat) : ∀ m : Nat, sumTo (n + m) f = sumTo n f + sumTo m (fun k => f (n + k))
  | 0 => by simp [sumTo]
  | m + 1 => by
    rw [← Nat.add_assoc, sumTo_succ, sumTo_succ, sumTo_add f n m, Int.natCast_add, Int.add_assoc]
theorem sumTo_congr {f g : Int → Int} : ∀ n : Nat, (∀ i : Nat, i < n → f i = g i) → sumTo n f = sumTo n g
  | 0, _ => rfl
  | n + 1, h => by
    rw [sumTo_succ, sumTo_succ, sumTo_congr n (fun i hi => h i (by omega)), h n (by omega)]
theorem sumTo_thick : ∀ (ps : List (Int × Int)) (n : Nat), (∀ p ∈ ps, 1 ≤ p.2) → longs ps ≤ n → sumTo n (thickAt ps) = weigh ps
  | [], n, _, _ => by
    rw [show thickAt [] = fun _ => 0 from funext fun _ => rfl, sumTo_const]
    simp [weigh]
  | (t, g) :: r, n, h, hl => by
    have hg : 1 ≤ g := h (t, g) (by simp)
    rw [longs_cons] at hl
    have hl : g + longs r ≤ n := hl
    have h0 := longs_nonneg (ps := r) fun x hx => h x (by simp [hx])
    obtain ⟨G, rfl⟩ : ∃ G : Nat, g = G := ⟨g.toNat, by omega⟩
    obtain ⟨m, rfl⟩ : ∃ m : Nat, n = G + m := ⟨n - G, by omega⟩
    rw [sumTo_add, weigh_cons]
    have ih := sumTo_thick r m (fun x hx => h x (by simp [hx])) (by omega)
    have e1 : sumTo G (thickAt ((t, (G : Int)) :: r)) = G * t := by
      rw [← sumTo_const t G]
      refine sumTo_congr G fun i hi => ?_
      show (if (i : Int) < G then t else _) = t
      rw [if_pos (by omega)]
    have e2 : sumTo m (fun k => thickAt ((t, (G : Int)) :: r) (G + k)) = sumTo m (thickAt r) := by
      refine sumTo_congr m fun i _ => ?_
      show (if (G : Int) + i < G then t else thickAt r ((G : Int) + i - G)) = thickAt r i
      rw [if_neg (by omega), show (G : Int) + i - G = i by omega]
    rw [e1, e2, ih, Int.mul_comm]
theorem take_map_succ {α β : Type} {l : List α} {i : Nat} {x : α} (f : α → β) (h : l[i]? = some x) : (l.take (i + 1)).map f = (l.take i).map f ++ [f x] := by
  rw [List.take_add_one, h, List.map_append]
  rfl
theorem longs_take {ps : List (Int × Int)} {i : Nat} {t g : Int} (h : ps[i]? = some (t, g)) : longs (ps.take (i + 1)) = longs (ps.take i) + g := by
  unfold longs
  rw [take_map_succ _ h, List.sum_append]
  simp
theorem Same.wisp {H H' : Hp} {a : Addr} {s : Int} {ps : List (Int × Int)} (e : Same H H') (h : WispAt H a s ps) : WispAt H' a s ps := h.mono (Tups.same e)
theorem same_new {H H1 : Hp} {p : Addr} {o : HO} (k : Same H H1) (h : H1 p = none) : Same H (upd H1 p o) := fun b x e => by
  have e1 := k b x e
  rw [upd_ne (ne_of_none e1 h)]
  exact e1
theorem same_mine {H H1 : Hp} {p : Addr} {o : HO} (k : Same H H1) (h : H p = none) : Same H (upd H1 p o) := fun b x e => by
  rw [upd_ne (ne_of_none e h)]
  exact k b x e
theorem Same.free' {H H' : Hp} (e : Same H H') {l : Addr} (h : H' l = none) : H l = none := Same.free e h
theorem mul_ok {ps : List (Int × Int)} (h : Good ps) {i : Nat} {t g : Int} (e : ps[i]? = some (t, g)) : CMulW t g := by
  obtain ⟨_, _, h3⟩ := h
  have := h3 (t, g) (List.mem_of_getElem? e)
  refine wide_mul (a := 200) (b := 200) ?_ ?_ (by decide) (by decide) (by decide)
  · have h1 : t < 2 ^ 200 := this.2.1
    have h0 : 1 ≤ t := this.1
    have h2 : (t.natAbs : Int) = t := by omega
    have h3 : (t.natAbs : Int) < ((2 ^ 200 : Nat) : Int) := by rw [h2]; exact h1
    exact Int.ofNat_lt.mp h3
  · have h1 : g < 2 ^ 200 := this.2.2.2
    have h0 : 1 ≤ g := this.2.2.1
    have h2 : (g.natAbs : Int) = g := by omega
    have h3 : (g.natAbs : Int) < ((2 ^ 200 : Nat) : Int) := by rw [h2]; exact h1
    exact Int.ofNat_lt.mp h3
def spLen : Sp := fun vs H Q _ => ∃ (a : Addr) (s : Int) (ps : List (Int × Int)), vs = [.ref a] ∧ WispAt H a s ps ∧ Good ps ∧ ∀ H', Same H H' → Q (.int (longs ps)) H'
def spWeight : Sp := fun vs H Q _ => ∃ (a : Addr) (s : Int) (ps : List (Int × Int)), vs = [.ref a] ∧ WispAt H a s ps ∧ Good ps ∧ ∀ H', Same H H' → Q (.int (weigh ps)) H'
def spThick : Sp := fun vs H Q _ => ∃ (a : Addr) (s : Int) (ps : List (Int × Int)) (k : Int), vs = [.ref a, .int k] ∧ WispAt H a s ps ∧ Q (.int (thickAt ps k)) H
def TableAt (H : Hp) (o : Addr) (ts : List (Int × Int × Int)) : Prop := ∃ as, H o = some (.lst (as.map V.ref)) ∧ TupsAt H as (ts.map rowV)
def spTable : Sp := fun vs H Q _ => ∃ (a : Addr) (s : Int) (ps : List (Int × Int)), vs = [.ref a] ∧ WispAt H a s ps ∧ ps.length ≤ 10 ∧ ∀ H' o, Same H H' → H o = none → TableAt H' o (tableOf 0 ps) → Q (.ref o) H'
def spStrong : Sp := fun vs H Q _ => ∃ (a : Addr) (s : Int) (ps : List (Int × Int)) (k : Int), vs = [.ref a, .int k] ∧ WispAt H a s ps ∧ Good ps ∧ 0 ≤ k ∧ ∀ H', Same H H' → Q (.int (thickAt ps k)) H'
def spSpots : Sp := fun vs H Q _ => ∃ (p l : Addr) (T : Nat) (a : Addr) (s : Int) (ps : List (Int × Int)), vs = [.ref p, .ref a] ∧ Pot H p l T ∧ T < 2 ^ 38 ∧ WispAt H a s ps ∧ Good ps ∧
  ∀ (H' : Hp) (o : Addr) (ns : List Int), Pot H' p l (T + 10) → Keep p l H H' → H o = none → H' o = some (.lst (ns.map V.int)) → (∀ n ∈ ns, (0 : Int) ≤ n) → ns.length ≤ 100 → Q (.ref o) H'
theorem row_get {H : Hp} {as : List Addr} {ts : List (Int × Int × Int)} (h : TupsAt H as (ts.map rowV)) {i : Nat} {v : V} (e : (as.map V.ref)[i]? = some v) : ∃ a b c d, v = .ref a ∧ ts[i]? = some (b, c, d) ∧ H a = some (.tup [.int b, .int c, .int d]) := by
  obtain ⟨a, xs, h1, _, h2, h3⟩ := h.get e
  rw [List.getElem?_map] at h2
  cases q : ts[i]? with
  | none =>
    rw [q] at h2
    cases h2
  | some p =>
    rw [q] at h2
    have e' : rowV p = xs := Option.some.inj h2
    subst e'
    exact ⟨a, p.1, p.2.1, p.2.2, h1, rfl, h3⟩
theorem yesIte {σ : L2.St} {H : Hp} {A B : Hp → Prop} (h : A H) : tYes σ H (fun b H3 => if b = true then A H3 else B H3) := by
  show if true = true then A H else B H
  rw [if_pos rfl]
  exact h
def spRight : Sp := fun vs H Q _ => ∃ (p l : Addr) (T : Nat) (a : Addr) (s : Int) (ps : List (Int × Int)) (small : Bool), vs = [.ref p, .ref a, .bl small] ∧ Pot H p l T ∧ T < 2 ^ 37 ∧ WispAt H a s ps ∧ Good ps ∧ (small = true → Small ps) ∧
  ∀ (H' : Hp), Pot H' p l (T + 15) → Keep p l H H' → Q (.bl true) H'
theorem Pot.same {H H' : Hp} {p l : Addr} {T : Nat} (h : Pot H p l T) (e : Same H H') : Pot H' p l T := by
  obtain ⟨ns, c, m, t, h1, h2, h3⟩ := h
  exact ⟨ns, c, m, t, e _ _ h1, e _ _ h2, h3⟩
theorem Same.keep {p l : Addr} {H H' : Hp} (e : Same H H') : Keep p l H H' := fun c o _ _ h => e c o h
theorem WispAt.keep {p l : Addr} {H H' : Hp} {T : Nat} {a : Addr} {s : Int} {ps : List (Int × Int)} (h : WispAt H a s ps) (k : Keep p l H H') (hp : Pot H p l T) : WispAt H' a s ps := h.mono (k.tups hp)
theorem longs_small : ∀ {ps : List (Int × Int)}, Small ps → longs ps ≤ 3 * ps.length
  | [], _ => by decide
  | p :: r, h => by
    have h1 := h p (by simp)
    have h2 := longs_small (ps := r) fun x hx => h x (by simp [hx])
    rw [longs_cons, List.length_cons]
    omega
theorem table_last : ∀ (ps : List (Int × Int)) (b : Int), ps ≠ [] → ∃ b' t, (tableOf b ps).getLast? = some (b', b + longs ps, t)
  | [], _, h => absurd rfl h
  | [(t, g)], b, _ => ⟨b, t, by
    show some (b, b + g, t) = some (b, b + longs [(t, g)], t)
    rw [longs_cons]
    show some (b, b + g, t) = some (b, b + (g + 0), t)
    rw [Int.add_zero]⟩
  | (t, g) :: x :: r, b, _ => by
    obtain ⟨b', t', h⟩ := table_last (x :: r) (b + g) (by simp)
    refine ⟨b', t', ?_⟩
    have e : tableOf b ((t, g) :: x :: r) = (b, b + g, t) :: tableOf (b + g) (x :: r) := rfl
    have e2 : ∃ y ys, tableOf (b + g) (x :: r) = y :: ys := ⟨_, _, rfl⟩
    obtain ⟨y, ys, e2⟩ := e2
    rw [e, e2, List.getLast?_cons_cons, ← e2, h, longs_cons (p := (t, g)), Int.add_assoc]
theorem mulw_symm {i j : Int} (h : CMulW i j) : CMulW j i := by
  unfold CMulW at *
  omega
theorem iteNT {A B : Prop} (h : B) : if (!true) = true then A else B := by
  rw [if_neg (by decide)]
  exact h
def spLaw (K : PySem.W.Frag) : Sp := fun vs H Q _ => ∃ (a : Addr) (ns : List Int), vs = [.ref a] ∧ SqL K H a (ns.map V.int) ∧ ns.length ≤ 63 ∧ ∀ H', Q (.bl true) H'
/-! ### things made of tuples and whole numbers, looked at part by part -/
theorem lcZip {K : PySem.W.Frag} {a b : Addr} {xs ys : List V} {g : TG} {tt : TT} {te : TE} {us : List Nat} {σ : L2.St} {H1 : Hp} {D : Addr} {Qd : Hp → Prop} (hl : xs.length = ys.length) (Pv : Nat → Hp → Prop) (h0 : Pv 0 (upd H1 D (.lst []))) (hq : ∀ i H, Pv i H → SqT K H a xs ∧ SqT K H b ys)
    (hs : ∀ i x y T H, xs[i]? = some x → ys[i]? = some y → H T = none → Pv i H → g (.ref T) (wipe σ us) (upd H T (.tup [x, y])) fun σ2 H2 => wipe σ2 us = wipe σ us ∧ tt σ2 H2 fun c H3 =>
      if c = true then te σ2 H3 fun y H4 => ∃ acc, H4 D = some (.lst acc) ∧ acc.length < sizeLine ∧ Pv (i + 1) (upd H4 D (.lst (acc ++ [y]))) else Pv (i + 1) H3) (hd : ∀ H, Pv xs.length H → Qd H) :
    ∃ W : Nat → Nat → Hp → Prop, (∃ m, W 0 m (upd H1 D (.lst []))) ∧ ∀ i m H, W i m H →
      ((RZ.ItzT K a b).stop i H ∧ Qd H) ∨ ((RZ.ItzT K a b).go i H ∧ ∃ Nx : Hp → Prop, (∀ H', Nx H' → ∃ m', m' < m ∧ W (i + 1) m' H') ∧ ∀ x H', (RZ.ItzT K a b).yld i H x H' → g x (wipe σ us) H' fun σ2 H2 => wipe σ2 us = wipe σ us ∧ tt σ2 H2 fun c H3 =>
        if c = true then te σ2 H3 fun y H4 => ∃ acc, H4 D = some (.lst acc) ∧ acc.length < sizeLine ∧ Nx (upd H4 D (.lst (acc ++ [y]))) else Nx H3) := by
  refine ⟨fun i m H => i + m = xs.length ∧ Pv i H, ⟨xs.length, Nat.zero_add _, h0⟩, fun i m H ⟨em, p⟩ => ?_⟩
  obtain ⟨q1, q2⟩ := hq i H p
  by_cases hi : i < xs.length
  · have g1 : xs[i]? = some xs[i] := List.getElem?_eq_getElem hi
    have g2 : ys[i]? = some (ys[i]'(by omega)) := List.getElem?_eq_getElem (by omega)
    refine .inr ⟨⟨xs, ys, _, _, q1, q2, g1, g2⟩, Pv (i + 1), fun H' p' => ⟨m - 1, by omega, by omega, p'⟩, fun v H' hy => ?_⟩
    obtain ⟨T, x, y, rfl, nT, rfl, f1, f2⟩ := hy
    exact hs i x y T H (f1 _ q1) (f2 _ q2) nT p
  · have e : i = xs.length := by omega
    subst e
    exact .inl ⟨⟨xs, ys, q1, q2, .inl (Nat.le_refl _)⟩, hd H p⟩
theorem sqt_ty {K : PySem.W.Frag} {H : Hp} {a : Addr} {xs : List V} (h : SqT K H a xs) : TyX K H (.ref a) (.type "tuple") := by
  rcases h with (h | ⟨o, h⟩) | ⟨o, its, n, hk, hc, _⟩
  · exact .base (.tup h)
  · exact .fTuple h
  · exact .kTuple hk hc
theorem Same.sqt {K : PySem.W.Frag} {H H' : Hp} {a : Addr} {xs : List V} (e : Same H H') (h : SqT K H a xs) : SqT K H' a xs := by
  rcases h with (h | ⟨o, h⟩) | h
  · exact .inl (.inl (e _ _ h))
  · exact .inl (.inr ⟨o, e _ _ h⟩)
  · exact .inr h
inductive TI : PyData → Prop where
  | int (i : Int) : TI (.int i)
  | tup {xs : List PyData} (h : ∀ x ∈ xs, TI x) (hl : xs.length ≤ 5000) : TI (.tuple xs)
theorem depth_mem : ∀ {xs : List PyData} {x : PyData}, x ∈ xs → x.depth ≤ PyData.depthAll xs
  | y :: r, x, h => by
    show x.depth ≤ max y.depth (PyData.depthAll r)
    rcases List.mem_cons.mp h with rfl | h
    · exact Nat.le_max_left _ _
    · exact Nat.le_trans (depth_mem h) (Nat.le_max_right _ _)
mutual
theorem Dp.same {K : PySem.W.Frag} {H H' : Hp} (e : Same H H') : ∀ {v : V} (d : PyData), Dp K H v d → Dp K H' v d
  | _, .none, .non => .non
  | _, .bool _, .bl _ => .bl _
  | _, .int _, .int _ => .int _
  | _, .str _, .str _ => .str _
  | _, .list ds, .lst h a => .lst (e.seq h) (DpAll.same e ds a)
  | _, .tuple ds, .tup h a => .tup (Same.sqt e h) (DpAll.same e ds a)
theorem DpAll.same {K : PySem.W.Frag} {H H' : Hp} (e : Same H H') : ∀ {vs : List V} (ds : List PyData), DpAll K H vs ds → DpAll K H' vs ds
  | _, [], .nil => .nil
  | _, d :: ds, .cons h a => .cons (Dp.same e d h) (DpAll.same e ds a)
end
theorem DpAll.len {K : PySem.W.Frag} {H : Hp} : ∀ {vs : List V} {ds : List PyData}, DpAll K H vs ds → vs.length = ds.length
  | _, _, .nil => rfl
  | _, _, .cons _ a => congrArg (· + 1) (DpAll.len a)
theorem DpAll.at {K : PySem.W.Frag} {H : Hp} : ∀ {vs : List V} {ds : List PyData} {i : Nat} {v : V}, DpAll K H vs ds → vs[i]? = some v → ∃ d, ds[i]? = some d ∧ Dp K H v d
  | _, _, _, _, .nil, h => by simp at h
  | _, _, 0, v, .cons h a, e => ⟨_, rfl, by have e' := Option.some.inj e; rw [← e']; exact h⟩
  | _, _, i + 1, v, .cons h a, e => DpAll.at (i := i) a e
def spSame (K : PySem.W.Frag) (n : Nat) : Sp := fun vs H Q _ => ∃ (x y : V) (d : PyData), vs = [x, y] ∧ TI d ∧ d.depth < n ∧ Dp K H x d ∧ Dp K H y d ∧ ∀ H', Same H H' → Q (.bl true) H'
def wispD (s : Int) (ps : List (Int × Int)) : PyData := .tuple [.int s, .tuple (ps.map fun p => .tuple [.int p.1, .int p.2])]
theorem wisp_ti {s : Int} {ps : List (Int × Int)} (h : ps.length ≤ 5000) : TI (wispD s ps) := by
  refine .tup (fun x hx => ?_) (by show 2 ≤ 5000; decide)
  simp only [List.mem_cons, List.not_mem_nil, or_false] at hx
  rcases hx with rfl | rfl
  · exact .int _
  · refine .tup (fun x hx => ?_) (by rw [List.length_map]; exact h)
    obtain ⟨p, _, rfl⟩ := List.mem_map.mp hx
    refine .tup (fun x hx => ?_) (by show 2 ≤ 5000; decide)
    simp only [List.mem_cons, List.not_mem_nil, or_false] at hx
    rcases hx with rfl | rfl
    · exact .int _
    · exact .int _
theorem wisp_depth (s : Int) (ps : List (Int × Int)) : (wispD s ps).depth ≤ 3 := by
  have h : PyData.depthAll (ps.map fun p => PyData.tuple [.int p.1, .int p.2]) ≤ 1 := by
    induction ps with
    | nil => decide
    | cons p r ih => exact Nat.max_le.mpr ⟨by show max 0 (max 0 0) + 1 ≤ 1; decide, ih⟩
  show max 0 (max (PyData.depthAll (ps.map fun p => PyData.tuple [.int p.1, .int p.2]) + 1) 0) + 1 ≤ 3
  omega
theorem tups_dp {K : PySem.W.Frag} {H : Hp} : ∀ {as : List Addr} {ps : List (Int × Int)}, TupsAt H as (ps.map stepV) → DpAll K H (as.map V.ref) (ps.map fun p => .tuple [.int p.1, .int p.2])
  | [], [], _ => .nil
  | [], p :: r, h => absurd h.1 (by simp)
  | a :: r, [], h => absurd h.1 (by simp)
  | a :: as, p :: ps, h => by
    obtain ⟨xs, h1, h2⟩ := h.2 0 a rfl
    have e : stepV p = xs := Option.some.inj h1
    subst e
    exact .cons (.tup (SqT.of h2) (.cons (.int _) (.cons (.int _) .nil))) (tups_dp ⟨Nat.succ.inj (by simpa using h.1), fun i b hb => h.2 (i + 1) b hb⟩)
theorem WispAt.dp {K : PySem.W.Frag} {H : Hp} {a : Addr} {s : Int} {ps : List (Int × Int)} (h : WispAt H a s ps) : Dp K H (.ref a) (wispD s ps) := by
  obtain ⟨st, as, h1, h2, h3⟩ := h
  exact .tup (SqT.of h1) (.cons (.int s) (.cons (.tup (SqT.of h2) (tups_dp h3)) .nil))
/-! ### how long what repr tells is -/
/-- all numbers of a thing are below 2 ^ 400 -/
inductive Sh : PyData → Prop where
  | non : Sh .none
  | bl (b : Bool) : Sh (.bool b)
  | int {i : Int} (h : i.natAbs.log2 < 400) : Sh (.int i)
  | lst {xs : List PyData} (h : ∀ x ∈ xs, Sh x) : Sh (.list xs)
  | tup {xs : List PyData} (h : ∀ x ∈ xs, Sh x) : Sh (.tuple xs)
theorem sh_all {xs : List PyData} (h : ∀ x ∈ xs, x.showable = true ∧ x.hasDict = false ∧ x.leavesShort 401 = true) : PyData.showableAll xs = true ∧ PyData.hasDictAll xs = false ∧ PyData.leavesShortAll 401 xs = true := by
  induction xs with
  | nil => exact ⟨rfl, rfl, rfl⟩
  | cons x r ih =>
    obtain ⟨h1, h2, h3⟩ := h x (by simp)
    obtain ⟨g1, g2, g3⟩ := ih fun y hy => h y (by simp [hy])
    refine ⟨?_, ?_, ?_⟩
    · show (x.showable && PyData.showableAll r) = true
      rw [h1, g1]
      rfl
    · show (x.hasDict || PyData.hasDictAll r) = false
      rw [h2, g2]
      rfl
    · show (x.leavesShort 401 && PyData.leavesShortAll 401 r) = true
      rw [h3, g3]
      rfl
theorem Sh.ok {d : PyData} (h : Sh d) : d.showable = true ∧ d.hasDict = false ∧ d.leavesShort 401 = true := by
  induction h with
  | non => exact ⟨rfl, rfl, rfl⟩
  | bl b => exact ⟨rfl, rfl, rfl⟩
  | int h =>
    refine ⟨decide_eq_true (by omega), rfl, decide_eq_true ?_⟩
    have := int_text_length_le (by decide) h
    show (Str.ofString (toString _)).length ≤ 401
    rw [PySem.ofString_length]
    exact this
  | lst _ ih => exact sh_all ih
  | tup _ ih => exact sh_all ih
theorem Sh.fits {d : PyData} (h : Sh d) (hb : d.bulk ≤ 20000) : d.shown.length ≤ sizeLine := by
  have h1 := PyData.shown_le_bulk 401 (by decide) d h.ok.2.2
  have h2 : (401 + 2) * d.bulk ≤ (401 + 2) * 20000 := Nat.mul_le_mul_left _ hb
  rw [sizeLine_eq]
  omega
theorem log_lt {i : Int} (h0 : 0 ≤ i) (h : i < 2 ^ 250) : i.natAbs.log2 < 400 := by
  by_cases hz : i.natAbs = 0
  · rw [hz]
    decide
  · have h2 : (i.natAbs : Int) = i := by omega
    have h3 : (i.natAbs : Int) < ((2 ^ 250 : Nat) : Int) := by rw [h2]; exact h
    have h4 : i.natAbs < 2 ^ 250 := Int.ofNat_lt.mp h3
    have := (Nat.log2_lt hz).mpr h4
    omega
theorem sh_nat {i : Int} (h0 : 0 ≤ i) (h : i < 2 ^ 200) : Sh (.int i) := .int (log_lt h0 (Int.lt_trans h (by decide)))
theorem wisp_sh {s : Int} {ps : List (Int × Int)} (h0 : 0 ≤ s) (h1 : s ≤ 1) (g : Good ps) : Sh (wispD s ps) := by
  refine .tup fun x hx => ?_
  simp only [List.mem_cons, List.not_mem_nil, or_false] at hx
  rcases hx with rfl | rfl
  · exact sh_nat h0 (Int.lt_of_le_of_lt h1 (by decide))
  · refine .tup fun x hx => ?_
    obtain ⟨p, hp, rfl⟩ := List.mem_map.mp hx
    have hg := g.2.2 p hp
    refine .tup fun x hx => ?_
    simp only [List.mem_cons, List.not_mem_nil, or_false] at hx
    rcases hx with rfl | rfl
    · exact sh_nat (by omega) hg.2.1
    · exact sh_nat (by omega) hg.2.2.2
theorem wisp_bulk (s : Int) (ps : List (Int × Int)) : (wispD s ps).bulk ≤ 3 * ps.length + 2 := by
  have h : PyData.bulkAll (ps.map fun p => PyData.tuple [.int p.1, .int p.2]) = 3 * ps.length := by
    induction ps with
    | nil => rfl
    | cons p r ih =>
      show (0 + 1 + (0 + 1 + 0)) + 1 + PyData.bulkAll (r.map fun p => PyData.tuple [.int p.1, .int p.2]) = 3 * (r.length + 1)
      rw [ih]
      omega
  show 0 + 1 + (PyData.bulkAll (ps.map fun p => PyData.tuple [.int p.1, .int p.2]) + 1 + 0) ≤ 3 * ps.length + 2
  omega
theorem last_row {H : Hp} {as : List Addr} {ps : List (Int × Int)} (tu : TupsAt H as ((tableOf 0 ps).map rowV)) (gd : 1 ≤ ps.length) : ∃ z b t, atI (as.map V.ref) (-1) = some (.ref z) ∧ H z = some (.tup [.int b, .int (longs ps), .int t]) := by
  have hne : ps ≠ [] := fun e => by
    rw [e] at gd
    exact absurd gd (by decide)
  obtain ⟨b', t', hl⟩ := table_last ps 0 hne
  rw [Int.zero_add, List.getLast?_eq_getElem?] at hl
  have hlen : as.length = (tableOf 0 ps).length := by
    have := tu.1
    rw [List.length_map] at this
    exact this
  have hpos : 0 < (tableOf 0 ps).length := by
    rw [table_len]
    omega
  have hi : (tableOf 0 ps).length - 1 < as.length := by omega
  have e1 : (as.map V.ref)[(tableOf 0 ps).length - 1]? = some (.ref as[(tableOf 0 ps).length - 1]) := by
    rw [List.getElem?_map, List.getElem?_eq_getElem hi]
    rfl
  obtain ⟨z, b, c, d, e2, e3, e4⟩ := row_get tu e1
  rw [hl] at e3
  have e5 := Option.some.inj e3
  obtain ⟨e6, e7⟩ := Prod.mk.inj e5
  obtain ⟨e8, e9⟩ := Prod.mk.inj e7
  rw [← e6, ← e8, ← e9] at e4
  refine ⟨z, b', t', ?_, e4⟩
  have h0 : as.map V.ref ≠ [] := fun e => by
    have := congrArg List.length e
    rw [List.length_map, hlen] at this
    have this : (tableOf 0 ps).length = 0 := this
    omega
  have h2 : (as.map V.ref).getLast h0 = .ref z := by
    have := List.getLast?_eq_getLast h0
    rw [List.getLast?_eq_getElem?, List.length_map, hlen, e1] at this
    exact (Option.some.inj this).symm.trans e2
  have h1 := List.dropLast_concat_getLast h0
  rw [h2] at h1
  rw [← h1]
  exact atI_last _ _
theorem longs_lt {ps : List (Int × Int)} (g : Good ps) : longs ps < 2 ^ 204 := by
  have h : ∀ qs : List (Int × Int), (∀ p ∈ qs, p.2 < 2 ^ 200) → longs qs ≤ qs.length * 2 ^ 200 := by
    intro qs
    induction qs with
    | nil => intro _; decide
    | cons p r ih =>
      intro hq
      have h1 := hq p (by simp)
      have h2 := ih fun x hx => hq x (by simp [hx])
      rw [longs_cons, List.length_cons, Int.natCast_add, Int.add_mul]
      have h3 : ((1 : Nat) : Int) * 2 ^ 200 = 2 ^ 200 := by decide
      rw [h3]
      omega
  have h1 := h ps fun p hp => (g.2.2 p hp).2.2.2
  have h2 : (ps.length : Int) * 2 ^ 200 ≤ 10 * 2 ^ 200 := Int.mul_le_mul_of_nonneg_right (by have := g.2.1; omega) (by decide)
  have h3 : (10 : Int) * 2 ^ 200 < 2 ^ 204 := by decide
  omega
theorem fit_of {b : Int} (h0 : 1 ≤ b) (h : b < 2 ^ 210) : CDivW 0 b := by
  refine wide_div (b := 210) (by omega) ?_ (by decide) (by decide)
  have h2 : (b.natAbs : Int) = b := by omega
  have h3 : (b.natAbs : Int) < ((2 ^ 210 : Nat) : Int) := by rw [h2]; exact h
  exact Int.ofNat_lt.mp h3
def spRightG : Sp := fun vs H Q _ => ∃ (p l : Addr) (T : Nat) (a : Addr) (s : Int) (ps : List (Int × Int)), vs = [.ref p, .ref a] ∧ Pot H p l T ∧ T < 2 ^ 36 ∧ WispAt H a s ps ∧ Good ps ∧ 0 ≤ s ∧ s ≤ 1 ∧
  ∀ (H' : Hp), Pot H' p l (T + 2000) → Keep p l H H' → Q (.bl true) H'
theorem int_get {ns : List Int} {i : Nat} {x : V} (h : (ns.map V.int)[i]? = some x) : ∃ n, x = .int n ∧ ns[i]? = some n := by
  rw [List.getElem?_map] at h
  cases q : ns[i]? with
  | none =>
    rw [q] at h
    cases h
  | some n =>
    rw [q] at h
    exact ⟨n, (Option.some.inj h).symm, rfl⟩
theorem filter_take_succ {α : Type} {l : List α} {i : Nat} {x : α} (p : α → Bool) (h : l[i]? = some x) : (l.take (i + 1)).filter p = (l.take i).filter p ++ (if p x = true then [x] else []) := by
  rw [List.take_add_one, h, List.filter_append]
  show _ ++ List.filter p [x] = _
  rw [List.filter_cons]
  rfl
/-! ### max(numbers, default=d) -/
section
variable {prog : Program} {w : World} {A : Around} {R : Result → Shared → Prop} {I : Addr} {fp wr : List Addr} {n : Nat} {P : Nat → Value → Prop} {St : Nat → Heap → Prop}
theorem maxLoopD (W : Walks prog w A.in1 I fp wr n P St) (bt : Nat → Nat → Bool) (cm : CmpOf prog w A.in1 .Gt P bt) (S : Addr) (nS : S ∉ fp) (dv : Value) : ∀ (k j : Nat) (t : Shared) (vb : Value) (c : Nat), n - (j + 1) = k → j + 1 ≤ n → St (j + 1) t.heap → P (argBest bt j) vb →
    t.heap.get? S = some { cls := .type "list", dict := none, data := .seq #[vb, vb] c, slots := #[] } → (∀ v h' tk, P (argBest bt (n - 1)) v → (∀ b o, b ∉ wr → b ≠ S → t.heap.get? b = some o → h'.get? b = some o) → R (.ok (.ret v)) { t with heap := h', toks := tk }) →
    codeAny (model prog w) A (.builtin "max.loop" ⟨[.ref I, .none, .ref S], [("default", dv)]⟩) R t := by
  have nW : S ∉ wr := fun h => nS (W.sub _ h)
  have nm : (toString "max" ++ toString ".loop" : String) = "max.loop" := by decide
  intro k
  induction k with
  | zero =>
    intro j t vb c ek hj st pb eS r
    have en : j + 1 = n := by omega
    refine codeAny_builtin F.entry_max_loop ?_
    rw [Around.under_plainId F.plain_max_loop _]
    refine wpAny_bind (wpAny_seqItems eS rfl (wpAny_bind (wpAny_tryCatch (W.done t _ _ (en ▸ st) fun h' tk ke => ?_))))
    refine wpAny_bind (wpAny_updateSeq (ke S _ nW eS) rfl (wpAny_bind (wpAny_letGo (wpAny_pure ?_))))
    exact r vb _ tk (by rw [← en]; exact pb) fun b o nb nb2 e => (Heap.get?_update_other _ _ (Ne.symm nb2)).trans (ke b o nb e)
  | succ k ih =>
    intro j t vb c ek hj st pb eS r
    have hj2 : j + 1 < n := by omega
    refine codeAny_builtin F.entry_max_loop ?_
    rw [Around.under_plainId F.plain_max_loop _]
    refine wpAny_bind (wpAny_seqItems eS rfl (wpAny_bind (wpAny_tryCatch (W.item (j + 1) t _ _ hj2 st fun v h' tk pv st' ke => ?_))))
    have eS' := ke S _ nW eS
    show wpAny _ A.in1 (tryCatch (holding [v, v] (richCompare .Gt v vb >>= _)) _ >>= _) _ _ _
    refine wpAny_bind (wpAny_tryCatch (wpAny_holding (wpAny_bind (cm (j + 1) (argBest bt j) v vb _ _ _ pv pb (wpAny_bind (wpAny_holding (wpAny_truthy_bool (wpAny_bind (wpAny_letGo (wpAny_pure ?_))))))))))
    cases hb : bt (j + 1) (argBest bt j) with
    | true =>
      simp only [if_true]
      refine wpAny_bind (wpAny_updateSeq eS' rfl (wpAny_bind (wpAny_letGo ?_)))
      rw [nm]
      refine wpAny_pure ⟨plainId_quiet F.plain_max_loop _, ih (j + 1) _ v _ (by omega) hj2 (W.frame _ _ _ st' fun b fb o e => ?_) (by simp only [argBest, hb, if_true]; exact pv) (Heap.get?_update_self _ eS' rfl) fun v2 h2 tk2 p2 ke2 => ?_⟩
      · exact (Heap.get?_update_other _ _ (fun z : S = b => nS (by rw [z]; exact fb))).trans e
      · exact r v2 h2 tk2 p2 fun b o nb nb2 e => ke2 b o nb nb2 ((Heap.get?_update_other _ _ (Ne.symm nb2)).trans (ke b o nb e))
    | false =>
      simp only [Bool.false_eq_true, if_false]
      refine wpAny_bind (wpAny_letGo ?_)
      rw [nm]
      refine wpAny_pure ⟨plainId_quiet F.plain_max_loop _, ih (j + 1) _ vb c (by omega) hj2 st' (by simp only [argBest, hb, Bool.false_eq_true, if_false]; exact pb) eS' fun v2 h2 tk2 p2 ke2 => ?_⟩
      exact r v2 h2 tk2 p2 fun b o nb nb2 e => ke2 b o nb nb2 (ke b o nb e)
theorem maxFirstD (W : Walks prog w A.in1 I fp wr n P St) (bt : Nat → Nat → Bool) (cm : CmpOf prog w A.in1 .Gt P bt) (S : Addr) (nS : S ∉ fp) (dv : Value) {t : Shared} {c : Nat} (st : St 0 t.heap) (eS : t.heap.get? S = some { cls := .type "list", dict := none, data := .seq #[] c, slots := #[] })
    (r : ∀ v h' tk, (n = 0 ∧ v = dv ∨ 0 < n ∧ P (argBest bt (n - 1)) v) → (∀ b o, b ∉ wr → b ≠ S → t.heap.get? b = some o → h'.get? b = some o) → R (.ok (.ret v)) { t with heap := h', toks := tk }) :
    codeAny (model prog w) A (.builtin "max.loop" ⟨[.ref I, .none, .ref S], [("default", dv)]⟩) R t := by
  have nW : S ∉ wr := fun h => nS (W.sub _ h)
  have nm : (toString "max" ++ toString ".loop" : String) = "max.loop" := by decide
  refine codeAny_builtin F.entry_max_loop ?_
  rw [Around.under_plainId F.plain_max_loop _]
  by_cases hn : 0 < n
  · refine wpAny_bind (wpAny_seqItems eS rfl (wpAny_bind (wpAny_tryCatch (W.item 0 t _ _ hn st fun v h' tk pv st' ke => ?_))))
    have eS' := ke S _ nW eS
    show wpAny _ A.in1 (updateSeq S (fun _ => #[v, v]) >>= _) _ _ _
    refine wpAny_bind (wpAny_updateSeq eS' rfl ?_)
    rw [nm]
    refine wpAny_pure ⟨plainId_quiet F.plain_max_loop _, maxLoopD W bt cm S nS dv _ 0 _ v _ rfl hn (W.frame _ _ _ st' fun b fb o e => ?_) pv (Heap.get?_update_self _ eS' rfl) fun v2 h2 tk2 p2 ke2 => ?_⟩
    · exact (Heap.get?_update_other _ _ (fun z : S = b => nS (by rw [z]; exact fb))).trans e
    · exact r v2 h2 tk2 (.inr ⟨hn, p2⟩) fun b o nb nb2 e => ke2 b o nb nb2 ((Heap.get?_update_other _ _ (Ne.symm nb2)).trans (ke b o nb e))
  · have n0 : n = 0 := by omega
    refine wpAny_bind (wpAny_seqItems eS rfl (wpAny_bind (wpAny_tryCatch (W.done t _ _ (n0 ▸ st) fun h' tk ke => ?_))))
    refine wpAny_bind (wpAny_rule (wpAny_pure ?_))
    exact r dv h' tk (.inl ⟨n0, rfl⟩) fun b o nb _ e => ke b o nb e
end
theorem args_maxD (a d : Value) : argsOk "max" ⟨[a], [("default", d)]⟩ := by unfold argsOk; kernel_rfl
theorem maxD_walk {prog : Program} {w : World} {A : Around} {E : Value → Shared → Prop} {t : Shared} {x dv : Value} {Q : Value → Shared → Prop} (h : wpAny (model prog w) A.in1 (pyIter x) (fun it t2 => ∃ I fp wr n P St bt, it = .ref I ∧ Walks prog w A.in1 I fp wr n P St ∧ St 0 t2.heap ∧ (∀ b ∈ fp, b < t2.heap.objs.size) ∧ CmpOf prog w A.in1 .Gt P bt ∧
      ∀ v h' tk, (n = 0 ∧ v = dv ∨ 0 < n ∧ P (argBest bt (n - 1)) v) → (∀ b o, b ∉ wr → t2.heap.get? b = some o → h'.get? b = some o) → Q v { t2 with heap := h', toks := tk }) E t) : wpAny (model prog w) A (call (.builtin "max") [x] [("default", dv)]) Q E t := by
  have nm : (toString "max" ++ toString ".loop" : String) = "max.loop" := by decide
  refine PyProof.Rows.kmk_tree PySem.F.kind_max PySem.F.plain_max PySem.F.entry_max (args_maxD _ _) ?_
  refine wpAny_bind (wpAny_of_eq (show Builtin.Builtins.bindParams "max" ["key", "default"] 0 ⟨[], [(Str.ofString "default", dv)]⟩ = pure [none, some dv] from rfl) ?_)
  refine wpAny_bind (wpAny_pure (wpAny_bind (wpAny_mono h (fun it t2 h2 => ?_) fun _ _ e => e)))
  obtain ⟨I, fp, wr, n, P, St, bt, rfl, W, st, hfp, cm, r⟩ := h2
  refine wpAny_bind (wpAny_newObj_type ?_)
  have nS : t2.heap.objs.size ∉ fp := fun hm => Nat.lt_irrefl _ (hfp _ hm)
  rw [nm]
  refine wpAny_pure ⟨plainId_quiet F.plain_max_loop _, maxFirstD W bt cm t2.heap.objs.size nS dv (W.frame _ _ _ st fun b _ o e => Heap.get?_push_of_some _ e) (Heap.get?_push_size _ rfl) fun v h' tk hv hk => ?_⟩
  exact r v h' tk hv fun b o nb e => hk b o nb (Nat.ne_of_lt (Heap.lt_size e)) (Heap.get?_push_of_some _ e)
theorem maxD_raw {prog : Program} {w : World} {A : Around} {E : Value → Shared → Prop} {t : Shared} {l : Addr} {its : List Value} {ns : List Int} {dv : Value} {Q : Value → Shared → Prop} (hh : A.handled = none) (hl : t.heap.IsList l its.toArray) (hi : IntsAre its ns)
    (r : ∀ v h' tk, (∀ b o, t.heap.get? b = some o → h'.get? b = some o) → (ns = [] ∧ v = dv ∨ ∃ M u, v = .int M u ∧ M ∈ ns ∧ ∀ y, y ∈ ns → y ≤ M) → Q v { t with heap := h', toks := tk }) : wpAny (model prog w) A (call (.builtin "max") [.ref l] [("default", dv)]) Q E t := by
  obtain ⟨xs, e⟩ := hi.allInts.items
  have hn : numsOf (intItems xs).toList = ns := by rw [← e]; exact hi.numsOf
  rw [nums_intItems] at hn
  subst hn
  rw [e] at hl
  refine maxD_walk (iter_intList hl fun t2 e2 st hfp hlI => ?_)
  subst e2
  refine ⟨_, _, _, _, _, _, _, rfl, Walks.list (A := A.in1) hh _ l hlI (intItems xs), st, hfp, CmpOf.ints_gt (numAt xs) (fun _ _ => intItems_at), fun v h' tk hv hk => ?_⟩
  refine r v h' tk (old_kept hk) ?_
  rcases hv with ⟨h0, rfl⟩ | ⟨h0, hv⟩
  · refine .inl ⟨?_, rfl⟩
    have : xs.size = 0 := by simpa [intItems] using h0
    have : xs.toList = [] := List.eq_nil_of_length_eq_zero (by simpa using this)
    rw [this]
    rfl
  · have hs : 0 < xs.size := by simpa [intItems] using h0
    have hv : (intItems xs)[argBest (fun i j => decide (numAt xs i > numAt xs j)) (xs.size - 1)]? = some v := by simpa [intItems] using hv
    obtain ⟨u, rfl⟩ := intItems_at hv
    obtain ⟨h1, h2⟩ := argBest_gt (numAt xs) (xs.size - 1)
    refine .inr ⟨_, u, rfl, ?_, fun y hy => ?_⟩
    · rw [numAt_eq]
      exact PySem.getD_mem (by rw [List.length_map, Array.length_toList]; omega)
    · obtain ⟨j, hj, rfl⟩ := mem_getD hy
      rw [List.length_map, Array.length_toList] at hj
      rw [← numAt_eq]
      exact h2 j (by omega)
def rMaxD (K : PySem.W.Frag) : List V → List V → Hp → VK → Prop := fun xs zs H Q => ∃ (a : Addr) (ns : List Int) (d : Int), xs = [.ref a] ∧ zs = [.int d] ∧ SqL K H a (ns.map V.int) ∧ ∀ m, (ns = [] ∧ m = d ∨ m ∈ ns ∧ ∀ y, y ∈ ns → y ≤ m) → Q (.int m) H
theorem call_maxD {X : Cx} (hc : X.calm = true) : CallRK X (.builtin "max") ["default"] (rMaxD X.K) := by
  intro pins s σ H xs zs us ws Q I va vz h
  obtain ⟨a, ns, d, rfl, rfl, hs, q⟩ := h
  obtain ⟨its, rv, hl, _⟩ := I.list hs
  rw [Vals.ref1 va]
  cases vz with
  | cons r1 r2 =>
  cases r2
  obtain ⟨u, rfl⟩ := r1
  refine maxD_raw (I.ok.hd hc) hl.isList rv.ints fun v h' tk hk hv => ?_
  rcases hv with ⟨h0, rfl⟩ | ⟨M, u2, rfl, h1, h2⟩
  · exact ⟨.int d, H, I.kept hk, ⟨_, rfl⟩, q d (.inl ⟨h0, rfl⟩)⟩
  · exact ⟨.int M, H, I.kept hk, ⟨_, rfl⟩, q M (.inr ⟨h1, h2⟩)⟩
/-! ### laid wisps and strands -/
structure Lw where
  so : Int
  ps : List (Int × Int)
  pl : Int
  le : Option Int
def letV : Option Int → V
  | none => .non
  | some n => .int n
def LaidAt (H : Hp) (a : Addr) (L : Lw) : Prop := ∃ wa, H a = some (.tup [.ref wa, .int L.pl, letV L.le]) ∧ WispAt H wa L.so L.ps
theorem LaidAt.mono {H H' : Hp} {a : Addr} {L : Lw} (h : LaidAt H a L) (t : Tups H H') : LaidAt H' a L := by
  obtain ⟨wa, h1, h2⟩ := h
  exact ⟨wa, t _ _ h1, h2.mono t⟩
def LaidsAt (H : Hp) (as : List Addr) (Ls : List Lw) : Prop := as.length = Ls.length ∧ ∀ (i : Nat) (a : Addr), as[i]? = some a → ∃ L, Ls[i]? = some L ∧ LaidAt H a L
theorem LaidsAt.mono {H H' : Hp} {as : List Addr} {Ls : List Lw} (h : LaidsAt H as Ls) (t : Tups H H') : LaidsAt H' as Ls := ⟨h.1, fun i a e => by
  obtain ⟨L, h1, h2⟩ := h.2 i a e
  exact ⟨L, h1, h2.mono t⟩⟩
theorem LaidsAt.nil {H : Hp} : LaidsAt H [] [] := ⟨rfl, fun i a h => by simp at h⟩
theorem LaidsAt.snoc {H : Hp} {as : List Addr} {Ls : List Lw} {a : Addr} {L : Lw} (h : LaidsAt H as Ls) (e : LaidAt H a L) : LaidsAt H (as ++ [a]) (Ls ++ [L]) := by
  refine ⟨by simp [h.1], fun i b hb => ?_⟩
  by_cases hi : i < as.length
  · rw [List.getElem?_append_left hi] at hb
    obtain ⟨M, h1, h2⟩ := h.2 i b hb
    exact ⟨M, by rw [List.getElem?_append_left (by rw [← h.1]; exact hi)]; exact h1, h2⟩
  · rw [List.getElem?_append_right (by omega)] at hb
    have hz : i - as.length = 0 := by
      cases hk : i - as.length with
      | zero => rfl
      | succ n =>
        rw [hk] at hb
        simp at hb
    rw [hz] at hb
    have : a = b := Option.some.inj hb
    subst this
    refine ⟨L, ?_, e⟩
    rw [List.getElem?_append_right (by rw [← h.1]; omega), ← h.1, hz]
    rfl
theorem LaidsAt.take {H : Hp} {as : List Addr} {Ls : List Lw} (h : LaidsAt H as Ls) (n : Nat) : LaidsAt H (as.take n) (Ls.take n) := by
  refine ⟨by simp [h.1], fun i a e => ?_⟩
  rw [List.getElem?_take] at e
  by_cases hi : i < n
  · rw [if_pos hi] at e
    obtain ⟨L, h1, h2⟩ := h.2 i a e
    exact ⟨L, by rw [List.getElem?_take, if_pos hi]; exact h1, h2⟩
  · rw [if_neg hi] at e
    cases e
theorem LaidsAt.set {H : Hp} {as : List Addr} {Ls : List Lw} {a : Addr} {L : Lw} (h : LaidsAt H as Ls) (e : LaidAt H a L) (n : Nat) : LaidsAt H (as.set n a) (Ls.set n L) := by
  refine ⟨by simp [h.1], fun i b hb => ?_⟩
  have hi : i < as.length := by
    have := (List.getElem?_eq_some_iff.mp hb).1
    rw [List.length_set] at this
    exact this
  by_cases hn : n = i
  · subst hn
    rw [List.getElem?_set_self hi] at hb
    have : a = b := Option.some.inj hb
    subst this
    exact ⟨L, List.getElem?_set_self (by rw [← h.1]; exact hi), e⟩
  · rw [List.getElem?_set_ne hn] at hb
    obtain ⟨M, h1, h2⟩ := h.2 i b hb
    exact ⟨M, by rw [List.getElem?_set_ne hn]; exact h1, h2⟩
def StrandAt (H : Hp) (a : Addr) (Ls : List Lw) : Prop := ∃ as, H a = some (.tup (as.map V.ref)) ∧ LaidsAt H as Ls
theorem StrandAt.mono {H H' : Hp} {a : Addr} {Ls : List Lw} (h : StrandAt H a Ls) (t : Tups H H') : StrandAt H' a Ls := by
  obtain ⟨as, h1, h2⟩ := h
  exact ⟨as, t _ _ h1, h2.mono t⟩
theorem StrandAt.keep {p l : Addr} {H H' : Hp} {T : Nat} {a : Addr} {Ls : List Lw} (h : StrandAt H a Ls) (k : Keep p l H H') (hp : Pot H p l T) : StrandAt H' a Ls := h.mono (k.tups hp)
theorem laid_get {H : Hp} {as : List Addr} {Ls : List Lw} (h : LaidsAt H as Ls) {i : Nat} {v : V} (e : (as.map V.ref)[i]? = some v) : ∃ a L, v = .ref a ∧ as[i]? = some a ∧ Ls[i]? = some L ∧ LaidAt H a L := by
  rw [List.getElem?_map] at e
  cases q : as[i]? with
  | none =>
    rw [q] at e
    cases e
  | some a =>
    rw [q] at e
    obtain ⟨L, h1, h2⟩ := h.2 i a q
    exact ⟨a, L, (Option.some.inj e).symm, rfl, h1, h2⟩
def GoodL (L : Lw) : Prop := Good L.ps ∧ 0 ≤ L.so ∧ L.so ≤ 1 ∧ 0 ≤ L.pl ∧ L.pl < 2 ^ 130 ∧ ∀ n, L.le = some n → L.pl < n ∧ n < 2 ^ 206
/-- where a laid wisp is over -/
def clip (le : Option Int) (e : Int) : Int := match le with
  | none => e
  | some n => if n < e then n else e
def lastOf (L : Lw) : Int := clip L.le (L.pl + longs L.ps)
def partsOf (le : Option Int) : List (Int × Int) → Int → List (Int × Int × Int)
  | [], _ => []
  | (t, g) :: r, st => (if st < clip le (st + g) then [(st, clip le (st + g), t)] else []) ++ partsOf le r (clip le (st + g))
def lawParts (le : Option Int) : List (Int × Int) → Int → List (Int × Int × Int)
  | [], _ => []
  | (t, g) :: r, st => (if st < clip le (st + g) then [(st, clip le (st + g), t)] else []) ++ lawParts le r (st + g)
theorem clip_le {le : Option Int} {e : Int} : clip le e ≤ e := by
  cases le with
  | none => exact Int.le_refl _
  | some n =>
    show (if n < e then n else e) ≤ e
    split <;> omega
theorem clip_mono {le : Option Int} {e f : Int} (h : e ≤ f) : clip le e ≤ clip le f := by
  cases le with
  | none => exact h
  | some n =>
    show (if n < e then n else e) ≤ (if n < f then n else f)
    split <;> split <;> omega
theorem clip_clip {le : Option Int} {e g : Int} (hg : 0 ≤ g) : clip le (clip le e + g) = clip le (e + g) := by
  cases le with
  | none => rfl
  | some n =>
    show (if n < (if n < e then n else e) + g then n else (if n < e then n else e) + g) = if n < e + g then n else e + g
    (repeat' split) <;> omega
theorem clip_idem {le : Option Int} {e : Int} : clip le (clip le e) = clip le e := by
  cases le with
  | none => rfl
  | some n =>
    show (if n < (if n < e then n else e) then n else (if n < e then n else e)) = if n < e then n else e
    (repeat' split) <;> omega
/-- all parts end at or ahead of where the wisp is over -/
theorem parts_le {le : Option Int} : ∀ (ps : List (Int × Int)) (st : Int), (∀ p ∈ ps, 1 ≤ p.2) → ∀ x ∈ partsOf le ps st, x.2.1 ≤ clip le (st + longs ps)
  | [], _, _, x, h => by cases h
  | (t, g) :: r, st, hg, x, h => by
    have hg1 : 1 ≤ g := hg (t, g) (by simp)
    have hr : ∀ p ∈ r, 1 ≤ p.2 := fun x hx => hg x (by simp [hx])
    have h0 := longs_nonneg hr
    have h : x ∈ (if st < clip le (st + g) then [(st, clip le (st + g), t)] else []) ++ partsOf le r (clip le (st + g)) := h
    rw [longs_cons]
    show x.2.1 ≤ clip le (st + (g + longs r))
    rcases List.mem_append.mp h with h | h
    · by_cases hc : st < clip le (st + g)
      · rw [if_pos hc] at h
        simp only [List.mem_cons, List.not_mem_nil, or_false] at h
        subst h
        exact clip_mono (by omega)
      · rw [if_neg hc] at h
        cases h
    · have ih := parts_le r (clip le (st + g)) hr x h
      rw [clip_clip h0] at ih
      rw [← Int.add_assoc]
      exact ih
/-- one of them ends there -/
theorem parts_has {le : Option Int} : ∀ (ps : List (Int × Int)) (st : Int), (∀ p ∈ ps, 1 ≤ p.2) → st < clip le (st + longs ps) → ∃ x ∈ partsOf le ps st, x.2.1 = clip le (st + longs ps)
  | [], st, _, h => by
    have e : longs [] = 0 := rfl
    rw [e, Int.add_zero] at h
    have := clip_le (le := le) (e := st)
    omega
  | (t, g) :: r, st, hg, h => by
    have hg1 : 1 ≤ g := hg (t, g) (by simp)
    have hr : ∀ p ∈ r, 1 ≤ p.2 := fun x hx => hg x (by simp [hx])
    have h0 := longs_nonneg hr
    rw [longs_cons] at h ⊢
    have e1 : st + ((t, g).2 + longs r) = st + g + longs r := by
      show st + (g + longs r) = _
      omega
    rw [e1] at h ⊢
    have e2 : clip le (clip le (st + g) + longs r) = clip le (st + g + longs r) := clip_clip h0
    by_cases hc : clip le (st + g) < clip le (st + g + longs r)
    · obtain ⟨x, h1, h2⟩ := parts_has r (clip le (st + g)) hr (by rw [e2]; exact hc)
      refine ⟨x, List.mem_append_right _ h1, ?_⟩
      rw [h2, e2]
    · have e3 : clip le (st + g) = clip le (st + g + longs r) := by
        have := clip_mono (le := le) (e := st + g) (f := st + g + longs r) (by omega)
        omega
      refine ⟨(st, clip le (st + g), t), List.mem_append_left _ ?_, e3⟩
      rw [if_pos (by omega)]
      simp
/-- the law's own parts: the last one ends there -/
theorem law_nil {le : Option Int} : ∀ (ps : List (Int × Int)) (st : Int), (∀ p ∈ ps, 1 ≤ p.2) → clip le st < st ∨ (∃ n, le = some n ∧ n ≤ st) → lawParts le ps st = []
  | [], _, _, _ => rfl
  | (t, g) :: r, st, hg, h => by
    have hg1 : 1 ≤ g := hg (t, g) (by simp)
    have hr : ∀ p ∈ r, 1 ≤ p.2 := fun x hx => hg x (by simp [hx])
    have hn : ∃ n, le = some n ∧ n ≤ st := by
      rcases h with h | h
      · cases le with
        | none => exact absurd h (Int.lt_irrefl _)
        | some n =>
          refine ⟨n, rfl, ?_⟩
          have h : (if n < st then n else st) < st := h
          split at h <;> omega
      · exact h
    obtain ⟨n, rfl, hn⟩ := hn
    show (if st < clip (some n) (st + g) then _ else []) ++ lawParts (some n) r (st + g) = []
    rw [law_nil r (st + g) hr (.inr ⟨n, rfl, by omega⟩), if_neg]
    · rfl
    · show ¬ st < (if n < st + g then n else st + g)
      split <;> omega
theorem law_last {le : Option Int} : ∀ (ps : List (Int × Int)) (st : Int), ps ≠ [] → (∀ p ∈ ps, 1 ≤ p.2) → (∀ n, le = some n → st < n) → ∃ ys b t, lawParts le ps st = ys ++ [(b, clip le (st + longs ps), t)]
  | [], _, h, _, _ => absurd rfl h
  | (t, g) :: r, st, _, hg, hn => by
    have hg1 : 1 ≤ g := hg (t, g) (by simp)
    have hr : ∀ p ∈ r, 1 ≤ p.2 := fun x hx => hg x (by simp [hx])
    have h0 := longs_nonneg hr
    have hc : st < clip le (st + g) := by
      cases le with
      | none => show st < st + g; omega
      | some n =>
        have := hn n rfl
        show st < (if n < st + g then n else st + g)
        split <;> omega
    have e : lawParts le ((t, g) :: r) st = (st, clip le (st + g), t) :: lawParts le r (st + g) := by
      show (if st < clip le (st + g) then _ else []) ++ lawParts le r (st + g) = _
      rw [if_pos hc]
      rfl
    rw [e, longs_cons]
    have e1 : st + ((t, g).2 + longs r) = st + g + longs r := by
      show st + (g + longs r) = _
      omega
    rw [e1]
    by_cases hz : r = [] ∨ ∃ n, le = some n ∧ n ≤ st + g
    · have e2 : lawParts le r (st + g) = [] := by
        rcases hz with rfl | hz
        · rfl
        · exact law_nil r (st + g) hr (.inr hz)
      refine ⟨[], st, t, ?_⟩
      rw [e2]
      have e3 : clip le (st + g) = clip le (st + g + longs r) := by
        rcases hz with rfl | ⟨n, rfl, hz⟩
        · show clip le (st + g) = clip le (st + g + 0)
          rw [Int.add_zero]
        · show (if n < st + g then n else st + g) = if n < st + g + longs r then n else st + g + longs r
          split <;> split <;> omega
      rw [e3]
      rfl
    · have hr0 : r ≠ [] := fun z => hz (.inl z)
      have hn2 : ∀ n, le = some n → st + g < n := fun n e => by
        by_cases h : st + g < n
        · exact h
        · exact absurd (.inr ⟨n, e, by omega⟩) hz
      obtain ⟨ys, b, t', h⟩ := law_last r (st + g) hr0 hr hn2
      exact ⟨_ :: ys, b, t', by rw [h]; rfl⟩
theorem law_len {le : Option Int} : ∀ (ps : List (Int × Int)) (st : Int), (lawParts le ps st).length ≤ ps.length
  | [], _ => Nat.le_refl _
  | (t, g) :: r, st => by
    show ((if st < clip le (st + g) then [(st, clip le (st + g), t)] else []) ++ lawParts le r (st + g)).length ≤ r.length + 1
    rw [List.length_append]
    have := law_len (le := le) r (st + g)
    split
    · show 1 + _ ≤ _
      omega
    · show 0 + _ ≤ _
      omega
theorem part_len {le : Option Int} : ∀ (ps : List (Int × Int)) (st : Int), (partsOf le ps st).length ≤ ps.length
  | [], _ => Nat.le_refl _
  | (t, g) :: r, st => by
    show ((if st < clip le (st + g) then [(st, clip le (st + g), t)] else []) ++ partsOf le r (clip le (st + g))).length ≤ r.length + 1
    rw [List.length_append]
    have := part_len (le := le) r (clip le (st + g))
    split
    · show 1 + _ ≤ _
      omega
    · show 0 + _ ≤ _
      omega
/-- how thick a laid wisp is at a place -/
def thickL (L : Lw) (p : Int) : Int := if p < L.pl then 0 else match L.le with
  | none => thickAt L.ps (p - L.pl)
  | some n => if n ≤ p then 0 else thickAt L.ps (p - L.pl)
theorem thick_pos : ∀ (ps : List (Int × Int)) (k : Int), 0 ≤ k → (∀ p ∈ ps, 1 ≤ p.1 ∧ 1 ≤ p.2) → (0 < thickAt ps k ↔ k < longs ps)
  | [], k, h, _ => by
    have e : longs [] = 0 := rfl
    show (0 : Int) < 0 ↔ k < longs []
    omega
  | (t, g) :: r, k, h, hg => by
    have hg1 := hg (t, g) (by simp)
    have ht : 1 ≤ t := hg1.1
    have hgg : 1 ≤ g := hg1.2
    have hr : ∀ p ∈ r, 1 ≤ p.1 ∧ 1 ≤ p.2 := fun x hx => hg x (by simp [hx])
    have h0 := longs_nonneg fun x hx => (hr x hx).2
    rw [longs_cons]
    show 0 < (if k < g then t else thickAt r (k - g)) ↔ k < g + longs r
    by_cases hk : k < g
    · rw [if_pos hk]
      constructor <;> intro _ <;> omega
    · rw [if_neg hk, thick_pos r (k - g) (by omega) hr]
      omega
theorem thick_runs {L : Lw} (g : GoodL L) (p : Int) : 0 < thickL L p ↔ L.pl ≤ p ∧ p < lastOf L := by
  have hp : ∀ x ∈ L.ps, 1 ≤ x.1 ∧ 1 ≤ x.2 := fun x hx => ⟨(g.1.2.2 x hx).1, (g.1.2.2 x hx).2.2.1⟩
  unfold thickL lastOf clip
  by_cases h : p < L.pl
  · rw [if_pos h]
    omega
  · rw [if_neg h]
    have tp := thick_pos L.ps (p - L.pl) (by omega) hp
    cases q : L.le with
    | none =>
      show 0 < thickAt L.ps (p - L.pl) ↔ L.pl ≤ p ∧ p < L.pl + longs L.ps
      rw [tp]
      omega
    | some n =>
      show 0 < (if n ≤ p then 0 else thickAt L.ps (p - L.pl)) ↔ L.pl ≤ p ∧ p < (if n < L.pl + longs L.ps then n else L.pl + longs L.ps)
      by_cases h2 : n ≤ p
      · rw [if_pos h2]
        split <;> omega
      · rw [if_neg h2, tp]
        split <;> omega
theorem last_gt {L : Lw} (g : GoodL L) : L.pl < lastOf L := by
  have hp : ∀ x ∈ L.ps, 1 ≤ x.2 := fun x hx => (g.1.2.2 x hx).2.2.1
  have hl : 1 ≤ longs L.ps := by
    cases q : L.ps with
    | nil =>
      have := g.1.1
      rw [q] at this
      exact absurd this (by decide)
    | cons p r =>
      rw [q] at hp
      have h1 := hp p (by simp)
      have h2 := longs_nonneg (ps := r) fun x hx => hp x (by simp [hx])
      rw [longs_cons]
      omega
  unfold lastOf clip
  cases q : L.le with
  | none => show L.pl < L.pl + longs L.ps; omega
  | some n =>
    have := (g.2.2.2.2.2 n q).1
    show L.pl < (if n < L.pl + longs L.ps then n else L.pl + longs L.ps)
    split <;> omega
def spThickOf : Sp := fun vs H Q _ => ∃ (a : Addr) (L : Lw) (p : Int), vs = [.ref a, .int p] ∧ LaidAt H a L ∧ Q (.int (thickL L p)) H
def spPartsOf : Sp := fun vs H Q _ => ∃ (a : Addr) (L : Lw), vs = [.ref a] ∧ LaidAt H a L ∧ L.ps.length ≤ 10 ∧ ∀ H' o, Same H H' → H o = none → TableAt H' o (partsOf L.le L.ps L.pl) → Q (.ref o) H'
def spThicks : Sp := fun vs H Q _ => ∃ (a : Addr) (Ls : List Lw) (p : Int), vs = [.ref a, .int p] ∧ StrandAt H a Ls ∧ Ls.length ≤ 60 ∧ ∀ H' o, Same H H' → H o = none → H' o = some (.lst ((Ls.map fun L => thickL L p).map V.int)) → Q (.ref o) H'
def numsFrom : Nat → List Int → List Int
  | _, [] => []
  | k, x :: r => (if 0 < x then [(k : Int)] else []) ++ numsFrom (k + 1) r
theorem nums_snoc : ∀ (xs : List Int) (k : Nat) (x : Int), numsFrom k (xs ++ [x]) = numsFrom k xs ++ (if 0 < x then [((k + xs.length : Nat) : Int)] else [])
  | [], k, x => by
    show (if 0 < x then [(k : Int)] else []) ++ [] = [] ++ _
    rw [List.append_nil]
    rfl
  | y :: r, k, x => by
    show (if 0 < y then [(k : Int)] else []) ++ numsFrom (k + 1) (r ++ [x]) = (if 0 < y then [(k : Int)] else []) ++ numsFrom (k + 1) r ++ _
    rw [nums_snoc r (k + 1) x, List.append_assoc, show k + 1 + r.length = k + (y :: r).length by rw [List.length_cons]; omega]
theorem nums_nil : ∀ (xs : List Int) (k : Nat), (∀ x ∈ xs, ¬ 0 < x) → numsFrom k xs = []
  | [], _, _ => rfl
  | y :: r, k, h => by
    show (if 0 < y then [(k : Int)] else []) ++ numsFrom (k + 1) r = []
    rw [if_neg (h y (by simp)), nums_nil r (k + 1) fun x hx => h x (by simp [hx])]
    rfl
theorem nums_ne : ∀ (xs : List Int) (k : Nat) (x : Int), x ∈ xs → 0 < x → numsFrom k xs ≠ []
  | y :: r, k, x, h, hx => by
    show (if 0 < y then [(k : Int)] else []) ++ numsFrom (k + 1) r ≠ []
    rcases List.mem_cons.mp h with rfl | h
    · rw [if_pos hx]
      exact fun z => by cases z
    · intro z
      exact nums_ne r (k + 1) x h hx (List.append_eq_nil_iff.mp z).2
theorem nums_len : ∀ (xs : List Int) (k : Nat), (numsFrom k xs).length ≤ xs.length
  | [], _ => Nat.le_refl _
  | y :: r, k => by
    show ((if 0 < y then [(k : Int)] else []) ++ numsFrom (k + 1) r).length ≤ r.length + 1
    rw [List.length_append]
    have := nums_len r (k + 1)
    split
    · show 1 + _ ≤ _
      omega
    · show 0 + _ ≤ _
      omega
def spNumbers : Sp := fun vs H Q _ => ∃ (a : Addr) (ns : List Int), vs = [.ref a] ∧ H a = some (.lst (ns.map V.int)) ∧ ns.length ≤ 60 ∧ ∀ H' o, Same H H' → H o = none → H' o = some (.tup ((numsFrom 0 ns).map V.int)) → Q (.ref o) H'
def spRunning : Sp := fun vs H Q _ => ∃ (a : Addr) (Ls : List Lw) (p : Int), vs = [.ref a, .int p] ∧ StrandAt H a Ls ∧ Ls.length ≤ 60 ∧ ∀ H' o, Same H H' → H o = none → H' o = some (.tup ((numsFrom 0 (Ls.map fun L => thickL L p)).map V.int)) → Q (.ref o) H'
def IsEnd (Ls : List Lw) (m : Int) : Prop := (Ls = [] → m = 0) ∧ (Ls ≠ [] → ∃ L ∈ Ls, m = lastOf L) ∧ ∀ L ∈ Ls, lastOf L ≤ m
def spEnd : Sp := fun vs H Q _ => ∃ (a : Addr) (Ls : List Lw), vs = [.ref a] ∧ StrandAt H a Ls ∧ Ls.length ≤ 60 ∧ (∀ L ∈ Ls, GoodL L) ∧ ∀ H' m, Same H H' → IsEnd Ls m → Q (.int m) H'
theorem letV_none : (!decide (letV none = V.non)) = false := by decide
theorem letV_some (n : Int) : (!decide (letV (some n) = V.non)) = true := by
  rw [decide_eq_false (fun z : letV (some n) = V.non => by cases z)]
  rfl
theorem letV_some' (n : Int) : decide (letV (some n) = V.non) = false := decide_eq_false (fun z : letV (some n) = V.non => by cases z)
theorem iteEqT {b : Bool} {A B : Prop} (e : b = true) (h : A) : if b = true then A else B := by
  rw [if_pos e]
  exact h
theorem iteEqF {b : Bool} {A B : Prop} (e : b = false) (h : B) : if b = true then A else B := by
  rw [e, if_neg Bool.false_ne_true]
  exact h
def endsOf (L : Lw) : List Int := (partsOf L.le L.ps L.pl).map fun t => t.2.1
theorem ends_ok {Ls : List Lw} (g : ∀ L ∈ Ls, GoodL L) {m : Int} (h : (Ls.map endsOf).flatten = [] ∧ m = 0 ∨ m ∈ (Ls.map endsOf).flatten ∧ ∀ y, y ∈ (Ls.map endsOf).flatten → y ≤ m) : IsEnd Ls m := by
  have has : ∀ L ∈ Ls, lastOf L ∈ (Ls.map endsOf).flatten := fun L hL => by
    have gL := g L hL
    have hp : ∀ x ∈ L.ps, 1 ≤ x.2 := fun x hx => (gL.1.2.2 x hx).2.2.1
    obtain ⟨x, h1, h2⟩ := parts_has (le := L.le) L.ps L.pl hp (last_gt gL)
    refine List.mem_flatten.mpr ⟨endsOf L, List.mem_map.mpr ⟨L, hL, rfl⟩, List.mem_map.mpr ⟨x, h1, h2⟩⟩
  have at_ : ∀ y ∈ (Ls.map endsOf).flatten, ∃ L ∈ Ls, y ≤ lastOf L := fun y hy => by
    obtain ⟨l, h1, h2⟩ := List.mem_flatten.mp hy
    obtain ⟨L, hL, rfl⟩ := List.mem_map.mp h1
    obtain ⟨x, h3, rfl⟩ := List.mem_map.mp h2
    have gL := g L hL
    exact ⟨L, hL, parts_le L.ps L.pl (fun x hx => (gL.1.2.2 x hx).2.2.1) x h3⟩
  rcases h with ⟨h0, rfl⟩ | ⟨h1, h2⟩
  · have hn : Ls = [] := by
      cases Ls with
      | nil => rfl
      | cons L r =>
        have := has L (by simp)
        rw [h0] at this
        cases this
    exact ⟨fun _ => rfl, fun z => absurd hn z, fun L hL => by rw [hn] at hL; cases hL⟩
  · have hn : Ls ≠ [] := fun z => by
      rw [z] at h1
      cases h1
    obtain ⟨L, hL, hle⟩ := at_ m h1
    have := h2 _ (has L hL)
    exact ⟨fun z => absurd z hn, fun _ => ⟨L, hL, by omega⟩, fun L' hL' => h2 _ (has L' hL')⟩
theorem LaidAt.same {H H' : Hp} {a : Addr} {L : Lw} (e : Same H H') (h : LaidAt H a L) : LaidAt H' a L := h.mono (Tups.same e)
def spPick : Sp := fun vs H Q _ => ∃ (p l : Addr) (T : Nat) (a : Addr) (xs : List V), vs = [.ref p, .ref a] ∧ Pot H p l T ∧ T < 2 ^ 39 ∧ H a = some (.lst xs) ∧ a ≠ p ∧ a ≠ l ∧ 1 ≤ xs.length ∧ xs.length ≤ 2000 ∧
  ∀ H' (j : Nat) x, xs[j]? = some x → Pot H' p l (T + 1) → Keep p l H H' → Q x H'
def LPartsAt (H : Hp) (bs : List Addr) (Ls : List Lw) : Prop := bs.length = Ls.length ∧ ∀ (i : Nat) (b : Addr), bs[i]? = some b → ∃ L, Ls[i]? = some L ∧ TableAt H b (lawParts L.le L.ps L.pl)
theorem TableAt.same {H H' : Hp} {o : Addr} {ts : List (Int × Int × Int)} (e : Same H H') (h : TableAt H o ts) : TableAt H' o ts := by
  obtain ⟨as, h1, h2⟩ := h
  exact ⟨as, e _ _ h1, h2.mono (Tups.same e)⟩
theorem LPartsAt.same {H H' : Hp} {bs : List Addr} {Ls : List Lw} (e : Same H H') (h : LPartsAt H bs Ls) : LPartsAt H' bs Ls := ⟨h.1, fun i b hb => by
  obtain ⟨L, h1, h2⟩ := h.2 i b hb
  exact ⟨L, h1, TableAt.same e h2⟩⟩
theorem LPartsAt.nil {H : Hp} : LPartsAt H [] [] := ⟨rfl, fun i a h => by simp at h⟩
theorem LPartsAt.snoc {H : Hp} {as : List Addr} {Ls : List Lw} {a : Addr} {L : Lw} (h : LPartsAt H as Ls) (e : TableAt H a (lawParts L.le L.ps L.pl)) : LPartsAt H (as ++ [a]) (Ls ++ [L]) := by
  refine ⟨by simp [h.1], fun i b hb => ?_⟩
  by_cases hi : i < as.length
  · rw [List.getElem?_append_left hi] at hb
    obtain ⟨M, h1, h2⟩ := h.2 i b hb
    exact ⟨M, by rw [List.getElem?_append_left (by rw [← h.1]; exact hi)]; exact h1, h2⟩
  · rw [List.getElem?_append_right (by omega)] at hb
    have hz : i - as.length = 0 := by
      cases hk : i - as.length with
      | zero => rfl
      | succ n =>
        rw [hk] at hb
        simp at hb
    rw [hz] at hb
    have : a = b := Option.some.inj hb
    subst this
    refine ⟨L, ?_, e⟩
    rw [List.getElem?_append_right (by rw [← h.1]; omega), ← h.1, hz]
    rfl
def spLawParts : Sp := fun vs H Q _ => ∃ (a : Addr) (Ls : List Lw), vs = [.ref a] ∧ StrandAt H a Ls ∧ Ls.length ≤ 60 ∧ (∀ L ∈ Ls, GoodL L) ∧ ∀ (H' : Hp) (o : Addr) (bs : List Addr), Same H H' → H o = none → H' o = some (.lst (bs.map V.ref)) → LPartsAt H' bs Ls → Q (.ref o) H'
/-- the last part of the law's own -/
theorem lp_last {H : Hp} {b : Addr} {L : Lw} (g : GoodL L) (h : TableAt H b (lawParts L.le L.ps L.pl)) : ∃ (as : List Addr) (z : Addr) (t b' : Int), H b = some (.lst (as.map V.ref)) ∧ atI (as.map V.ref) (-1) = some (.ref z) ∧ H z = some (.tup [.int b', .int (lastOf L), .int t]) := by
  obtain ⟨as, h1, h2⟩ := h
  have hp : ∀ x ∈ L.ps, 1 ≤ x.2 := fun x hx => (g.1.2.2 x hx).2.2.1
  have hne : L.ps ≠ [] := fun e => by
    have := g.1.1
    rw [e] at this
    exact absurd this (by decide)
  obtain ⟨ys, b', t, e⟩ := law_last (le := L.le) L.ps L.pl hne hp fun n hn => (g.2.2.2.2.2 n hn).1
  rw [e] at h2
  have hl : as.length = ys.length + 1 := by
    have := h2.1
    simpa using this
  have hi : ys.length < as.length := by omega
  have e1 : (as.map V.ref)[ys.length]? = some (.ref as[ys.length]) := by
    rw [List.getElem?_map, List.getElem?_eq_getElem hi]
    rfl
  obtain ⟨z, b2, c2, d2, e2, e3, e4⟩ := row_get h2 e1
  rw [List.getElem?_append_right (Nat.le_refl _), Nat.sub_self] at e3
  have e5 := Option.some.inj e3
  obtain ⟨e6, e7⟩ := Prod.mk.inj e5
  obtain ⟨e8, e9⟩ := Prod.mk.inj e7
  refine ⟨as, z, t, b', h1, ?_, ?_⟩
  · have h0 : as.map V.ref ≠ [] := fun q => by
      have := congrArg List.length q
      rw [List.length_map, hl] at this
      exact absurd this (by simp)
    have h3 : (as.map V.ref).getLast h0 = .ref z := by
      have := List.getLast?_eq_getLast h0
      rw [List.getLast?_eq_getElem?, List.length_map, hl, Nat.add_sub_cancel, e1] at this
      exact (Option.some.inj this).symm.trans e2
    have h4 := List.dropLast_concat_getLast h0
    rw [h3] at h4
    rw [← h4]
    exact atI_last _ _
  · rw [e4, ← e6, ← e8, ← e9]
    rfl
theorem LPartsAt.other {H : Hp} {bs : List Addr} {Ls : List Lw} {o : Addr} {xs : List V} {u : HO} (h : LPartsAt H bs Ls) (hne : ∀ b ∈ bs, b ≠ o) (eo : H o = some (.lst xs)) : LPartsAt (upd H o u) bs Ls := ⟨h.1, fun i b hb => by
  obtain ⟨L, h1, as, h2, h3⟩ := h.2 i b hb
  exact ⟨L, h1, as, by rw [upd_ne (hne b (List.mem_of_getElem? hb))]; exact h2, h3.mono (Tups.ls eo)⟩⟩
def Sf (p l S : Addr) (as : List Addr) (Ls : List Lw) (H H' : Hp) (T : Nat) : Prop := H' S = some (.lst (as.map V.ref)) ∧ LaidsAt H' as Ls ∧ Pot H' p l T ∧ Keep p l H H'
theorem Sf.keep {p l S : Addr} {as : List Addr} {Ls : List Lw} {H H' H2 : Hp} {T U : Nat} (h : Sf p l S as Ls H H' T) (n1 : S ≠ p) (n2 : S ≠ l) (k : Keep p l H' H2) (hp : Pot H2 p l U) : Sf p l S as Ls H H2 U := ⟨k _ _ n1 n2 h.1, h.2.1.mono (k.tups h.2.2.1), hp, h.2.2.2.trans k⟩
theorem Sf.new {p l S a : Addr} {as : List Addr} {Ls : List Lw} {H H' : Hp} {T : Nat} {o : HO} (h : Sf p l S as Ls H H' T) (n : H' a = none) : Sf p l S as Ls H (upd H' a o) T := ⟨by rw [upd_ne (ne_of_none h.1 n)]; exact h.1, h.2.1.mono (Tups.new n), h.2.2.1.new n, h.2.2.2.new n⟩
theorem Sf.up {p l S : Addr} {as : List Addr} {Ls : List Lw} {H H' : Hp} {T U : Nat} (h : Sf p l S as Ls H H' T) (e : T ≤ U) : Sf p l S as Ls H H' U := ⟨h.1, h.2.1, h.2.2.1.mono e, h.2.2.2⟩
theorem cut_take (xs : List V) (n : Nat) : cutV xs none (some (n : Int)) = xs.take n := by
  unfold cutV
  rw [HT.sIx_none, HT.sIx_nat]
  show (xs.drop 0).take (min n xs.length - 0) = xs.take n
  rw [List.drop_zero, Nat.sub_zero]
  by_cases h : n ≤ xs.length
  · rw [Nat.min_eq_left h]
  · rw [Nat.min_eq_right (by omega), List.take_length, List.take_of_length_le (by omega)]
def spStrand : Sp := fun vs H Q _ => ∃ (p l : Addr) (T : Nat) (most : Int) (small : Bool), vs = [.ref p, .int most, .bl small] ∧ Pot H p l T ∧ T < 2 ^ 37 ∧ (most = 8 ∨ most = 60) ∧
  ∀ H' a Ls, Pot H' p l (T + 20000) → Keep p l H H' → StrandAt H' a Ls → Ls.length ≤ 60 → (∀ L ∈ Ls, GoodL L) → Q (.ref a) H'
theorem first_of {ns : List Int} {M : Int} (h : M ∈ ns) : ∃ j : Nat, ns[j]? = some M ∧ ∀ m z, m < j → ns[m]? = some z → z ≠ M := by
  induction ns with
  | nil => cases h
  | cons y r ih =>
    by_cases e : y = M
    · exact ⟨0, by rw [e]; rfl, fun m z hm _ => absurd hm (Nat.not_lt_zero _)⟩
    · have hr : M ∈ r := by
        rcases List.mem_cons.mp h with h | h
        · exact absurd h.symm e
        · exact h
      obtain ⟨j, h1, h2⟩ := ih hr
      refine ⟨j + 1, h1, fun m z hm hz => ?_⟩
      cases m with
      | zero =>
        have : y = z := Option.some.inj hz
        rw [← this]
        exact e
      | succ m => exact h2 m z (by omega) hz
theorem cut_drop (xs : List V) (n : Nat) (h : n ≤ xs.length) : cutV xs (some (n : Int)) none = xs.drop n := by
  unfold cutV
  rw [HT.sIx_none, HT.sIx_nat, Nat.min_eq_left h]
  exact List.take_of_length_le (by rw [List.length_drop]; exact Nat.le_refl _)
theorem LaidsAt.parts {H : Hp} {as : List Addr} {Ls : List Lw} {n : Nat} {b : Addr} {L : Lw} (h : LaidsAt H as Ls) (hn : n < as.length) (e : LaidAt H b L) : LaidsAt H (as.take n ++ [b] ++ as.drop (n + 1)) (Ls.set n L) := by
  have e1 : as.take n ++ [b] ++ as.drop (n + 1) = as.set n b := by
    rw [List.set_eq_take_append_cons_drop, if_pos hn, List.append_assoc]
    rfl
  rw [e1]
  exact h.set e n
def lasts (Ls : List Lw) : List Int := Ls.map lastOf
def spLetLast : Sp := fun vs H Q _ => ∃ (p l : Addr) (T : Nat) (a : Addr) (Ls : List Lw), vs = [.ref p, .ref a] ∧ Pot H p l T ∧ T < 2 ^ 38 ∧ StrandAt H a Ls ∧ Ls ≠ [] ∧ Ls.length ≤ 60 ∧ (∀ L ∈ Ls, GoodL L) ∧
  ∀ (H' : Hp) (b : Addr) (Ms : List Lw), Pot H' p l (T + 1) → Keep p l H H' → StrandAt H' b Ms → Ms.length = Ls.length → (∀ L ∈ Ms, GoodL L) → Q (.ref b) H'
theorem last_lt {L : Lw} (g : GoodL L) : lastOf L < 2 ^ 205 := by
  have h1 := longs_lt g.1
  have h2 := g.2.2.2.2.1
  have h3 : (2 : Int) ^ 204 + 2 ^ 130 < 2 ^ 205 := by decide
  have h4 := clip_le (le := L.le) (e := L.pl + longs L.ps)
  unfold lastOf
  omega
theorem slA {K : PySem.W.Frag} {H : Hp} {a : Addr} {xs : List V} {lo hi : Option Int} {Q : VK} (h : H a = some (.tup xs)) (q : ∀ H' p, Same H H' → H' p = some (.tup (cutV xs lo hi)) → Q (.ref p) H') : rSlA K (.ref a) lo hi H Q := by
  refine ⟨a, xs, rfl, SqT.of h, fun e => ?_, fun _ p np => q _ p (same_new (Same.refl H) np) upd_same⟩
  refine q H a (Same.refl H) ?_
  rw [h]
  unfold cutV
  rw [e.1, e.2, List.drop_zero, Nat.sub_zero, List.take_length]
theorem catA {K : PySem.W.Frag} {H : Hp} {a b : Addr} {xs ys : List V} {Q : VK} (ha : H a = some (.tup xs)) (hb : H b = some (.tup ys)) (hz : xs.length + ys.length ≤ sizeLine) (q : ∀ H' p, Same H H' → H' p = some (.tup (xs ++ ys)) → Q (.ref p) H') : rCatA K (.ref a) (.ref b) H Q := by
  refine ⟨a, b, xs, ys, rfl, rfl, SqT.of ha, SqT.of hb, hz, fun e => ?_, fun _ e => ?_, fun _ _ p np => q _ p (same_new (Same.refl H) np) upd_same⟩
  · refine q H b (Same.refl H) ?_
    rw [hb, e]
    rfl
  · refine q H a (Same.refl H) ?_
    rw [ha, e, List.append_nil]
theorem can_all {xs : List PyData} (h : ∀ x ∈ xs, x.canLay0 = true) : PyData.canLayAll0 xs = true := by
  induction xs with
  | nil => rfl
  | cons x r ih =>
    show (x.canLay0 && PyData.canLayAll0 r) = true
    rw [h x (by simp), ih fun y hy => h y (by simp [hy])]
    rfl
theorem Sh.can {d : PyData} (h : Sh d) : d.canLay0 = true := by
  induction h with
  | non => rfl
  | bl b => rfl
  | int h => rfl
  | lst _ ih => exact can_all ih
  | tup _ ih => exact can_all ih
theorem depth_all {xs : List PyData} {n : Nat} (h : ∀ x ∈ xs, x.depth ≤ n) : PyData.depthAll xs ≤ n := by
  induction xs with
  | nil => exact Nat.zero_le _
  | cons x r ih => exact Nat.max_le.mpr ⟨h x (by simp), ih fun y hy => h y (by simp [hy])⟩
def letD : Option Int → PyData
  | none => .none
  | some n => .int n
def laidD (L : Lw) : PyData := .tuple [wispD L.so L.ps, .int L.pl, letD L.le]
def strandD (Ls : List Lw) : PyData := .tuple (Ls.map laidD)
theorem laid_sh {L : Lw} (g : GoodL L) : Sh (laidD L) := by
  refine .tup fun x hx => ?_
  simp only [List.mem_cons, List.not_mem_nil, or_false] at hx
  rcases hx with rfl | rfl | rfl
  · exact wisp_sh g.2.1 g.2.2.1 g.1
  · exact sh_nat g.2.2.2.1 (Int.lt_trans g.2.2.2.2.1 (by decide))
  · cases h : L.le with
    | none => exact .non
    | some n =>
      have := g.2.2.2.2.2 n h
      have h0 := g.2.2.2.1
      exact .int (log_lt (by omega) (Int.lt_trans this.2 (by decide)))
theorem laid_depth (L : Lw) : (laidD L).depth ≤ 4 := by
  have := wisp_depth L.so L.ps
  refine Nat.succ_le_succ (depth_all fun x hx => ?_)
  simp only [List.mem_cons, List.not_mem_nil, or_false] at hx
  rcases hx with rfl | rfl | rfl
  · exact this
  · exact Nat.zero_le _
  · cases L.le with
    | none => exact Nat.zero_le _
    | some n => exact Nat.zero_le _
theorem strand_sh {Ls : List Lw} (g : ∀ L ∈ Ls, GoodL L) : Sh (strandD Ls) := .tup fun x hx => by
  obtain ⟨L, hL, rfl⟩ := List.mem_map.mp hx
  exact laid_sh (g L hL)
theorem strand_depth (Ls : List Lw) : (strandD Ls).depth ≤ 5 := Nat.succ_le_succ (depth_all fun x hx => by
  obtain ⟨L, hL, rfl⟩ := List.mem_map.mp hx
  exact laid_depth L)
theorem Sh.shaped {d : PyData} (h : Sh d) (hd : d.depth ≤ 64) : SeqAt.shaped d = true := Bool.and_eq_true_iff.mpr ⟨h.can, decide_eq_true hd⟩
theorem LaidAt.dp {K : PySem.W.Frag} {H : Hp} {a : Addr} {L : Lw} (h : LaidAt H a L) : Dp K H (.ref a) (laidD L) := by
  obtain ⟨wa, h1, h2⟩ := h
  refine .tup (SqT.of h1) (.cons h2.dp (.cons (.int _) (.cons ?_ .nil)))
  cases L.le with
  | none => exact .non
  | some n => exact .int n
theorem laids_dp {K : PySem.W.Frag} {H : Hp} : ∀ {as : List Addr} {Ls : List Lw}, LaidsAt H as Ls → DpAll K H (as.map V.ref) (Ls.map laidD)
  | [], [], _ => .nil
  | [], L :: r, h => absurd h.1 (by simp)
  | a :: r, [], h => absurd h.1 (by simp)
  | a :: as, L :: Ls, h => by
    obtain ⟨M, h1, h2⟩ := h.2 0 a rfl
    have e : L = M := Option.some.inj h1
    subst e
    exact .cons h2.dp (laids_dp ⟨Nat.succ.inj (by simpa using h.1), fun i b hb => h.2 (i + 1) b hb⟩)
theorem StrandAt.dp {K : PySem.W.Frag} {H : Hp} {a : Addr} {Ls : List Lw} (h : StrandAt H a Ls) : Dp K H (.ref a) (strandD Ls) := by
  obtain ⟨as, h1, h2⟩ := h
  exact .tup (SqT.of h1) (laids_dp h2)
theorem eq_nil (ds : List PyData) : PyData.eqv (.tuple ds) (.tuple []) = ds.isEmpty := by
  cases ds with
  | nil => rfl
  | cons x r => rfl
theorem ints_dp {K : PySem.W.Frag} {H : Hp} : ∀ ns : List Int, DpAll K H (ns.map V.int) (ns.map PyData.int)
  | [] => .nil
  | n :: r => .cons (.int n) (ints_dp r)
theorem ints_shaped (ns : List Int) : SeqAt.shaped (.tuple (ns.map PyData.int)) = true := by
  refine Bool.and_eq_true_iff.mpr ⟨can_all fun x hx => ?_, decide_eq_true (Nat.le_trans (Nat.succ_le_succ (depth_all (n := 0) fun x hx => ?_)) (by decide))⟩
  · obtain ⟨n, _, rfl⟩ := List.mem_map.mp hx
    rfl
  · obtain ⟨n, _, rfl⟩ := List.mem_map.mp hx
    exact Nat.le_refl _
def spRight7 : Sp := fun vs H Q _ => ∃ (p l : Addr) (T : Nat) (a : Addr) (Ls : List Lw), vs = [.ref p, .ref a] ∧ Pot H p l T ∧ T < 2 ^ 38 ∧ StrandAt H a Ls ∧ Ls.length ≤ 60 ∧ (∀ L ∈ Ls, GoodL L) ∧
  ∀ (H' : Hp), Pot H' p l (T + 5) → Keep p l H H' → Q (.bl true) H'
theorem end_is {Ls : List Lw} (g : ∀ L ∈ Ls, GoodL L) {m M : Int} (h : IsEnd Ls m) (h1 : M ∈ 0 :: lasts Ls) (h2 : ∀ y, y ∈ 0 :: lasts Ls → y ≤ M) : m = M := by
  obtain ⟨a1, a2, a3⟩ := h
  have h0 := h2 0 (by simp)
  by_cases hn : Ls = []
  · have e := a1 hn
    rw [hn] at h1
    have : M = 0 := by simpa [lasts] using h1
    omega
  · obtain ⟨L, hL, e⟩ := a2 hn
    have h3 := h2 m (List.mem_cons_of_mem _ (List.mem_map.mpr ⟨L, hL, e.symm⟩))
    have h4 := last_gt (g L hL)
    have h5 := (g L hL).2.2.2.1
    rcases List.mem_cons.mp h1 with h | h
    · omega
    · obtain ⟨L', hL', e'⟩ := List.mem_map.mp h
      have := a3 L' hL'
      omega
def Strs (H : Hp) (cs : List Addr) : Prop := ∀ c ∈ cs, ∃ Ls, StrandAt H c Ls ∧ Ls.length ≤ 60 ∧ ∀ L ∈ Ls, GoodL L
theorem Strs.mono {H H' : Hp} {cs : List Addr} (h : Strs H cs) (t : Tups H H') : Strs H' cs := fun c hc => by
  obtain ⟨Ls, h1, h2⟩ := h c hc
  exact ⟨Ls, h1.mono t, h2⟩
theorem ref_get {bs : List Addr} {i : Nat} {x : V} (h : (bs.map V.ref)[i]? = some x) : ∃ b, x = .ref b ∧ bs[i]? = some b := by
  rw [List.getElem?_map] at h
  cases q : bs[i]? with
  | none =>
    rw [q] at h
    cases h
  | some b =>
    rw [q] at h
    exact ⟨b, (Option.some.inj h).symm, rfl⟩
/-! ### dicts of numbers: update, sorted -/
section
variable {X : Cx}
def rUpd : V → List V → Hp → VK → Prop := fun x vs H Q => ∃ (a b : Addr) (kvs more : List (Key × V)), x = .ref a ∧ vs = [.ref b] ∧ H a = some (.dK kvs) ∧ H b = some (.dK more) ∧ a ≠ b ∧ kvs.length + more.length ≤ sizeLine ∧ Q .non (upd H a (.dK (mergeK kvs more)))
theorem mt_dupdate : MtR X "dict.update" rUpd := by
  intro pins s σ H x vs v us Q I rx rv h
  obtain ⟨a, b, kvs, more, rfl, rfl, ea, eb, ne, hz, q⟩ := h
  cases (show v = Value.ref a from rx)
  rw [Vals.ref1 rv]
  obtain ⟨z1, y1, vs1, rel1, dd1⟩ := dk_of I.hok ea
  obtain ⟨z2, y2, vs2, rel2, dd2⟩ := dk_of I.hok eb
  refine call_meetsIn PySem.F.slot_dict_update dd1.typeIs PySem.F.entry_dict_update (PySem.F.args_dict_update_2 _ _) (meets_dict_update (mixKind X.prog X.w) a b ne y2) ⟨vs1, vs2, dd1, dd2, by rw [← rel1.length, ← rel2.length]; exact hz, fun h' dd' _ hs => ?_⟩
  have he : ∃ o, h'.get? a = some o := dd'.elim fun o z => z.elim fun _ z => z.elim fun _ z => ⟨o, z.1⟩
  exact ⟨.non, _, d_write I (by rw [ea]; exact True.intro) hs he (dk_new (Nat.le_trans (length_mergeK more kvs) hz) y1 (KV.merge rel2 rel1) dd'), rfl, q⟩
def rSortD : List V → Hp → VK → Prop := fun xs H Q => ∃ (a : Addr) (kvs : List (Key × V)) (ks : List Int), xs = [.ref a] ∧ H a = some (.dK kvs) ∧ kvs.map (·.1) = ks.map Sum.inl ∧ ∀ (ys : List Int) (p : Addr), ys.Perm ks → ys.Pairwise (· ≤ ·) → H p = none → Q (.ref p) (upd H p (.lst (ys.map V.int)))
theorem call_sortD (hc : X.calm = true) : CallR X (.builtin "sorted") rSortD := by
  intro pins s σ H xs us Q I va h
  obtain ⟨a, kvs, ks, rfl, ea, hks, q⟩ := h
  rw [Vals.ref1 va]
  obtain ⟨z, lo, vs, rel, dd⟩ := dk_of I.hok ea
  obtain ⟨ep, hat⟩ := dd.dictAt
  have ek : vs.map (·.1) = ks.map Sum.inl := rel.keys.symm.trans hks
  have hl : vs.length = ks.length := by
    have e := congrArg List.length ek
    rw [List.length_map, List.length_map] at e
    exact e
  have hz : vs.length ≤ sizeLine := by rw [← rel.length]; exact z
  refine Calls.call_function_entry PyProof.Rows.kind_sorted PyProof.Rows.plain_sorted PyProof.Rows.entry_sorted (PyProof.Rows.args_sorted1 _) ?_
  unfold Builtin.«sorted»
  refine wpAny_bind (m := checkCount "sorted" 1 1 _) (wpAny_pure (wpAny_bind (PySem.W.kdu_collect (A := X.A.in1) (PySem.W.kdl_dict (knd := mixKind X.prog X.w) (kvs := vs) (ep := ep) lo) (I.ok.hd hc) hat hz fun h1 tk acc hk hacc => ?_)))
  have hal : acc.toList.length = ks.length := by rw [Array.length_toList, hacc.1, hl]
  have hS : IntsAre acc.toList ks := ints_each hal fun j v e => by
    obtain ⟨k, x, e1, e2⟩ := hacc.2 j v (by rw [← Array.getElem?_toList]; exact e)
    have e3 : (vs.map (·.1))[j]? = some k := by rw [List.getElem?_map, e1]; rfl
    rw [ek, List.getElem?_map] at e3
    cases e4 : ks[j]? with
    | none => rw [e4] at e3; cases e3
    | some y =>
      rw [e4] at e3
      cases (show Sum.inl y = k from Option.some.inj e3)
      rcases keyIs_shape (show keyIs (Sum.inl y) v = true from e2) with ⟨i, t, q1, q2⟩ | ⟨i, t, q1, q2⟩
      · cases q1
        exact ⟨y, t, rfl, q2⟩
      · cases q1
  have J : Inv X pins σ H { s with heap := h1, toks := tk } := I.kept hk
  have hz2 : acc.toList.length ≤ sizeLine := by rw [hal, ← hl]; exact hz
  refine wpAny_bind (wpAny_newList ?_ hz2)
  have hoL : (h1.push (seqObj "list" acc.toList.toArray 0)).get? h1.objs.size = some (seqObj "list" acc.toList.toArray 0) := Heap.get?_push_size _ rfl
  show wpAny _ _ _ _ _ { s with heap := h1.push (seqObj "list" acc.toList.toArray 0), toks := tk }
  refine wpAny_bind (wpAny_holding (wpAny_call_entry PyProof.Rows.slot_list_sort ⟨_, hoL, rfl⟩ PyProof.Rows.entry_list_sort (SrtO.list_sort_ord SrtO.swo_int hoL hz2 (fun h2 => SrtO.ints_sortable hS h2) fun out g1 g2 => ⟨_, rfl, ?_⟩) (PyProof.Rows.args_list_sort _)))
  obtain ⟨k1, k2, k3⟩ := SrtO.ints_out hS g1 g2
  obtain ⟨ep2, he2⟩ := PyProof.Rows.sortedHeap_at (vs := acc.toList) (out := out.toArray) hoL
  have hz3 : ((out.map SrtO.iv).map V.int).length ≤ sizeLine := by rw [List.length_map, k2.length_eq, ← hal]; exact hz2
  refine wpAny_pure ⟨_, rfl, .ref h1.objs.size, upd H h1.objs.size (.lst ((out.map SrtO.iv).map V.int)), J.laid (t' := tk) (fun b u e => ?_) (Nat.le_refl _) (show ObjOk X.prog X.w _ _ _ (.lst ((out.map SrtO.iv).map V.int)) from ⟨hz3, out, ep2, vals_of_ints k1, he2⟩), rfl, q _ _ k2 k3 (J.hok.fresh (Nat.le_refl _))⟩
  have hb : b < h1.objs.size := Heap.lt_size e
  rw [PyProof.Rows.sortedHeap_old (Nat.ne_of_lt hb) (by rw [size_push']; exact Nat.lt_succ_of_lt hb)]
  exact Heap.get?_push_of_some _ e
end
/-! ### zip of a tuple and a list -/
section
open PySem
variable {prog : Program} {w : World} {A : Around} {E : Value → Shared → Prop} {s : Shared}
theorem mixItem {z tI tO j1 j2 m1 m2 : Addr} {k : Nat} {us vs : Array Value} {u v a b : Value} {Q : Value → Shared → Prop} (D : ZipApart z tI tO j1 j2 m1 m2)
    (gz : IsZip s.heap z tI tO .none) (gI : IsPair s.heap tI (.ref j1) (.ref j2)) (gO : IsPair s.heap tO a b) (g1 : s.heap.IsTupleIter j1 m1 k) (g2 : s.heap.IsListIter j2 m2 k) (t1 : s.heap.IsTuple m1 us) (t2 : s.heap.IsList m2 vs) (e1 : us[k]? = some u) (e2 : vs[k]? = some v)
    (q : ∀ h', IsZip h' z tI tO (rawInt s.heap.objs.size) → IsPair h' tO u v → h'.IsTupleIter j1 m1 (k + 1) → h'.IsListIter j2 m2 (k + 1) → IsPair h' s.heap.objs.size u v → h'.objs.size = s.heap.objs.size + 1 →
      (∀ c o, ¬ c ∈ [z, tI, tO, j1, j2] ∨ c = tI → s.heap.get? c = some o → h'.get? c = some o) → Q (.ref s.heap.objs.size) { s with heap := h' }) :
    wpAny (model prog w) A (Builtin.«zip.__next__» ⟨[.ref z], []⟩) (fun r s' => ∃ x, r = .done (.ret x) ∧ Q x s') E s := by
  show wpAny _ _ (field (.ref z) 2 >>= _) _ _ _
  refine wpAny_bind (wpAny_field gz rfl (x := .bool false) rfl ?_)
  show wpAny _ _ (field (.ref z) 3 >>= _) _ _ _
  refine wpAny_bind (wpAny_field gz rfl (x := .ref tI) rfl (wpAny_bind (wpAny_seqItems gI rfl ?_)))
  show wpAny _ _ (Builtin.SmallTypes.ownedTupleIsFree (.ref z) >>= _) _ _ s
  refine wpAny_bind ?_; unfold Builtin.SmallTypes.ownedTupleIsFree
  refine wpAny_bind (wpAny_field gz rfl (x := .none) rfl (wpAny_pure ?_)); simp only [if_true]
  refine wpAny_bind (wpAny_rule (wpAny_bind (wpAny_field gz rfl (x := .ref tO) rfl (wpAny_bind (wpAny_setField_rec gz (by simp) fun p1 gz1 b1 => ?_)))))
  have gz1 : IsZip p1 z tI tO .ellipsis := gz1
  refine wpAny_bind ?_; simp only [List.forIn_cons, List.zipIdx_cons, List.forIn_nil, List.zipIdx_nil]
  -- the tuple's next one
  refine wpAny_bind (wpAny_bind (wpAny_onRaise ?_))
  show wpAny _ _ (Builtin.SmallTypes.nextOf (.ref j1) >>= _) _ _ _
  refine wpAny_bind (RZ.nextOf_tuple_item (g1.extBut b1.extBut D.i1z) (t1.extBut b1.extBut D.l1z) e1 fun p2 g12 b2 => wpAny_pure ?_)
  have gO2 : IsPair p2 tO a b := b2.extBut _ _ D.TOi1 (b1.extBut _ _ D.TOz gO)
  refine wpAny_bind (wpAny_seqItems gO2 rfl (wpAny_bind (wpAny_updateSeq_pair gO2 fun p3 gO3 b3 => wpAny_bind (wpAny_letGo (wpAny_pure ?_)))))
  have gO3 : IsPair p3 tO u b := gO3
  -- the list's next one
  refine wpAny_bind (wpAny_bind (wpAny_onRaise ?_))
  show wpAny _ _ (Builtin.SmallTypes.nextOf (.ref j2) >>= _) _ _ _
  have g23 := ((g2.extBut b1.extBut D.i2z).extBut b2.extBut D.i12.symm).extBut b3.extBut D.TOi2.symm
  have t23 := ((t2.extBut b1.extBut D.l2z).extBut b2.extBut D.l2i1).extBut b3.extBut D.l2TO
  refine wpAny_bind (wpAny_nextOf_list_item g23 t23 e2 fun p4 g24 b4 => wpAny_pure ?_)
  have gO4 : IsPair p4 tO u b := b4.extBut _ _ D.TOi2 gO3
  refine wpAny_bind (wpAny_seqItems gO4 rfl (wpAny_bind (wpAny_updateSeq_pair gO4 fun p5 gO5 b5 => wpAny_bind (wpAny_letGo (wpAny_pure (wpAny_pure ?_))))))
  have gO5 : IsPair p5 tO u v := gO5
  refine wpAny_bind (wpAny_seqItems gO5 rfl (wpAny_bind (wpAny_newTuple ?_)))
  have zs : p5.objs.size = s.heap.objs.size := by rw [b5.1, b4.1, b3.1, b2.1, b1.1]
  have gz5 : IsZip p5 z tI tO .ellipsis := b5.extBut _ _ D.TOz.symm (b4.extBut _ _ D.i2z.symm (b3.extBut _ _ D.TOz.symm (b2.extBut _ _ D.i1z.symm gz1)))
  have kp : ∀ c o, c ≠ z → c ≠ tO → c ≠ j1 → c ≠ j2 → s.heap.get? c = some o → p5.get? c = some o := fun c o n1 n2 n3 n4 e => by
    rw [b5.2 c n2, b4.2 c n4, b3.2 c n2, b2.2 c n3, b1.2 c n1]
    exact e
  have g15 : p5.IsTupleIter j1 m1 (k + 1) := g12.at fun o e => by
    rw [b5.2 _ D.TOi1.symm, b4.2 _ D.i12, b3.2 _ D.TOi1.symm]
    exact e
  have g25 : p5.IsListIter j2 m2 (k + 1) := g24.at fun o e => (b5.2 _ D.TOi2.symm).trans e
  have lz : z < p5.objs.size := Heap.lt_size gz5
  show wpAny _ _ (Builtin.SmallTypes.ownedTupleHandOut (.ref z) (.ref p5.objs.size) >>= _) _ _ _
  refine wpAny_bind ?_; unfold Builtin.SmallTypes.ownedTupleHandOut
  have gz6 : IsZip (p5.push { cls := .type "tuple", data := .seq #[u, v] }) z tI tO .ellipsis := Heap.get?_push_of_some _ gz5
  refine wpAny_bind (wpAny_setField_rec gz6 (by simp) fun p7 gz7 b7 => ?_)
  have gz7 : IsZip p7 z tI tO (rawInt p5.objs.size) := gz7
  refine wpAny_setField_rec gz7 (by simp) fun p8 gz8 b8 => wpAny_pure ⟨_, rfl, ?_⟩
  have gz8 : IsZip p8 z tI tO (rawInt p5.objs.size) := gz8
  have up : ∀ c o, c ≠ z → p5.get? c = some o → p8.get? c = some o := fun c o n e => by
    rw [b8.2 c n, b7.2 c n]
    exact Heap.get?_push_of_some _ e
  have gT : IsPair p8 p5.objs.size u v := by
    show p8.get? _ = _
    rw [b8.2 _ (Nat.ne_of_gt lz), b7.2 _ (Nat.ne_of_gt lz)]
    exact Heap.get?_push_size _ rfl
  have z8 : p8.objs.size = p5.objs.size + 1 := by rw [b8.1, b7.1, Heap.size_push]
  rw [zs] at gz8 gT z8
  show Q (.ref p5.objs.size) _
  rw [zs]
  refine q p8 gz8 (up _ _ D.TOz gO5) (g15.at fun o e => up _ o D.i1z e) (g25.at fun o e => up _ o D.i2z e) gT z8 fun c o n e => ?_
  have n4 : c ≠ z ∧ c ≠ tO ∧ c ≠ j1 ∧ c ≠ j2 := by
    rcases n with n | n
    · simp only [List.mem_cons, List.not_mem_nil, or_false, not_or] at n
      exact ⟨n.1, n.2.2.1, n.2.2.2.1, n.2.2.2.2⟩
    · subst n
      exact ⟨D.TIz, D.TITO, D.TIi1, D.TIi2⟩
  exact up c o n4.1 (kp c o n4.1 n4.2.1 n4.2.2.1 n4.2.2.2 e)
theorem mixEnd {z tI tO j1 j2 m1 m2 : Addr} {k : Nat} {us vs : Array Value} {a b : Value} {Q : Fin → Shared → Prop} (hh : A.handled = none) (D : ZipApart z tI tO j1 j2 m1 m2)
    (gz : IsZip s.heap z tI tO .none) (gI : IsPair s.heap tI (.ref j1) (.ref j2)) (gO : IsPair s.heap tO a b) (g1 : s.heap.IsTupleIter j1 m1 k) (g2 : s.heap.IsListIter j2 m2 k) (t1 : s.heap.IsTuple m1 us) (t2 : s.heap.IsList m2 vs) (hend : us[k]? = none ∨ vs[k]? = none)
    (q : ∀ h' x, (∀ c o, ¬ c ∈ [z, tI, tO, j1, j2] → s.heap.get? c = some o → h'.get? c = some o) → (∃ o, h'.get? x = some o ∧ o.cls = .type "StopIteration") → E (.ref x) { s with heap := h' }) :
    wpAny (model prog w) A (Builtin.«zip.__next__» ⟨[.ref z], []⟩) Q E s := by
  have four : ∀ c, ¬ c ∈ [z, tI, tO, j1, j2] → c ≠ z ∧ c ≠ tO ∧ c ≠ j1 ∧ c ≠ j2 := fun c n => by
    simp only [List.mem_cons, List.not_mem_nil, or_false, not_or] at n
    exact ⟨n.1, n.2.2.1, n.2.2.2.1, n.2.2.2.2⟩
  show wpAny _ _ (field (.ref z) 2 >>= _) _ _ _
  refine wpAny_bind (wpAny_field gz rfl (x := .bool false) rfl ?_)
  show wpAny _ _ (field (.ref z) 3 >>= _) _ _ _
  refine wpAny_bind (wpAny_field gz rfl (x := .ref tI) rfl (wpAny_bind (wpAny_seqItems gI rfl ?_)))
  show wpAny _ _ (Builtin.SmallTypes.ownedTupleIsFree (.ref z) >>= _) _ _ s
  refine wpAny_bind ?_; unfold Builtin.SmallTypes.ownedTupleIsFree
  refine wpAny_bind (wpAny_field gz rfl (x := .none) rfl (wpAny_pure ?_)); simp only [if_true]
  refine wpAny_bind (wpAny_rule (wpAny_bind (wpAny_field gz rfl (x := .ref tO) rfl (wpAny_bind (wpAny_setField_rec gz (by simp) fun p1 gz1 b1 => ?_)))))
  have gz1 : IsZip p1 z tI tO .ellipsis := gz1
  refine wpAny_bind ?_; simp only [List.forIn_cons, List.zipIdx_cons, List.forIn_nil, List.zipIdx_nil]
  refine wpAny_bind (wpAny_bind (wpAny_onRaise ?_))
  show wpAny _ _ (Builtin.SmallTypes.nextOf (.ref j1) >>= _) _ _ _
  have last : ∀ (h : Heap) (x : Addr), IsZip h z tI tO .ellipsis → (∃ o, h.get? x = some o ∧ o.cls = .type "StopIteration") → x ≠ z := fun h x gz ⟨o, e, ec⟩ n => by
    subst n
    rw [gz] at e
    cases e
    simp at ec
  cases e1 : us[k]? with
  | none =>
    refine wpAny_bind (RZ.nextOf_tuple_end hh (g1.extBut b1.extBut D.i1z) (t1.extBut b1.extBut D.l1z) e1 fun p2 x b2 ex => ?_)
    have gz2 : IsZip p2 z tI tO .ellipsis := b2 _ _ D.i1z.symm gz1
    have nz := last p2 x gz2 ex
    obtain ⟨o, eo, ec⟩ := ex
    refine wpAny_setField_rec gz2 (by simp) fun p3 _ b3 => q p3 x (fun c o n e => ?_) ⟨o, (b3.2 _ nz).trans eo, ec⟩
    have n4 := four c n
    rw [b3.2 c n4.1]
    exact b2 _ _ n4.2.2.1 ((b1.2 c n4.1).trans e)
  | some u =>
    have e2 : vs[k]? = none := by
      rcases hend with h | h
      · rw [e1] at h
        cases h
      · exact h
    refine wpAny_bind (RZ.nextOf_tuple_item (g1.extBut b1.extBut D.i1z) (t1.extBut b1.extBut D.l1z) e1 fun p2 g12 b2 => wpAny_pure ?_)
    have gO2 : IsPair p2 tO a b := b2.extBut _ _ D.TOi1 (b1.extBut _ _ D.TOz gO)
    refine wpAny_bind (wpAny_seqItems gO2 rfl (wpAny_bind (wpAny_updateSeq_pair gO2 fun p3 gO3 b3 => wpAny_bind (wpAny_letGo (wpAny_pure ?_)))))
    refine wpAny_bind (wpAny_bind (wpAny_onRaise ?_))
    show wpAny _ _ (Builtin.SmallTypes.nextOf (.ref j2) >>= _) _ _ _
    have g23 := ((g2.extBut b1.extBut D.i2z).extBut b2.extBut D.i12.symm).extBut b3.extBut D.TOi2.symm
    have t23 := ((t2.extBut b1.extBut D.l2z).extBut b2.extBut D.l2i1).extBut b3.extBut D.l2TO
    refine wpAny_bind (wpAny_nextOf_list_end hh g23 t23 e2 fun p4 x b4 ex => ?_)
    have gz4 : IsZip p4 z tI tO .ellipsis := b4 _ _ D.i2z.symm (b3.extBut _ _ D.TOz.symm (b2.extBut _ _ D.i1z.symm gz1))
    have nz := last p4 x gz4 ex
    obtain ⟨o, eo, ec⟩ := ex
    refine wpAny_setField_rec gz4 (by simp) fun p5 _ b5 => q p5 x (fun c o n e => ?_) ⟨o, (b5.2 _ nz).trans eo, ec⟩
    have n4 := four c n
    rw [b5.2 c n4.1]
    refine b4 _ _ n4.2.2.2 ?_
    rw [b3.2 c n4.2.1, b2.2 c n4.2.2.1, b1.2 c n4.1]
    exact e
theorem mixNextItem {z tI tO j1 j2 m1 m2 : Addr} {k : Nat} {us vs : Array Value} {u v a b : Value} {Q : Option Value → Shared → Prop} (D : ZipApart z tI tO j1 j2 m1 m2)
    (gz : IsZip s.heap z tI tO .none) (gI : IsPair s.heap tI (.ref j1) (.ref j2)) (gO : IsPair s.heap tO a b) (g1 : s.heap.IsTupleIter j1 m1 k) (g2 : s.heap.IsListIter j2 m2 k) (t1 : s.heap.IsTuple m1 us) (t2 : s.heap.IsList m2 vs) (e1 : us[k]? = some u) (e2 : vs[k]? = some v)
    (q : ∀ h', IsZip h' z tI tO (rawInt s.heap.objs.size) → IsPair h' tO u v → h'.IsTupleIter j1 m1 (k + 1) → h'.IsListIter j2 m2 (k + 1) → IsPair h' s.heap.objs.size u v → h'.objs.size = s.heap.objs.size + 1 →
      (∀ c o, ¬ c ∈ [z, tI, tO, j1, j2] ∨ c = tI → s.heap.get? c = some o → h'.get? c = some o) → Q (some (.ref s.heap.objs.size)) { s with heap := h' }) :
    wpAny (model prog w) A (pyNext (.ref z)) Q E s := by
  have ty : s.TypeIs (.ref z) "zip" := ⟨_, gz, rfl⟩
  unfold pyNext; refine wpAny_bind (wpAny_attempt (wpAny_callSpecial?_slot (name := Str.ofString "__next__") ty F.slot_zip_next ?_))
  exact wpAny_call_entry F.slot_zip_next ty F.entry_zip_next (mixItem D gz gI gO g1 g2 t1 t2 e1 e2 fun h' r1 r2 r3 r4 r5 r6 r7 => wpAny_pure (q h' r1 r2 r3 r4 r5 r6 r7)) (F.args_zip_next_1 _)
theorem mixNextEnd {z tI tO j1 j2 m1 m2 : Addr} {k : Nat} {us vs : Array Value} {a b : Value} {Q : Option Value → Shared → Prop} (hh : A.handled = none) (D : ZipApart z tI tO j1 j2 m1 m2)
    (gz : IsZip s.heap z tI tO .none) (gI : IsPair s.heap tI (.ref j1) (.ref j2)) (gO : IsPair s.heap tO a b) (g1 : s.heap.IsTupleIter j1 m1 k) (g2 : s.heap.IsListIter j2 m2 k) (t1 : s.heap.IsTuple m1 us) (t2 : s.heap.IsList m2 vs) (hend : us[k]? = none ∨ vs[k]? = none)
    (q : ∀ h', (∀ c o, ¬ c ∈ [z, tI, tO, j1, j2] → s.heap.get? c = some o → h'.get? c = some o) → Q none { s with heap := h' }) : wpAny (model prog w) A (pyNext (.ref z)) Q E s := by
  have ty : s.TypeIs (.ref z) "zip" := ⟨_, gz, rfl⟩
  unfold pyNext; refine wpAny_bind (wpAny_attempt (wpAny_callSpecial?_slot (name := Str.ofString "__next__") ty F.slot_zip_next ?_))
  refine wpAny_call_entry F.slot_zip_next ty F.entry_zip_next (mixEnd hh D gz gI gO g1 g2 t1 t2 hend fun h' x kp ⟨o, eo, ec⟩ => ?_) (F.args_zip_next_1 _)
  exact wpAny_bind (wpAny_isInstance (T := "StopIteration") (b := true) ⟨o, eo, ec⟩ isSubtype_stop (wpAny_pure (q _ kp)))
end
section
open PySem
/-- the tuple at a and the list at b as they stand at each turn -/
def ItzM (K : PySem.W.Frag) (a b : Addr) : It where
  go i H := ∃ (us vs : List V) (x y : V), SqT K H a us ∧ SqL K H b vs ∧ us[i]? = some x ∧ vs[i]? = some y
  yld i H v H' := ∃ c x y, v = .ref c ∧ H c = none ∧ H' = upd H c (.tup [x, y]) ∧ (∀ us, SqT K H a us → us[i]? = some x) ∧ ∀ vs, SqL K H b vs → vs[i]? = some y
  stop i H := ∃ us vs : List V, SqT K H a us ∧ SqL K H b vs ∧ (us.length ≤ i ∨ vs.length ≤ i)
theorem turnMix {P : Program} {w : World} {K : PySem.W.Frag} {el : List Expr} {n : Nat} {tp : Pos} {a b z tI tO j1 j2 : Addr} (D : ZipApart z tI tO j1 j2 a b) :
    Turn P w K (.Tuple el n tp) (ItzM K a b) [z, tI, tO, j1, j2] z (fun i h => IsZip h z tI tO .none ∧ IsPair h tI (.ref j1) (.ref j2) ∧ (∃ x y, IsPair h tO x y) ∧ h.IsTupleIter j1 a i ∧ h.IsListIter j2 b i) where
  mem := by simp
  obj := fun i h st c hc => by
    obtain ⟨gz, gI, ⟨x, y, gO⟩, ⟨o1, e1, _, d1⟩, o2, e2, _, d2⟩ := st
    simp only [List.mem_cons, List.not_mem_nil, or_false] at hc
    rcases hc with rfl | rfl | rfl | rfl | rfl
    · exact ⟨_, gz, fun v e => nomatch e⟩
    · exact ⟨_, gI, fun v e => nomatch e⟩
    · exact ⟨_, gO, fun v e => nomatch e⟩
    · exact ⟨o1, e1, fun v e => by rw [d1] at e; cases e⟩
    · exact ⟨o2, e2, fun v e => by rw [d2] at e; cases e⟩
  keep := fun i h h' st k => by
    obtain ⟨gz, gI, ⟨x, y, gO⟩, g1, g2⟩ := st
    exact ⟨k _ (by simp) _ gz, k _ (by simp) _ gI, ⟨x, y, k _ (by simp) _ gO⟩, g1.at fun o e => k _ (by simp) o e, g2.at fun o e => k _ (by simp) o e⟩
  item := by
    intro X eP ew eK hc i pins s σ H E I hf st hg
    subst eP ew eK
    obtain ⟨gz, gI, ⟨x0, y0, gO⟩, g1, g2⟩ := st
    obtain ⟨us, vs, x, y, s1, s2, e1, e2⟩ := hg
    obtain ⟨as, r1, t1, _⟩ := I.tuple s1
    obtain ⟨bs, r2, t2, _⟩ := I.list s2
    obtain ⟨u, eu, ru⟩ := r1.get e1
    obtain ⟨v, ev, rv⟩ := r2.get e2
    have lz : z < s.heap.objs.size := Heap.lt_size gz
    refine mixNextItem D gz gI gO g1 g2 t1 t2.isList (u := u) (v := v) (by simpa using eu) (by simpa using ev) fun h' k1 k2 k3 k4 k5 k6 k7 => ⟨_, rfl, ?_⟩
    refine wpAny_letOwnedTupleGo_zip (s := { s with heap := h' }) k1 fun h2 l1 sb => ?_
    have pr : h2.get? s.heap.objs.size = some { cls := .type "tuple", data := .seq #[u, v] } := (sb.2 _ (Nat.ne_of_gt lz)).trans k5
    have ok : ObjOk X.prog X.w (upd H s.heap.objs.size (.tup [x, y])) h2 s.heap.objs.size (.tup [x, y]) := ⟨by show 2 ≤ sizeLine; decide, [u, v], .cons ru (.cons rv .nil), _, pr, rfl, _, rfl⟩
    have J : Inv X pins σ (upd H s.heap.objs.size (.tup [x, y])) { s with heap := h2 } := I.turnedNew (t' := s.toks) (ch := [z, tI, tO, j1, j2]) (fun c o n e => by
      have nz : c ≠ z := fun e => n (by simp [e])
      exact (sb.2 c nz).trans (k7 c o (.inl n) e)) hf (Nat.le_refl _) ok
    refine ⟨.ref s.heap.objs.size, _, J, rfl, ⟨_, x, y, rfl, I.hok.fresh (Nat.le_refl _), rfl, fun l hl => ?_, fun l hl => ?_⟩, ⟨l1, ?_, ⟨u, v, ?_⟩, ?_, ?_⟩, fun c hcm => ?_⟩
    · rw [I.tuple_inj hl s1]
      exact e1
    · rw [I.list_inj hl s2]
      exact e2
    · exact (sb.2 _ D.TIz).trans (k7 _ _ (.inr rfl) gI)
    · exact (sb.2 _ D.TOz).trans k2
    · exact k3.at fun o e => (sb.2 _ D.i1z).trans e
    · exact k4.at fun o e => (sb.2 _ D.i2z).trans e
    · have lt : c < s.heap.objs.size := by
        have hc' := hcm
        simp only [List.mem_cons, List.not_mem_nil, or_false] at hc'
        rcases hc' with rfl | rfl | rfl | rfl | rfl
        · exact lz
        · exact Heap.lt_size gI
        · exact Heap.lt_size gO
        · exact g1.elim fun _ e => Heap.lt_size e.1
        · exact g2.elim fun _ e => Heap.lt_size e.1
      rw [upd_ne (Nat.ne_of_lt lt)]
      exact (hf c hcm).1
  done := by
    intro X eP ew eK hc i pins s σ H E I hf st hg
    subst eP ew eK
    obtain ⟨gz, gI, ⟨x0, y0, gO⟩, g1, g2⟩ := st
    obtain ⟨us, vs, s1, s2, he⟩ := hg
    obtain ⟨as, r1, t1, _⟩ := I.tuple s1
    obtain ⟨bs, r2, t2, _⟩ := I.list s2
    have l1 := r1.length
    have l2 := r2.length
    refine mixNextEnd (I.ok.hd hc) D gz gI gO g1 g2 t1 t2.isList ?_ fun h' kp => ⟨rfl, I.turnedL (t' := s.toks) (ch := [z, tI, tO, j1, j2]) (fun c o n e => kp c o n e) hf⟩
    rcases he with h | h
    · exact .inl (by simp; omega)
    · exact .inr (by simp; omega)
  self := fun A i s Q E st h => wpAny_pyIter_zip st.1 h
abbrev mx1 (h : Heap) (a : Addr) : Heap := h.push { cls := .type "tuple_iterator", data := .fields #[.ref a, .int 0 0] }
abbrev mx2 (h : Heap) (a b : Addr) : Heap := (mx1 h a).push { cls := .type "list_iterator", data := .fields #[.ref b, .int 0 0] }
abbrev mx3 (h : Heap) (a b : Addr) : Heap := (mx2 h a b).push { cls := .type "tuple", data := .seq #[.ref h.objs.size, .ref (mx1 h a).objs.size] }
abbrev mx4 (h : Heap) (a b : Addr) : Heap := (mx3 h a b).push { cls := .type "tuple", data := .seq #[.none, .none] }
abbrev mx5 (h : Heap) (a b : Addr) : Heap := (mx4 h a b).push { cls := .type "zip", data := .fields #[.none, .bool false, .bool false, .ref (mx2 h a b).objs.size, .ref (mx3 h a b).objs.size] }
theorem mixMade (a b : Addr) (us vs : Array Value) : Meets (Builtin.«zip.__new__» ⟨[.type "zip", .ref a, .ref b], []⟩) (fun _ R s => s.heap.IsTuple a us ∧ s.heap.IsList b vs ∧ R (.ok (.ret (.ref (mx4 s.heap a b).objs.size))) { s with heap := mx5 s.heap a b }) :=
  .of_wp fun prog w A R s h => by
    obtain ⟨hp, g, d, tk, os⟩ := s
    obtain ⟨t1, t2, q⟩ := h
    have sz := sub_zip
    have T1 : Heap.IsTuple (Shared.heap ⟨hp, g, d, tk, os⟩) a us := t1
    have T2 : Heap.IsList (Shared.heap ⟨hp.push { cls := .type "tuple_iterator", data := .fields #[.ref a, .int 0 0] }, g, d, tk, os⟩) b vs := Heap.IsList.push t2 _
    wp_walk using wpAny_pyIter_tuple T1, wpAny_pyIter_list T2
    exact ⟨_, rfl, q⟩
theorem mixCall {prog : Program} {w : World} {A : Around} {E : Value → Shared → Prop} {s : Shared} {a b : Addr} {us vs : Array Value} {Q : Value → Shared → Prop} (t1 : s.heap.IsTuple a us) (t2 : s.heap.IsList b vs)
    (q : ∀ h', IsZip h' (s.heap.objs.size + 4) (s.heap.objs.size + 2) (s.heap.objs.size + 3) .none ∧ IsPair h' (s.heap.objs.size + 2) (.ref s.heap.objs.size) (.ref (s.heap.objs.size + 1)) ∧ IsPair h' (s.heap.objs.size + 3) .none .none ∧ h'.IsTupleIter s.heap.objs.size a 0 ∧ h'.IsListIter (s.heap.objs.size + 1) b 0 →
      (∀ c o, s.heap.get? c = some o → h'.get? c = some o) → Q (.ref (s.heap.objs.size + 4)) { s with heap := h' }) : wpAny (model prog w) A (call (.type "zip") [.ref a, .ref b]) Q E s := by
  refine callType_new F.called_zip (by decide) (F.typeCall_zip_2 _ _) (F.newCall_zip_2 _ _) (fun ob => F.args_object_init_3 ob _ _) F.entry_zip_new (mixMade a b us vs) ⟨t1, t2, ?_⟩
  have n1 : (mx1 s.heap a).objs.size = s.heap.objs.size + 1 := Heap.size_push ..
  have n2 : (mx2 s.heap a b).objs.size = s.heap.objs.size + 2 := by rw [Heap.size_push, n1]
  have n3 : (mx3 s.heap a b).objs.size = s.heap.objs.size + 3 := by rw [Heap.size_push, n2]
  have n4 : (mx4 s.heap a b).objs.size = s.heap.objs.size + 4 := by rw [Heap.size_push, n3]
  have on : ∀ {h : Heap} {c : Addr} {o p : Obj}, h.get? c = some o → (h.push p).get? c = some o := fun e => Heap.get?_push_of_some _ e
  have f5 : (mx5 s.heap a b).get? (mx4 s.heap a b).objs.size = some _ := Heap.get?_push_size _ rfl
  have f4 : (mx5 s.heap a b).get? (mx3 s.heap a b).objs.size = some _ := on (Heap.get?_push_size _ rfl)
  have f3 : (mx5 s.heap a b).get? (mx2 s.heap a b).objs.size = some _ := on (on (Heap.get?_push_size _ rfl))
  have f2 : (mx5 s.heap a b).get? (mx1 s.heap a).objs.size = some _ := on (on (on (Heap.get?_push_size _ rfl)))
  have f1 : (mx5 s.heap a b).get? s.heap.objs.size = some _ := on (on (on (on (Heap.get?_push_size _ rfl))))
  rw [n2, n3, n4] at f5
  rw [n1, n2] at f3
  rw [n3] at f4
  rw [n1] at f2
  show _ ∧ _
  rw [n4]
  exact ⟨⟨_, f5, rfl⟩, q _ ⟨f5, f3, f4, ⟨_, f1, rfl, rfl⟩, _, f2, rfl, rfl⟩ fun c o e => on (on (on (on (on e))))⟩
def iMix (K : PySem.W.Frag) (ta : TA) : L2.TI := fun σ H R => ta σ H fun vs H1 => ∃ a b xs ys, vs = [.ref a, .ref b] ∧ SqT K H1 a xs ∧ SqL K H1 b ys ∧ R (ItzM K a b) H1
theorem pi_mix {X : Cx} {e e2 : Expr} {ta : TA} {p pos tp : Pos} {el : List Expr} {n : Nat} (hg : Gl X "zip") (hm : X.mg "zip" = none) (ha : PA X [e, e2] ta)
    (h1 : starEach [e, e2] X.env = (false, eval e X.env) :: starEach [e2] X.env := by rfl) (h2 : (backTo pos (starEach [e2] X.env)).any (·.1) = false := by rfl) : PI X (.Tuple el n tp) (.Call (.Name "zip" p) [e, e2] [] pos) (iMix X.K ta) := by
  constructor
  intro pins s σ H R I h
  refine Call_ (ld_blt I hg hm PyProof.Rows.boot_zip (PyProof.Rows.callWith_type1 (thn (ha.run pos pins s σ H _ I h) fun us s1 hz => ?_) h1 h2))
  obtain ⟨vs, H1, J, va, a, b, xs, ys, rfl, hx, hy, q⟩ := hz
  match us, va with
  | [_, _], .cons r1 (.cons r2 .nil) =>
    cases r1
    cases r2
    obtain ⟨as, rv1, t1, _⟩ := J.tuple hx
    obtain ⟨bs, rv2, t2, _⟩ := J.list hy
    have la : a < s1.heap.objs.size := t1.elim fun _ z => Heap.lt_size z.1
    refine mixCall t1 t2.isList fun h' st kp => wpAny_pyIter_zip st.1 ?_
    refine ⟨s1.heap.objs.size + 4, [s1.heap.objs.size + 4, s1.heap.objs.size + 2, s1.heap.objs.size + 3, s1.heap.objs.size, s1.heap.objs.size + 1], _, _, H1, rfl, J.kept (t' := s1.toks) kp, turnMix (PySem.W.ktu_apart s1.heap.objs.size a b la t2.lt), ⟨st.1, st.2.1, ⟨_, _, st.2.2.1⟩, st.2.2.2.1, st.2.2.2.2⟩, fun c hc => ?_, q⟩
    have le : s1.heap.objs.size ≤ c := by
      simp only [List.mem_cons, List.not_mem_nil, or_false] at hc
      rcases hc with rfl | rfl | rfl | rfl | rfl
      · exact Nat.le_add_right _ _
      · exact Nat.le_add_right _ _
      · exact Nat.le_add_right _ _
      · exact Nat.le_refl _
      · exact Nat.le_add_right _ _
    exact J.fpOk le (J.hok.fresh le)
theorem walk_mix {K : PySem.W.Frag} {a b : Addr} {xs ys : List V} (hl : xs.length = ys.length) : Walk (ItzM K a b) xs.length (fun H => SqT K H a xs ∧ SqL K H b ys) (YPair (fun i => xs[i]?) (fun i => ys[i]?)) where
  goes i H hi q := ⟨xs, ys, xs[i], ys[i]'(hl ▸ hi), q.1, q.2, List.getElem?_eq_getElem hi, List.getElem?_eq_getElem (hl ▸ hi)⟩
  stops H q := ⟨xs, ys, q.1, q.2, .inl (Nat.le_refl _)⟩
  yields i H v H' _ q y := by
    obtain ⟨c, x, z, k1, k2, k3, k4, k5⟩ := y
    exact ⟨c, x, z, k1, k2, k3, k4 xs q.1, k5 ys q.2⟩
end
/-! ### enumerate of a tuple -/
section
open PySem
theorem enuMade (a : Addr) (us : Array Value) (n : Nat) (dc : Option Addr) (sl : Array (Option Value)) : Meets (Builtin.«enumerate.__new__» ⟨[.type "enumerate", .ref a], []⟩) (fun _ R s => s.heap.get? a = some { cls := .type "tuple", dict := dc, data := .seq us n, slots := sl } ∧
      R (.ok (.ret (.ref (s.heap.push { cls := .type "tuple_iterator", data := .fields #[.ref a, .int 0 0] }).objs.size)))
        { s with heap := (s.heap.push { cls := .type "tuple_iterator", data := .fields #[.ref a, .int 0 0] }).push { cls := .type "enumerate", data := .fields #[.none, .bool false, .ref s.heap.objs.size, rawInt 0, .none, .none] } }) :=
  .of_wp fun prog w A R s h => by
    obtain ⟨hp, g, d, tk, os⟩ := s
    obtain ⟨e, q⟩ := h
    have su := sub_enumerate
    have T : Heap.IsTuple (Shared.heap ⟨hp, g, d, tk, os⟩) a us := ⟨_, e, rfl, n, rfl⟩
    wp_walk using PySem.AutoSeq1.wpAny_loadPart' e
    refine wpAny_stack_any fun st => wpAny_pure ?_
    split
    · rename_i c _ _ _ _ _
      cases (c == Value.type "enumerate")
      · wp_walk using PySem.AutoSeq1.wpAny_loadPart' e, wpAny_pyIter_tuple T
        exact ⟨_, rfl, q⟩
      · wp_walk using PySem.AutoSeq1.wpAny_loadPart' e, wpAny_pyIter_tuple T
        exact ⟨_, rfl, q⟩
    · wp_walk using PySem.AutoSeq1.wpAny_loadPart' e, wpAny_pyIter_tuple T
      exact ⟨_, rfl, q⟩
variable {prog : Program} {w : World} {A : Around} {E : Value → Shared → Prop} {s : Shared}
theorem enuCall {a : Addr} {us : Array Value} {Q : Value → Shared → Prop} (t : s.heap.IsTuple a us)
    (q : ∀ h', IsEnum h' (s.heap.objs.size + 1) s.heap.objs.size 0 .none → h'.IsTupleIter s.heap.objs.size a 0 → (∀ b o, s.heap.get? b = some o → h'.get? b = some o) → Q (.ref (s.heap.objs.size + 1)) { s with heap := h' }) :
    wpAny (model prog w) A (call (.type "enumerate") [.ref a]) Q E s := by
  obtain ⟨⟨c, dc, dt, sl⟩, e, ec, n, ed⟩ := t
  have ec : c = .type "tuple" := ec
  have ed : dt = .seq us n := ed
  subst ec ed
  refine callType_new F.called_enumerate (by decide) (F.typeCall_enumerate_1 _) (F.newCall_enumerate_1 _) (fun ob => F.args_object_init_2 ob _) F.entry_enumerate_new (enuMade a us n dc sl) ⟨e, ?_⟩
  have z : (s.heap.push { cls := .type "tuple_iterator", data := .fields #[.ref a, .int 0 0] }).objs.size = s.heap.objs.size + 1 := Heap.size_push ..
  have g2 : ((s.heap.push { cls := .type "tuple_iterator", data := .fields #[.ref a, .int 0 0] }).push { cls := .type "enumerate", data := .fields #[.none, .bool false, .ref s.heap.objs.size, rawInt 0, .none, .none] }).get? (s.heap.push { cls := .type "tuple_iterator", data := .fields #[.ref a, .int 0 0] }).objs.size = some _ := Heap.get?_push_size _ rfl
  show _ ∧ _
  rw [z] at g2 ⊢
  exact ⟨⟨_, g2, rfl⟩, q _ g2 ⟨_, Heap.get?_push_of_some _ (Heap.get?_push_size _ rfl), rfl, rfl⟩ fun b o x => Heap.get?_push_of_some _ (Heap.get?_push_of_some _ x)⟩
theorem enuItem {e j a : Addr} {i : Nat} {us : Array Value} {x old : Value} {Q : Value → Shared → Prop} (g : IsEnum s.heap e j i old) (gj : s.heap.IsTupleIter j a i) (t : s.heap.IsTuple a us) (ex : us[i]? = some x) (ne : e ≠ j)
    (q : ∀ h', IsEnumOut h' e j ((i : Int) + 1) x s.heap.objs.size → h'.IsTupleIter j a (i + 1) → h'.get? s.heap.objs.size = some { cls := .type "tuple", data := .seq #[.int i s.toks, x] } →
      (∀ b o, b ≠ e → b ≠ j → s.heap.get? b = some o → h'.get? b = some o) → Q (.ref s.heap.objs.size) { s with heap := h', toks := s.toks + 1 }) :
    wpAny (model prog w) A (Builtin.«enumerate.__next__» ⟨[.ref e], []⟩) (fun r s' => ∃ v, r = .done (.ret v) ∧ Q v s') E s := by
  obtain ⟨hp, gg, dd, tk, os⟩ := s
  show wpAny _ _ (field (.ref e) 2 >>= _) _ _ _
  refine wpAny_bind (wpAny_field g rfl (x := .ref j) rfl (wpAny_bind (RZ.nextOf_tuple_item gj t ex fun p1 gj1 b1 => ?_)))
  have b1 : Heap.SameBut j hp p1 := b1
  have g1 : IsEnum p1 e j i old := (b1.2 e ne).trans g
  show wpAny _ _ (field (.ref e) 3 >>= _) _ _ ⟨p1, gg, dd, tk, os⟩
  refine wpAny_bind (wpAny_field g1 rfl (x := rawInt i) rfl ?_)
  show wpAny _ _ (field (.ref e) 4 >>= _) _ _ ⟨p1, gg, dd, tk, os⟩
  refine wpAny_bind (wpAny_field g1 rfl (x := .none) rfl ?_)
  show wpAny _ _ (mkInt i >>= _) _ _ ⟨p1, gg, dd, tk, os⟩
  refine wpAny_bind (wpAny_mkInt ?_)
  show wpAny _ _ (setField (.ref e) 3 (rawInt ((i : Int) + 1)) >>= _) _ _ ⟨p1, gg, dd, tk + 1, os⟩
  refine wpAny_bind (wpAny_setField_rec g1 (by simp) fun p2 g2 b2 => ?_)
  have b2 : Heap.SameBut e p1 p2 := b2
  have g2 : IsEnum p2 e j ((i : Int) + 1) old := g2
  show wpAny _ _ (setField (.ref e) 4 .none >>= _) _ _ ⟨p2, gg, dd, tk + 1, os⟩
  refine wpAny_bind (wpAny_setField_rec g2 (by simp) fun p3 g3 b3 => ?_)
  have b3 : Heap.SameBut e p2 p3 := b3
  have g3 : IsEnum p3 e j ((i : Int) + 1) old := g3
  show wpAny _ _ (newTuple [.int i tk, x] >>= _) _ _ ⟨p3, gg, dd, tk + 1, os⟩
  refine wpAny_bind (wpAny_newTuple ?_)
  have zs : p3.objs.size = hp.objs.size := by rw [b3.1, b2.1, b1.1]
  have g4 : IsEnum (p3.push { cls := .type "tuple", data := .seq #[.int i tk, x] }) e j ((i : Int) + 1) old := Heap.get?_push_of_some _ g3
  have t4 : (p3.push { cls := .type "tuple", data := .seq #[.int i tk, x] }).get? hp.objs.size = some { cls := .type "tuple", data := .seq #[.int i tk, x] } := by
    rw [← zs]
    exact Heap.get?_push_size _ rfl
  have k4 : ∀ b o, b ≠ e → b ≠ j → hp.get? b = some o → (p3.push { cls := .type "tuple", data := .seq #[.int i tk, x] }).get? b = some o := fun b o n1 n2 h => Heap.get?_push_of_some _ (by
    rw [b3.2 b n1, b2.2 b n1, b1.2 b n2]
    exact h)
  have j4 : (p3.push { cls := .type "tuple", data := .seq #[.int i tk, x] }).IsTupleIter j a (i + 1) := gj1.at fun o h => Heap.get?_push_of_some _ (by
    rw [b3.2 j ne.symm, b2.2 j ne.symm]
    exact h)
  have el : e < hp.objs.size := Heap.lt_size g
  show wpAny _ _ (Builtin.SmallTypes.ownedTupleIsFree (.ref e) >>= _) _ _ ⟨p3.push { cls := .type "tuple", data := .seq #[.int i tk, x] }, gg, dd, tk + 1, os⟩
  rw [zs]
  generalize p3.push { cls := .type "tuple", data := .seq #[.int i tk, x] } = p4 at g4 t4 k4 j4
  refine wpAny_bind ?_; unfold Builtin.SmallTypes.ownedTupleIsFree
  refine wpAny_bind (wpAny_field g4 rfl (x := .none) rfl (wpAny_pure ?_)); simp only [if_true]
  refine wpAny_bind (wpAny_rule (wpAny_bind (wpAny_field g4 rfl (x := old) rfl (wpAny_bind (wpAny_setField_rec g4 (by simp) fun p5 g5 b5 => ?_)))))
  have b5 : Heap.SameBut e p4 p5 := b5
  have g5 : IsEnum p5 e j ((i : Int) + 1) x := g5
  show wpAny _ _ (Builtin.SmallTypes.ownedTupleHandOut (.ref e) (.ref hp.objs.size) >>= _) _ _ ⟨p5, gg, dd, tk + 1, os⟩
  refine wpAny_bind ?_; unfold Builtin.SmallTypes.ownedTupleHandOut
  refine wpAny_bind (wpAny_setField_rec g5 (by simp) fun p6 g6 b6 => ?_)
  have b6 : Heap.SameBut e p5 p6 := b6
  have g6 : IsEnumOut p6 e j ((i : Int) + 1) x hp.objs.size := g6
  refine wpAny_setField_rec g6 (by simp) fun p7 g7 b7 => ?_
  have b7 : Heap.SameBut e p6 p7 := b7
  have up : ∀ b o, b ≠ e → p4.get? b = some o → p7.get? b = some o := fun b o n h => by
    rw [b7.2 b n, b6.2 b n, b5.2 b n]
    exact h
  exact wpAny_bind (wpAny_letGo (wpAny_pure ⟨_, rfl, q p7 g7 (j4.at fun o h => up _ o ne.symm h) (up _ _ (Nat.ne_of_gt el) t4) fun b o n1 n2 h => up b o n1 (k4 b o n1 n2 h)⟩))
theorem enuNextItem {e j a : Addr} {i : Nat} {us : Array Value} {x old : Value} {Q : Option Value → Shared → Prop} (g : IsEnum s.heap e j i old) (gj : s.heap.IsTupleIter j a i) (t : s.heap.IsTuple a us) (ex : us[i]? = some x) (ne : e ≠ j)
    (q : ∀ h', IsEnumOut h' e j ((i : Int) + 1) x s.heap.objs.size → h'.IsTupleIter j a (i + 1) → h'.get? s.heap.objs.size = some { cls := .type "tuple", data := .seq #[.int i s.toks, x] } →
      (∀ b o, b ≠ e → b ≠ j → s.heap.get? b = some o → h'.get? b = some o) → Q (some (.ref s.heap.objs.size)) { s with heap := h', toks := s.toks + 1 }) : wpAny (model prog w) A (pyNext (.ref e)) Q E s := by
  have ty : s.TypeIs (.ref e) "enumerate" := ⟨_, g, rfl⟩
  unfold pyNext; refine wpAny_bind (wpAny_attempt (wpAny_callSpecial?_slot (name := Str.ofString "__next__") ty F.slot_enumerate_next ?_))
  exact wpAny_call_entry F.slot_enumerate_next ty F.entry_enumerate_next (enuItem g gj t ex ne fun h' r1 r2 r3 r4 => wpAny_pure (q h' r1 r2 r3 r4)) (F.args_enumerate_next_1 _)
theorem enuNextEnd {e j a : Addr} {i : Nat} {us : Array Value} {old : Value} {Q : Option Value → Shared → Prop} (hh : A.handled = none) (g : IsEnum s.heap e j i old) (gj : s.heap.IsTupleIter j a i) (t : s.heap.IsTuple a us) (ex : us[i]? = none)
    (q : ∀ h', Heap.ExtBut j s.heap h' → Q none { s with heap := h' }) : wpAny (model prog w) A (pyNext (.ref e)) Q E s := by
  have ty : s.TypeIs (.ref e) "enumerate" := ⟨_, g, rfl⟩
  unfold pyNext; refine wpAny_bind (wpAny_attempt (wpAny_callSpecial?_slot (name := Str.ofString "__next__") ty F.slot_enumerate_next ?_))
  refine wpAny_call_entry F.slot_enumerate_next ty F.entry_enumerate_next ?_ (F.args_enumerate_next_1 _)
  show wpAny _ _ (field (.ref e) 2 >>= _) _ _ _
  refine wpAny_bind (wpAny_field g rfl (x := .ref j) rfl (wpAny_bind (RZ.nextOf_tuple_end hh gj t ex fun h' x b ⟨o, eo, ec⟩ => ?_)))
  exact wpAny_bind (wpAny_isInstance (T := "StopIteration") (b := true) ⟨o, eo, ec⟩ isSubtype_stop (wpAny_pure (q _ b)))
/-- the tuple at a, each item in a new pair -/
def IteT (K : PySem.W.Frag) (a : Addr) : It where
  go i H := ∃ (us : List V) (x : V), SqT K H a us ∧ us[i]? = some x
  yld i H v H' := ∃ c x, v = .ref c ∧ H c = none ∧ H' = upd H c (.tup [.int (i : Nat), x]) ∧ ∀ us, SqT K H a us → us[i]? = some x
  stop i H := ∃ us : List V, SqT K H a us ∧ us.length ≤ i
theorem turnEnuT {P : Program} {w : World} {K : PySem.W.Frag} {el : List Expr} {n : Nat} {tp : Pos} (a e j : Addr) :
    Turn P w K (.Tuple el n tp) (IteT K a) [e, j] e (fun i h => (∃ old, IsEnum h e j ((i : Nat) : Int) old) ∧ h.IsTupleIter j a i ∧ e ≠ j) where
  mem := by simp
  obj := fun i h st b hb => by
    obtain ⟨⟨old, g⟩, ⟨o, eo, _, ed⟩, _⟩ := st
    simp only [List.mem_cons, List.not_mem_nil, or_false] at hb
    rcases hb with rfl | rfl
    · exact ⟨_, g, fun v q => nomatch q⟩
    · exact ⟨o, eo, fun v q => by rw [ed] at q; cases q⟩
  keep := fun i h h' st k => by
    obtain ⟨⟨old, g⟩, gj, ne⟩ := st
    exact ⟨⟨old, k _ (by simp) _ g⟩, gj.at fun o q => k _ (by simp) o q, ne⟩
  item := by
    intro X eP ew eK hc i pins s σ H E I hf st hg
    subst eP ew eK
    obtain ⟨⟨old, g⟩, gj, ne⟩ := st
    obtain ⟨us, x, hq, ex⟩ := hg
    obtain ⟨as, r1, t1, _⟩ := I.tuple hq
    obtain ⟨u, eu, ru⟩ := r1.get ex
    have el : e < s.heap.objs.size := Heap.lt_size g
    have jl : j < s.heap.objs.size := gj.elim fun _ q => Heap.lt_size q.1
    refine enuNextItem g gj t1 (x := u) (by simpa using eu) ne fun h' k1 k2 k3 k4 => ⟨_, rfl, ?_⟩
    refine wpAny_letOwnedTupleGo_enum (s := { s with heap := h', toks := s.toks + 1 }) k1 fun h2 l1 sb => ?_
    have pr : h2.get? s.heap.objs.size = some { cls := .type "tuple", data := .seq #[.int i s.toks, u] } := (sb.2 _ (Nat.ne_of_gt el)).trans k3
    have ok : ObjOk X.prog X.w (upd H s.heap.objs.size (.tup [.int (i : Nat), x])) h2 s.heap.objs.size (.tup [.int (i : Nat), x]) := ⟨by show 2 ≤ sizeLine; decide, [.int i s.toks, u], .cons ⟨_, rfl⟩ (.cons ru .nil), _, pr, rfl, _, rfl⟩
    have J : Inv X pins σ (upd H s.heap.objs.size (.tup [.int (i : Nat), x])) { s with heap := h2, toks := s.toks + 1 } := I.turnedNew (ch := [e, j]) (fun b o n q => by
      have n1 : b ≠ e := fun z => n (by simp [z])
      have n2 : b ≠ j := fun z => n (by simp [z])
      exact (sb.2 b n1).trans (k4 b o n1 n2 q)) hf (Nat.le_refl _) ok
    refine ⟨.ref s.heap.objs.size, _, J, rfl, ⟨_, x, rfl, I.hok.fresh (Nat.le_refl _), rfl, fun ys hy => ?_⟩, ⟨⟨u, ?_⟩, k2.at fun o q => (sb.2 j ne.symm).trans q, ne⟩, fun b hb => ?_⟩
    · rw [I.tuple_inj hy hq]
      exact ex
    · rw [show ((i + 1 : Nat) : Int) = (i : Int) + 1 by omega]
      exact l1
    · have lt : b < s.heap.objs.size := by
        have hb' := hb
        simp only [List.mem_cons, List.not_mem_nil, or_false] at hb'
        rcases hb' with rfl | rfl
        · exact el
        · exact jl
      rw [upd_ne (Nat.ne_of_lt lt)]
      exact (hf b hb).1
  done := by
    intro X eP ew eK hc i pins s σ H E I hf st hg
    subst eP ew eK
    obtain ⟨⟨old, g⟩, gj, ne⟩ := st
    obtain ⟨us, hq, hx⟩ := hg
    obtain ⟨as, r1, t1, _⟩ := I.tuple hq
    obtain ⟨f0, f1, f2, f3, f4, f5⟩ := hf j (by simp)
    have l1 := r1.length
    exact enuNextEnd (I.ok.hd hc) g gj t1 (by simp; omega) fun h' b => ⟨rfl, I.turned (t' := s.toks) (fun c o n q => b c o n q) f0 f1 f3 f4 f5⟩
  self := fun A i s Q E st h => st.1.elim fun _ g => wpAny_pyIter_enum g h
def iEnuT (K : PySem.W.Frag) (ta : TA) : L2.TI := fun σ H R => ta σ H fun vs H1 => ∃ a xs, vs = [.ref a] ∧ SqT K H1 a xs ∧ R (IteT K a) H1
theorem pi_enuT {X : Cx} {e : Expr} {ta : TA} {p pos tp : Pos} {el : List Expr} {n : Nat} (hg : Gl X "enumerate") (hm : X.mg "enumerate" = none) (ha : PA X [e] ta) (h1 : starEach [e] X.env = [(false, eval e X.env)] := by rfl) :
    PI X (.Tuple el n tp) (.Call (.Name "enumerate" p) [e] [] pos) (iEnuT X.K ta) := by
  constructor
  intro pins s σ H R I h
  refine Call_ (ld_blt I hg hm boot_enumerate (PyProof.Rows.callWith_type1 (thn (ha.run pos pins s σ H _ I h) fun us s1 hz => ?_) h1 rfl))
  obtain ⟨vs, H1, J, va, a, xs, rfl, hx, q⟩ := hz
  match us, va with
  | [_], .cons r1 .nil =>
    cases r1
    obtain ⟨as, rv, t1, _⟩ := J.tuple hx
    refine enuCall t1 fun h' g gj kp => wpAny_pyIter_enum g ?_
    refine ⟨s1.heap.objs.size + 1, [s1.heap.objs.size + 1, s1.heap.objs.size], _, _, H1, rfl, J.kept (t' := s1.toks) kp, turnEnuT a (s1.heap.objs.size + 1) s1.heap.objs.size, ⟨⟨.none, g⟩, gj, Nat.succ_ne_self _⟩, fun b hb => ?_, q⟩
    have le : s1.heap.objs.size ≤ b := by
      simp only [List.mem_cons, List.not_mem_nil, or_false] at hb
      rcases hb with rfl | rfl
      · exact Nat.le_add_right _ _
      · exact Nat.le_refl _
    exact J.fpOk le (J.hok.fresh le)
theorem walk_enuT {K : PySem.W.Frag} {a : Addr} {xs : List V} : Walk (IteT K a) xs.length (fun H => SqT K H a xs) (YPair (fun i => some (.int (i : Nat))) (fun i => xs[i]?)) where
  goes i H hi q := ⟨xs, xs[i], q, List.getElem?_eq_getElem hi⟩
  stops H q := ⟨xs, q, Nat.le_refl _⟩
  yields i H v H' _ q y := by
    obtain ⟨c, x, k1, k2, k3, k4⟩ := y
    exact ⟨c, .int (i : Nat), x, k1, k2, k3, rfl, k4 xs q⟩
end
/-! ### weights between two places -/
abbrev mnI (x y : Int) : Int := if y < x then y else x
abbrev mxI (x y : Int) : Int := if y > x then y else x
def ovl (a b : Int) (t : Int × Int × Int) : Int := mxI 0 (mnI t.2.1 b - mxI t.1 a)
def wsum (a b : Int) (ts : List (Int × Int × Int)) : Int := (ts.map fun t => t.2.2 * ovl a b t).sum
def WL (a b : Int) (Ls : List Lw) : Int := (Ls.map fun L => wsum a b (partsOf L.le L.ps L.pl)).sum
def thickS (Ls : List Lw) (p : Int) : Int := (Ls.map fun L => thickL L p).sum
theorem ovl_add {a b c : Int} (h1 : a ≤ b) (h2 : b ≤ c) (t : Int × Int × Int) : ovl a b t + ovl b c t = ovl a c t := by
  unfold ovl mxI mnI
  (repeat' split) <;> omega
theorem ovl_same (c : Int) (t : Int × Int × Int) : ovl c c t = 0 := by
  unfold ovl mxI mnI
  (repeat' split) <;> omega
theorem wsum_cons (a b : Int) (t : Int × Int × Int) (r : List (Int × Int × Int)) : wsum a b (t :: r) = t.2.2 * ovl a b t + wsum a b r := by
  unfold wsum
  rw [List.map_cons, List.sum_cons]
theorem wsum_app (a b : Int) (r s : List (Int × Int × Int)) : wsum a b (r ++ s) = wsum a b r + wsum a b s := by
  unfold wsum
  rw [List.map_append, List.sum_append]
theorem wsum_add {a b c : Int} (h1 : a ≤ b) (h2 : b ≤ c) : ∀ ts, wsum a b ts + wsum b c ts = wsum a c ts
  | [] => rfl
  | t :: r => by
    rw [wsum_cons, wsum_cons, wsum_cons, ← wsum_add h1 h2 r, ← ovl_add h1 h2 t, Int.mul_add]
    omega
theorem wsum_same (c : Int) : ∀ ts, wsum c c ts = 0
  | [] => rfl
  | t :: r => by rw [wsum_cons, wsum_same c r, ovl_same, Int.mul_zero]; rfl
theorem WL_cons (a b : Int) (L : Lw) (r : List Lw) : WL a b (L :: r) = wsum a b (partsOf L.le L.ps L.pl) + WL a b r := by
  unfold WL
  rw [List.map_cons, List.sum_cons]
theorem WL_add {a b c : Int} (h1 : a ≤ b) (h2 : b ≤ c) : ∀ Ls, WL a b Ls + WL b c Ls = WL a c Ls
  | [] => rfl
  | L :: r => by
    have := wsum_add h1 h2 (partsOf L.le L.ps L.pl)
    have := WL_add h1 h2 r
    rw [WL_cons, WL_cons, WL_cons]
    omega
theorem WL_same (c : Int) : ∀ Ls, WL c c Ls = 0
  | [] => rfl
  | L :: r => by rw [WL_cons, wsum_same, WL_same c r]; rfl
theorem WL_snoc (a b : Int) (Ls : List Lw) (L : Lw) : WL a b (Ls ++ [L]) = WL a b Ls + wsum a b (partsOf L.le L.ps L.pl) := by
  unfold WL
  rw [List.map_append, List.sum_append]
  simp
/-- both ways of parting are one -/
theorem parts_none {n : Int} : ∀ (ps : List (Int × Int)) (st : Int), (∀ p ∈ ps, 1 ≤ p.2) → n ≤ st → partsOf (some n) ps st = []
  | [], _, _, _ => rfl
  | (t, g) :: r, st, hg, h => by
    have hg1 : 1 ≤ g := hg (t, g) (by simp)
    have hc : clip (some n) (st + g) = n := by
      show (if n < st + g then n else st + g) = n
      rw [if_pos (by omega)]
    show (if st < clip (some n) (st + g) then [(st, clip (some n) (st + g), t)] else []) ++ partsOf (some n) r (clip (some n) (st + g)) = []
    rw [hc, if_neg (by omega), parts_none r n (fun x hx => hg x (by simp [hx])) (Int.le_refl _)]
    rfl
theorem parts_eq {le : Option Int} : ∀ (ps : List (Int × Int)) (st : Int), (∀ p ∈ ps, 1 ≤ p.2) → lawParts le ps st = partsOf le ps st
  | [], _, _ => rfl
  | (t, g) :: r, st, hg => by
    have hg1 : 1 ≤ g := hg (t, g) (by simp)
    have hr : ∀ p ∈ r, 1 ≤ p.2 := fun x hx => hg x (by simp [hx])
    show (if st < clip le (st + g) then [(st, clip le (st + g), t)] else []) ++ lawParts le r (st + g) = (if st < clip le (st + g) then [(st, clip le (st + g), t)] else []) ++ partsOf le r (clip le (st + g))
    cases le with
    | none => rw [parts_eq r (st + g) hr]; rfl
    | some n =>
      by_cases h : n < st + g
      · have hc : clip (some n) (st + g) = n := by
          show (if n < st + g then n else st + g) = n
          rw [if_pos h]
        rw [hc, law_nil r (st + g) hr (.inr ⟨n, rfl, by omega⟩), parts_none r n hr (Int.le_refl _)]
      · have hc : clip (some n) (st + g) = st + g := by
          show (if n < st + g then n else st + g) = st + g
          rw [if_neg h]
        rw [hc, parts_eq r (st + g) hr]
theorem law_mem {le : Option Int} : ∀ (ps : List (Int × Int)) (st : Int), (∀ p ∈ ps, 1 ≤ p.2) → ∀ x ∈ lawParts le ps st, st ≤ x.1 ∧ x.1 < x.2.1 ∧ x.2.1 ≤ st + longs ps ∧ ∃ g, (x.2.2, g) ∈ ps
  | [], _, _, x, h => by cases h
  | (t, g) :: r, st, hg, x, h => by
    have hg1 : 1 ≤ g := hg (t, g) (by simp)
    have hr : ∀ p ∈ r, 1 ≤ p.2 := fun x hx => hg x (by simp [hx])
    have h0 := longs_nonneg hr
    have h : x ∈ (if st < clip le (st + g) then [(st, clip le (st + g), t)] else []) ++ lawParts le r (st + g) := h
    rw [longs_cons]
    show _ ∧ _ ∧ x.2.1 ≤ st + (g + longs r) ∧ _
    rcases List.mem_append.mp h with h | h
    · by_cases hc : st < clip le (st + g)
      · rw [if_pos hc] at h
        simp only [List.mem_cons, List.not_mem_nil, or_false] at h
        subst h
        have := clip_le (le := le) (e := st + g)
        exact ⟨Int.le_refl _, hc, by show clip le (st + g) ≤ _; omega, g, by simp⟩
      · rw [if_neg hc] at h
        cases h
    · obtain ⟨h1, h2, h3, g', h4⟩ := law_mem r (st + g) hr x h
      exact ⟨by omega, h2, by omega, g', by simp [h4]⟩
theorem part_ok {L : Lw} (g : GoodL L) {x : Int × Int × Int} (h : x ∈ partsOf L.le L.ps L.pl) : x.1 < x.2.1 ∧ 0 ≤ x.2.2 ∧ x.2.2 < 2 ^ 200 ∧ x.2.1 - x.1 < 2 ^ 210 := by
  have hp : ∀ p ∈ L.ps, 1 ≤ p.2 := fun p hp => (g.1.2.2 p hp).2.2.1
  rw [← parts_eq L.ps L.pl hp] at h
  obtain ⟨h1, h2, h3, g', h4⟩ := law_mem L.ps L.pl hp x h
  have h5 := g.1.2.2 _ h4
  have h6 := longs_lt g.1
  have h7 : (2 : Int) ^ 204 < 2 ^ 210 := by decide
  exact ⟨h2, by have := h5.1; show 0 ≤ x.2.2; have h8 : 1 ≤ x.2.2 := this; omega, h5.2.1, by omega⟩
theorem mulW_of {i j : Int} (h0 : 0 ≤ i) (h1 : i < 2 ^ 250) (h2 : 0 ≤ j) (h3 : j < 2 ^ 250) : CMulW i j := by
  have a := log_lt h0 h1
  have b := log_lt h2 h3
  unfold CMulW
  omega
theorem ovl_le {a b : Int} {t : Int × Int × Int} (h : t.1 < t.2.1) : 0 ≤ ovl a b t ∧ ovl a b t ≤ t.2.1 - t.1 := by
  unfold ovl mxI mnI
  (repeat' split) <;> omega
theorem ovl_mul {L : Lw} (g : GoodL L) {x : Int × Int × Int} (h : x ∈ partsOf L.le L.ps L.pl) (a b : Int) : CMulW x.2.2 (ovl a b x) := by
  obtain ⟨h1, h2, h3, h4⟩ := part_ok g h
  obtain ⟨h5, h6⟩ := ovl_le (a := a) (b := b) h1
  have h7 : (2 : Int) ^ 210 < 2 ^ 250 := by decide
  have h8 : (2 : Int) ^ 200 < 2 ^ 250 := by decide
  exact mulW_of h2 (by omega) h5 (by omega)
theorem ovl_in {a b : Int} {t : Int × Int × Int} (h : t.1 < t.2.1) (hab : a ≤ b) (h1 : t.1 < b) (h2 : t.2.1 > a) : mnI t.2.1 b - mxI t.1 a = ovl a b t := by
  unfold ovl mxI mnI
  (repeat' split) <;> omega
theorem ovl_out {a b : Int} {t : Int × Int × Int} (h : ¬ (t.1 < b ∧ t.2.1 > a)) : ovl a b t = 0 := by
  unfold ovl mxI mnI
  (repeat' split) <;> omega
/-- at one place -/
theorem ovl_one (p s e t : Int) : ovl p (p + 1) (s, e, t) = if s ≤ p ∧ p < e then 1 else 0 := by
  show (if mnI e (p + 1) - mxI s p > 0 then mnI e (p + 1) - mxI s p else 0) = _
  unfold mxI mnI
  (repeat' split) <;> omega
theorem one_none : ∀ (ps : List (Int × Int)) (st p : Int), (∀ x ∈ ps, 1 ≤ x.2) → wsum p (p + 1) (lawParts none ps st) = if p < st then 0 else thickAt ps (p - st)
  | [], st, p, _ => by
    show 0 = if p < st then 0 else 0
    split <;> rfl
  | (t, g) :: r, st, p, hg => by
    have hg1 : 1 ≤ g := hg (t, g) (by simp)
    have hr : ∀ p ∈ r, 1 ≤ p.2 := fun x hx => hg x (by simp [hx])
    have e : lawParts none ((t, g) :: r) st = (st, st + g, t) :: lawParts none r (st + g) := by
      show (if st < st + g then [(st, st + g, t)] else []) ++ lawParts none r (st + g) = _
      rw [if_pos (by omega)]
      rfl
    rw [e, wsum_cons, one_none r (st + g) p hr, ovl_one]
    show t * (if st ≤ p ∧ p < st + g then 1 else 0) + _ = if p < st then 0 else (if p - st < g then t else thickAt r (p - st - g))
    rw [show p - (st + g) = p - st - g by omega]
    by_cases h1 : p < st
    · rw [if_pos h1, if_neg (by omega), if_pos (by omega)]
      omega
    · by_cases h2 : p < st + g
      · rw [if_neg h1, if_pos (by omega), if_pos (by omega), if_pos (by omega)]
        omega
      · rw [if_neg h1, if_neg (by omega), if_neg (by omega), if_neg (by omega)]
        omega
theorem one_some (n : Int) : ∀ (ps : List (Int × Int)) (st p : Int), (∀ x ∈ ps, 1 ≤ x.2) → wsum p (p + 1) (lawParts (some n) ps st) = if p < st ∨ n ≤ p then 0 else thickAt ps (p - st)
  | [], st, p, _ => by
    show 0 = if p < st ∨ n ≤ p then 0 else 0
    split <;> rfl
  | (t, g) :: r, st, p, hg => by
    have hg1 : 1 ≤ g := hg (t, g) (by simp)
    have hr : ∀ p ∈ r, 1 ≤ p.2 := fun x hx => hg x (by simp [hx])
    have e : wsum p (p + 1) (lawParts (some n) ((t, g) :: r) st) = t * (if st ≤ p ∧ p < st + g ∧ p < n then 1 else 0) + wsum p (p + 1) (lawParts (some n) r (st + g)) := by
      show wsum p (p + 1) ((if st < clip (some n) (st + g) then [(st, clip (some n) (st + g), t)] else []) ++ lawParts (some n) r (st + g)) = _
      rw [wsum_app]
      congr 1
      show wsum p (p + 1) (if st < (if n < st + g then n else st + g) then [(st, (if n < st + g then n else st + g), t)] else []) = _
      by_cases h : st < (if n < st + g then n else st + g)
      · rw [if_pos h, wsum_cons, ovl_one]
        show t * _ + 0 = t * _
        rw [Int.add_zero]
        congr 1
        by_cases h3 : n < st + g
        · rw [if_pos h3] at h ⊢
          by_cases h4 : st ≤ p ∧ p < n
          · rw [if_pos h4, if_pos (by omega)]
          · rw [if_neg h4, if_neg (by omega)]
        · rw [if_neg h3] at h ⊢
          by_cases h4 : st ≤ p ∧ p < st + g
          · rw [if_pos h4, if_pos (by omega)]
          · rw [if_neg h4, if_neg (by omega)]
      · rw [if_neg h]
        show 0 = _
        have : ¬ (st ≤ p ∧ p < st + g ∧ p < n) := by
          split at h <;> omega
        rw [if_neg this, Int.mul_zero]
    rw [e, one_some n r (st + g) p hr]
    show _ = if p < st ∨ n ≤ p then 0 else (if p - st < g then t else thickAt r (p - st - g))
    rw [show p - (st + g) = p - st - g by omega]
    by_cases h1 : p < st ∨ n ≤ p
    · rw [if_pos h1, if_neg (by omega), if_pos (by omega)]
      omega
    · by_cases h2 : p < st + g
      · rw [if_neg h1, if_pos (by omega), if_pos (by omega), if_pos (by omega)]
        omega
      · rw [if_neg h1, if_neg (by omega), if_neg (by omega), if_neg (by omega)]
        omega
theorem one_thick {L : Lw} (g : GoodL L) (p : Int) : wsum p (p + 1) (partsOf L.le L.ps L.pl) = thickL L p := by
  have hp : ∀ p ∈ L.ps, 1 ≤ p.2 := fun p hp => (g.1.2.2 p hp).2.2.1
  rw [← parts_eq L.ps L.pl hp]
  unfold thickL
  cases L.le with
  | none => exact one_none L.ps L.pl p hp
  | some n =>
    rw [one_some n L.ps L.pl p hp]
    show _ = if p < L.pl then 0 else if n ≤ p then 0 else _
    by_cases h1 : p < L.pl
    · rw [if_pos h1, if_pos (.inl h1)]
    · by_cases h2 : n ≤ p
      · rw [if_neg h1, if_pos h2, if_pos (.inr h2)]
      · rw [if_neg h1, if_neg h2, if_neg (by omega)]
theorem WL_one (p : Int) : ∀ (Ls : List Lw), (∀ L ∈ Ls, GoodL L) → WL p (p + 1) Ls = thickS Ls p
  | [], _ => rfl
  | L :: r, g => by
    rw [WL_cons, WL_one p r fun L' h => g L' (by simp [h]), one_thick (g L (by simp))]
    unfold thickS
    rw [List.map_cons, List.sum_cons]
theorem WL_sum {Ls : List Lw} (g : ∀ L ∈ Ls, GoodL L) (a : Int) : ∀ n : Nat, ((List.range n).map fun (i : Nat) => thickS Ls (a + i)).sum = WL a (a + n) Ls
  | 0 => by
    show 0 = WL a (a + 0) Ls
    rw [Int.add_zero, WL_same]
  | n + 1 => by
    rw [List.range_succ, List.map_append, List.sum_append, WL_sum g a n]
    show _ + (thickS Ls (a + n) + 0) = _
    rw [Int.add_zero, ← WL_one _ Ls g, WL_add (by omega) (by omega)]
    congr 1
    omega
/-- keys that are numbers -/
def IK (kvs : List (Key × V)) : Prop := ∀ x ∈ kvs, ∃ i : Int, x.1 = Sum.inl i
theorem IK.put {kvs : List (Key × V)} (h : IK kvs) (i : Int) (v : V) : IK (putK kvs (Sum.inl i) v) := by
  unfold putK
  intro x hx
  split at hx
  · obtain ⟨y, hy, rfl⟩ := List.mem_map.mp hx
    split
    · exact h y hy
    · exact h y hy
  · rcases List.mem_append.mp hx with hx | hx
    · exact h x hx
    · simp only [List.mem_cons, List.not_mem_nil, or_false] at hx
      rw [hx]
      exact ⟨i, rfl⟩
theorem IK.merge : ∀ {more kvs : List (Key × V)}, IK kvs → IK more → IK (mergeK kvs more)
  | [], _, h, _ => h
  | (k, v) :: r, kvs, h, hm => by
    obtain ⟨i, e⟩ := hm (k, v) (by simp)
    have e : k = Sum.inl i := e
    subst e
    exact IK.merge (more := r) (h.put i v) fun x hx => hm x (by simp [hx])
theorem IK.keys : ∀ {kvs : List (Key × V)}, IK kvs → ∃ ks : List Int, kvs.map (·.1) = ks.map Sum.inl ∧ ks.length = kvs.length
  | [], _ => ⟨[], rfl, rfl⟩
  | x :: r, h => by
    obtain ⟨i, e⟩ := h x (by simp)
    obtain ⟨ks, e2, e3⟩ := IK.keys (kvs := r) fun y hy => h y (by simp [hy])
    exact ⟨i :: ks, by rw [List.map_cons, List.map_cons, e, e2], by rw [List.length_cons, List.length_cons, e3]⟩
theorem small2000 {n : Nat} (h : n ≤ 5000) : n < sizeLine := Nat.lt_of_le_of_lt h (by decide)
def spThickS : Sp := fun vs H Q _ => ∃ (a : Addr) (Ls : List Lw) (p : Int), vs = [.ref a, .int p] ∧ StrandAt H a Ls ∧ Ls.length ≤ 60 ∧ ∀ H', Same H H' → Q (.int (thickS Ls p)) H'
def spBetween : Sp := fun vs H Q _ => ∃ (a : Addr) (Ls : List Lw) (x y : Int), vs = [.ref a, .int x, .int y] ∧ StrandAt H a Ls ∧ Ls.length ≤ 60 ∧ (∀ L ∈ Ls, GoodL L) ∧ ∀ H', Same H H' → Q (.int (WL x y Ls)) H'
def spDue8 : Sp := fun vs H Q _ => ∃ (o : Addr) (bs : List Addr) (Ls : List Lw) (x y : Int), vs = [.ref o, .int x, .int y] ∧ H o = some (.lst (bs.map V.ref)) ∧ LPartsAt H bs Ls ∧ (∀ L ∈ Ls, GoodL L) ∧ x ≤ y ∧ Q (.int (WL x y Ls)) H
def spEnds8 : Sp := fun vs H Q _ => ∃ (o : Addr) (bs : List Addr) (Ls : List Lw), vs = [.ref o] ∧ H o = some (.lst (bs.map V.ref)) ∧ LPartsAt H bs Ls ∧ Ls.length ≤ 60 ∧ (∀ L ∈ Ls, GoodL L) ∧
  ∀ (H' : Hp) (r : Addr) (ns : List Int), Same H H' → H r = none → H' r = some (.lst (ns.map V.int)) → ns.length ≤ 1200 → Q (.ref r) H'
def spRight8 : Sp := fun vs H Q _ => ∃ (p l : Addr) (T : Nat) (a : Addr) (Ls : List Lw) (small : Bool), vs = [.ref p, .ref a, .bl small] ∧ Pot H p l T ∧ T < 2 ^ 36 ∧ StrandAt H a Ls ∧ Ls.length ≤ 60 ∧ (∀ L ∈ Ls, GoodL L) ∧
  ∀ H', Pot H' p l (T + 1000) → Keep p l H H' → Q (.bl true) H'
theorem bulk_all {xs : List PyData} {n : Nat} (h : ∀ x ∈ xs, x.bulk + 1 ≤ n) : PyData.bulkAll xs ≤ n * xs.length := by
  induction xs with
  | nil => exact Nat.zero_le _
  | cons x r ih =>
    have h1 := h x (by simp)
    have h2 := ih fun y hy => h y (by simp [hy])
    show x.bulk + 1 + PyData.bulkAll r ≤ n * (r.length + 1)
    rw [Nat.mul_add]
    omega
theorem laid_bulk {L : Lw} (g : GoodL L) : (laidD L).bulk ≤ 40 := by
  have h1 := wisp_bulk L.so L.ps
  have h2 := g.1.2.1
  have h3 : (letD L.le).bulk = 0 := by
    cases L.le with
    | none => rfl
    | some n => rfl
  show (wispD L.so L.ps).bulk + 1 + (0 + 1 + ((letD L.le).bulk + 1 + 0)) ≤ 40
  omega
theorem strand_bulk {Ls : List Lw} (g : ∀ L ∈ Ls, GoodL L) (hl : Ls.length ≤ 60) : (strandD Ls).bulk ≤ 20000 := by
  have h := bulk_all (xs := Ls.map laidD) (n := 41) fun x hx => by
    obtain ⟨L, hL, rfl⟩ := List.mem_map.mp hx
    have := laid_bulk (g L hL)
    omega
  rw [List.length_map] at h
  show PyData.bulkAll (Ls.map laidD) ≤ 20000
  omega
theorem TableAt.keep {p l : Addr} {H H' : Hp} {T : Nat} {b : Addr} {ts : List (Int × Int × Int)} (h : TableAt H b ts) (hne : ts ≠ []) (k : Keep p l H H') (hp : Pot H p l T) : TableAt H' b ts := by
  obtain ⟨as, h1, h2⟩ := h
  have hp' := hp
  obtain ⟨ns, c, m, t, e1, e2, _⟩ := hp'
  have ha : as ≠ [] := fun e => by
    have := h2.1
    rw [e, List.length_map] at this
    exact hne (List.length_eq_zero_iff.mp this.symm)
  refine ⟨as, k _ _ (fun e => ?_) (fun e => ?_) h1, h2.mono (k.tups hp)⟩
  · subst e
    rw [h1] at e1
    cases as with
    | nil => exact ha rfl
    | cons x r => cases r with
      | nil => simp at e1
      | cons y r => simp at e1
  · subst e
    rw [h1] at e2
    cases as with
    | nil => exact ha rfl
    | cons x r => cases ns with
      | nil => simp at e2
      | cons y r => simp at e2
theorem law_ne {L : Lw} (g : GoodL L) : lawParts L.le L.ps L.pl ≠ [] := by
  have hp : ∀ x ∈ L.ps, 1 ≤ x.2 := fun x hx => (g.1.2.2 x hx).2.2.1
  have hne : L.ps ≠ [] := fun e => by
    have := g.1.1
    rw [e] at this
    exact absurd this (by decide)
  obtain ⟨ys, b', t, e⟩ := law_last (le := L.le) L.ps L.pl hne hp fun n hn => (g.2.2.2.2.2 n hn).1
  rw [e]
  simp
theorem LPartsAt.keep {p l : Addr} {H H' : Hp} {T : Nat} {bs : List Addr} {Ls : List Lw} (h : LPartsAt H bs Ls) (g : ∀ L ∈ Ls, GoodL L) (k : Keep p l H H') (hp : Pot H p l T) : LPartsAt H' bs Ls := ⟨h.1, fun i b hb => by
  obtain ⟨L, h1, h2⟩ := h.2 i b hb
  exact ⟨L, h1, h2.keep (law_ne (g L (List.mem_of_getElem? h1))) k hp⟩⟩
theorem ne_same (d : PyData) (h : d.canLay0 = true) : (!PyData.eqv d d) = false := by
  rw [PySem.SeqAt.eqv_refl d h]
  rfl
/-! ### what runs where -/
def s0 (Ls : List Lw) (p : Int) : Int := (Ls.map fun L => if L.so = 0 then thickL L p else 0).sum
def s1 (Ls : List Lw) (p : Int) : Int := (Ls.map fun L => if L.so = 0 then 0 else thickL L p).sum
theorem s01 (p : Int) : ∀ Ls : List Lw, s0 Ls p + s1 Ls p = thickS Ls p
  | [] => rfl
  | L :: r => by
    have ih := s01 p r
    unfold s0 s1 thickS at ih ⊢
    rw [List.map_cons, List.map_cons, List.map_cons, List.sum_cons, List.sum_cons, List.sum_cons]
    split <;> omega
theorem s0_snoc (Ls : List Lw) (L : Lw) (p : Int) : s0 (Ls ++ [L]) p = s0 Ls p + if L.so = 0 then thickL L p else 0 := by
  unfold s0
  rw [List.map_append, List.sum_append]
  simp
theorem s1_snoc (Ls : List Lw) (L : Lw) (p : Int) : s1 (Ls ++ [L]) p = s1 Ls p + if L.so = 0 then 0 else thickL L p := by
  unfold s1
  rw [List.map_append, List.sum_append]
  simp
theorem strong_w (p : Int) : ∀ ts : List (Int × Int × Int), strongOf p ts = wsum p (p + 1) ts
  | [] => rfl
  | (a, b, c) :: r => by
    rw [strong_cons, wsum_cons, strong_w p r, ovl_one]
    show (if (decide (a ≤ p) && decide (p < b)) = true then c else 0) + _ = c * (if a ≤ p ∧ p < b then 1 else 0) + _
    by_cases h : a ≤ p ∧ p < b
    · rw [if_pos h, if_pos (by simp [h.1, h.2]), Int.mul_one]
    · rw [if_neg h, if_neg (by simp only [Bool.and_eq_true, decide_eq_true_eq]; exact h), Int.mul_zero]
theorem strong_L {L : Lw} (g : GoodL L) (p : Int) : strongOf p (lawParts L.le L.ps L.pl) = thickL L p := by
  have hp : ∀ p ∈ L.ps, 1 ≤ p.2 := fun p hp => (g.1.2.2 p hp).2.2.1
  rw [strong_w, parts_eq L.ps L.pl hp, one_thick g]
theorem hits_none {le : Option Int} (ps : List (Int × Int)) (st p : Int) (hg : ∀ x ∈ ps, 1 ≤ x.2) (h : p < st) : (lawParts le ps st).filter (inRow p) = [] := by
  rw [List.filter_eq_nil_iff]
  intro x hx
  have := (law_mem ps st hg x hx).1
  unfold inRow
  simp only [Bool.and_eq_true, decide_eq_true_eq]
  omega
theorem hits_one {le : Option Int} : ∀ (ps : List (Int × Int)) (st p : Int), (∀ x ∈ ps, 1 ≤ x.2) → ((lawParts le ps st).filter (inRow p)).length ≤ 1
  | [], _, _, _ => Nat.zero_le _
  | (t, g) :: r, st, p, hg => by
    have hg1 : 1 ≤ g := hg (t, g) (by simp)
    have hr : ∀ p ∈ r, 1 ≤ p.2 := fun x hx => hg x (by simp [hx])
    show (((if st < clip le (st + g) then [(st, clip le (st + g), t)] else []) ++ lawParts le r (st + g)).filter (inRow p)).length ≤ 1
    rw [List.filter_append, List.length_append]
    by_cases h : p < st + g
    · rw [hits_none r (st + g) p hr h]
      have : ((if st < clip le (st + g) then [(st, clip le (st + g), t)] else []).filter (inRow p)).length ≤ 1 := by
        refine Nat.le_trans (List.length_filter_le _ _) ?_
        split
        · exact Nat.le_refl _
        · exact Nat.zero_le _
      exact this
    · have e : (if st < clip le (st + g) then [(st, clip le (st + g), t)] else []).filter (inRow p) = [] := by
        rw [List.filter_eq_nil_iff]
        intro x hx
        split at hx
        · simp only [List.mem_cons, List.not_mem_nil, or_false] at hx
          subst hx
          have := clip_le (le := le) (e := st + g)
          show ¬ (decide (st ≤ p) && decide (p < clip le (st + g))) = true
          simp only [Bool.and_eq_true, decide_eq_true_eq]
          omega
        · cases hx
      rw [e]
      have := hits_one (le := le) r (st + g) p hr
      show 0 + _ ≤ 1
      omega
theorem hits_L {L : Lw} (g : GoodL L) (p : Int) (k : Int) : ((lawParts L.le L.ps L.pl).filter (inRow p)).map (fun _ => k) = if 0 < thickL L p then [k] else [] := by
  have hp : ∀ p ∈ L.ps, 1 ≤ p.2 := fun p hp => (g.1.2.2 p hp).2.2.1
  have h1 := hits_one (le := L.le) L.ps L.pl p hp
  have h2 := strong_L g p
  unfold strongOf at h2
  cases q : (lawParts L.le L.ps L.pl).filter (inRow p) with
  | nil =>
    rw [q] at h2
    have h2 : (0 : Int) = thickL L p := h2
    rw [if_neg (by omega)]
    rfl
  | cons x r =>
    rw [q] at h1 h2
    have hr : r = [] := by
      cases r with
      | nil => rfl
      | cons y r => exact absurd h1 (by simp)
    subst hr
    have hx : x ∈ (lawParts L.le L.ps L.pl).filter (inRow p) := by rw [q]; simp
    have hx := (List.mem_filter.mp hx).1
    obtain ⟨_, _, _, g', h4⟩ := law_mem L.ps L.pl hp x hx
    have h5 : 1 ≤ x.2.2 := (g.1.2.2 _ h4).1
    have h2 : x.2.2 + 0 = thickL L p := h2
    rw [if_pos (by omega)]
    rfl
def spSorts : Sp := fun vs H Q _ => ∃ (a t : Addr) (Ls : List Lw) (p : Int), vs = [.ref a, .ref t] ∧ StrandAt H a Ls ∧ H t = some (.lst ((Ls.map fun L => thickL L p).map V.int)) ∧ (∀ L ∈ Ls, GoodL L) ∧ ∀ H' o, Same H H' → H o = none → H' o = some (.tup [.int (s0 Ls p), .int (s1 Ls p)]) → Q (.ref o) H'
def spBy : Sp := fun vs H Q _ => ∃ (a : Addr) (Ls : List Lw) (p : Int), vs = [.ref a, .int p] ∧ StrandAt H a Ls ∧ Ls.length ≤ 60 ∧ (∀ L ∈ Ls, GoodL L) ∧ ∀ H' o, Same H H' → H o = none → H' o = some (.tup [.int (s0 Ls p), .int (s1 Ls p)]) → Q (.ref o) H'
def spAt6 : Sp := fun vs H Q _ => ∃ (a o : Addr) (bs : List Addr) (Ls : List Lw) (p : Int), vs = [.ref a, .ref o, .int p] ∧ StrandAt H a Ls ∧ Ls.length ≤ 60 ∧ (∀ L ∈ Ls, GoodL L) ∧ H o = some (.lst (bs.map V.ref)) ∧ LPartsAt H bs Ls ∧
  ∀ (H' : Hp) (r t1 t2 : Addr), Same H H' → H' r = some (.tup [.ref t1, .ref t2]) → H' t1 = some (.tup ((numsFrom 0 (Ls.map fun L => thickL L p)).map V.int)) → H' t2 = some (.tup [.int (s0 Ls p), .int (s1 Ls p)]) → Q (.ref r) H'
def spSpots6 : Sp := fun vs H Q _ => ∃ (p l : Addr) (T : Nat) (o : Addr) (bs : List Addr) (Ls : List Lw), vs = [.ref p, .ref o] ∧ Pot H p l T ∧ T < 2 ^ 37 ∧ H o = some (.lst (bs.map V.ref)) ∧ LPartsAt H bs Ls ∧ Ls.length ≤ 60 ∧ (∀ L ∈ Ls, GoodL L) ∧
  ∀ (H' : Hp) (r : Addr) (ns : List Int), Pot H' p l (T + 100) → Keep p l H H' → H r = none → H' r = some (.lst (ns.map V.int)) → ns.length ≤ 100 → Q (.ref r) H'
def spRight6 : Sp := fun vs H Q _ => ∃ (p l : Addr) (T : Nat) (a : Addr) (Ls : List Lw), vs = [.ref p, .ref a] ∧ Pot H p l T ∧ T < 2 ^ 36 ∧ StrandAt H a Ls ∧ Ls.length ≤ 60 ∧ (∀ L ∈ Ls, GoodL L) ∧
  ∀ H', Pot H' p l (T + 1000) → Keep p l H H' → Q (.bl true) H'
theorem ints_ti (ns : List Int) (h : ns.length ≤ 5000) : TI (.tuple (ns.map PyData.int)) := by
  refine .tup (fun x hx => ?_) (by rw [List.length_map]; exact h)
  obtain ⟨n, _, rfl⟩ := List.mem_map.mp hx
  exact .int n
theorem ints_d (ns : List Int) : (PyData.tuple (ns.map PyData.int)).depth < 4 := by
  refine Nat.lt_of_le_of_lt (Nat.succ_le_succ (depth_all (n := 0) fun x hx => ?_)) (by decide)
  obtain ⟨n, _, rfl⟩ := List.mem_map.mp hx
  exact Nat.le_refl _
/-! ### what changes where -/
/-- what is written at the place k, from the parts in their order -/
def wr (k : Int) : List (Int × Int × Int) → List Int
  | [] => []
  | (s, e, t) :: r => (if s = k then [t] else []) ++ (if e = k then [0] else []) ++ wr k r
def lastD (xs : List Int) (d : Int) : Int := xs.getLast?.getD d
def Rise : List (Int × Int × Int) → Prop
  | [] => True
  | (s, e, _) :: r => s < e ∧ (∀ y ∈ r, e ≤ y.1 ∧ y.1 < y.2.1) ∧ Rise r
theorem rise_law {le : Option Int} : ∀ (ps : List (Int × Int)) (st : Int), (∀ p ∈ ps, 1 ≤ p.2) → Rise (lawParts le ps st)
  | [], _, _ => True.intro
  | (t, g) :: r, st, hg => by
    have hg1 : 1 ≤ g := hg (t, g) (by simp)
    have hr : ∀ p ∈ r, 1 ≤ p.2 := fun x hx => hg x (by simp [hx])
    have ih := rise_law (le := le) r (st + g) hr
    show Rise ((if st < clip le (st + g) then [(st, clip le (st + g), t)] else []) ++ lawParts le r (st + g))
    split
    · next h =>
      refine ⟨h, fun y hy => ?_, ih⟩
      have h1 := law_mem (le := le) r (st + g) hr y hy
      have h2 := clip_le (le := le) (e := st + g)
      exact ⟨by omega, h1.2.1⟩
    · exact ih
theorem wr_none {k b : Int} : ∀ {qs : List (Int × Int × Int)}, (∀ y ∈ qs, b ≤ y.1 ∧ y.1 < y.2.1) → k < b → wr k qs = []
  | [], _, _ => rfl
  | (s, e, t) :: r, h, hk => by
    have h1 := h (s, e, t) (by simp)
    have h1 : b ≤ s ∧ s < e := h1
    show (if s = k then [t] else []) ++ (if e = k then [0] else []) ++ wr k r = []
    rw [if_neg (by omega), if_neg (by omega), wr_none (fun y hy => h y (by simp [hy])) hk]
    rfl
theorem strong_none {k b : Int} : ∀ {qs : List (Int × Int × Int)}, (∀ y ∈ qs, b ≤ y.1 ∧ y.1 < y.2.1) → k < b → strongOf k qs = 0
  | [], _, _ => rfl
  | (s, e, t) :: r, h, hk => by
    have h1 : b ≤ s ∧ s < e := h (s, e, t) (by simp)
    rw [strong_cons, strong_none (fun y hy => h y (by simp [hy])) hk]
    show (if (decide (s ≤ k) && decide (k < e)) = true then t else 0) + 0 = 0
    rw [if_neg (by simp only [Bool.and_eq_true, decide_eq_true_eq]; omega)]
    rfl
theorem wr_ne {k : Int} : ∀ {qs : List (Int × Int × Int)}, wr k qs ≠ [] → ∃ y ∈ qs, y.1 = k ∨ y.2.1 = k
  | [], h => absurd rfl h
  | (s, e, t) :: r, h => by
    by_cases h1 : s = k
    · exact ⟨(s, e, t), by simp, .inl h1⟩
    · by_cases h2 : e = k
      · exact ⟨(s, e, t), by simp, .inr h2⟩
      · have h : (if s = k then [t] else []) ++ (if e = k then [0] else []) ++ wr k r ≠ [] := h
        rw [if_neg h1, if_neg h2] at h
        obtain ⟨y, hy, z⟩ := wr_ne (qs := r) h
        exact ⟨y, by simp [hy], z⟩
theorem lastD_app {xs ys : List Int} {d : Int} (h : ys ≠ []) : lastD (xs ++ ys) d = lastD ys d := by
  unfold lastD
  rw [List.getLast?_append]
  cases q : ys.getLast? with
  | none => exact absurd (List.getLast?_eq_none_iff.mp q) h
  | some y => rfl
/-- nothing begins or ends between j and k: at k it is as at j but for what is written there -/
theorem strong_step {j k : Int} (hjk : j < k) : ∀ (qs : List (Int × Int × Int)), Rise qs → (∀ y ∈ qs, (y.1 ≤ j ∨ k ≤ y.1) ∧ (y.2.1 ≤ j ∨ k ≤ y.2.1)) → strongOf k qs = lastD (wr k qs) (strongOf j qs)
  | [], _, _ => rfl
  | (s, e, t) :: r, hr, hn => by
    obtain ⟨hse, hlo, hrr⟩ := hr
    have h1 : (s ≤ j ∨ k ≤ s) ∧ (e ≤ j ∨ k ≤ e) := hn (s, e, t) (by simp)
    have ih := strong_step hjk r hrr fun y hy => hn y (by simp [hy])
    rw [strong_cons, strong_cons, ih]
    show (if (decide (s ≤ k) && decide (k < e)) = true then t else 0) + _ = lastD ((if s = k then [t] else []) ++ (if e = k then [0] else []) ++ wr k r) ((if (decide (s ≤ j) && decide (j < e)) = true then t else 0) + strongOf j r)
    have cond : ∀ x : Int, ((decide (s ≤ x) && decide (x < e)) = true) ↔ (s ≤ x ∧ x < e) := fun x => by simp only [Bool.and_eq_true, decide_eq_true_eq]
    by_cases hw : wr k r = []
    · rw [hw, List.append_nil]
      have e0 : lastD [] (strongOf j r) = strongOf j r := rfl
      rw [e0]
      by_cases he : e = k
      · have z : strongOf j r = 0 := strong_none (b := e) hlo (by omega)
        rw [if_pos he, if_neg (by rw [cond]; omega), z, lastD_app (by simp)]
        rfl
      · rw [if_neg he, List.append_nil]
        by_cases hs : s = k
        · have z : strongOf j r = 0 := strong_none (b := e) hlo (by omega)
          rw [if_pos hs, if_pos (by rw [cond]; omega), z]
          show t + 0 = t
          omega
        · rw [if_neg hs]
          show _ = (if (decide (s ≤ j) && decide (j < e)) = true then t else 0) + strongOf j r
          by_cases hc : s ≤ j ∧ j < e
          · rw [if_pos ((cond k).mpr (by omega)), if_pos ((cond j).mpr hc)]
          · rw [if_neg (fun z => hc (by have := (cond k).mp z; omega)), if_neg (fun z => hc ((cond j).mp z))]
    · obtain ⟨y, hy, hk⟩ := wr_ne hw
      have h2 := hlo y hy
      rw [lastD_app hw, if_neg (by rw [cond]; omega), Int.zero_add]
      unfold lastD
      cases q : (wr k r).getLast? with
      | none => exact absurd (List.getLast?_eq_none_iff.mp q) hw
      | some y => rfl
theorem thick_step {L : Lw} (g : GoodL L) {j k : Int} (hjk : j < k) (hn : ∀ y ∈ partsOf L.le L.ps L.pl, (y.1 ≤ j ∨ k ≤ y.1) ∧ (y.2.1 ≤ j ∨ k ≤ y.2.1)) : thickL L k = lastD (wr k (partsOf L.le L.ps L.pl)) (thickL L j) := by
  have hp : ∀ p ∈ L.ps, 1 ≤ p.2 := fun p hp => (g.1.2.2 p hp).2.2.1
  rw [← parts_eq L.ps L.pl hp] at hn ⊢
  rw [← strong_L g, ← strong_L g]
  exact strong_step hjk _ (rise_law L.ps L.pl hp) hn
/-! ### keys that are numbers, no two alike -/
def IKN (kvs : List (Key × V)) : Prop := IK kvs ∧ (kvs.map (·.1)).Nodup
theorem put_keys (kvs : List (Key × V)) (k : Key) (v : V) (h : (kvs.map (·.1)).Nodup) : ((putK kvs k v).map (·.1)).Nodup := by
  unfold putK
  split
  · have e : (kvs.map (fun kv => if kv.1 = k then (kv.1, v) else kv)).map (·.1) = kvs.map (·.1) := by
      rw [List.map_map]
      refine List.map_congr_left fun x _ => ?_
      show (if x.1 = k then (x.1, v) else x).1 = x.1
      split <;> rfl
    rw [e]
    exact h
  · next hn =>
    rw [List.map_append]
    refine List.nodup_append.mpr ⟨h, by simp, fun x hx y hy e => ?_⟩
    simp only [List.map_cons, List.map_nil, List.mem_cons, List.not_mem_nil, or_false] at hy
    obtain ⟨z, hz, ez⟩ := List.mem_map.mp hx
    exact hn (List.any_eq_true.mpr ⟨z, hz, decide_eq_true (by rw [ez, e, hy])⟩)
theorem IKN.put {kvs : List (Key × V)} (h : IKN kvs) (i : Int) (v : V) : IKN (putK kvs (Sum.inl i) v) := ⟨h.1.put i v, put_keys _ _ _ h.2⟩
theorem keys_of {kvs : List (Key × V)} (h : IKN kvs) : ∃ ks : List Int, kvs.map (·.1) = ks.map Sum.inl ∧ ks.length = kvs.length ∧ ks.Nodup ∧ ∀ k, k ∈ ks ↔ ∃ v, valV kvs (Sum.inl k) = some v := by
  obtain ⟨ks, e, hl⟩ := h.1.keys
  refine ⟨ks, e, hl, ?_, fun k => ?_⟩
  · have := h.2
    rw [e] at this
    exact (List.pairwise_map.mp this).imp fun h e => h (congrArg Sum.inl e)
  · have m : k ∈ ks ↔ (Sum.inl k : Key) ∈ kvs.map (·.1) := by
      rw [e]
      constructor
      · exact fun h => List.mem_map.mpr ⟨k, h, rfl⟩
      · intro h
        obtain ⟨x, hx, ex⟩ := List.mem_map.mp h
        cases ex
        exact hx
    rw [m]
    constructor
    · intro hm
      obtain ⟨z, hz, ez⟩ := List.mem_map.mp hm
      cases hv : valV kvs (Sum.inl k) with
      | some v => exact ⟨v, rfl⟩
      | none =>
        have := valV_any (Sum.inl k : Key) kvs
        rw [hv] at this
        have h2 : (kvs.any fun kv => decide (kv.1 = Sum.inl k)) = true := List.any_eq_true.mpr ⟨z, hz, decide_eq_true ez⟩
        rw [h2] at this
        cases this
    · rintro ⟨v, hv⟩
      have := valV_any (Sum.inl k : Key) kvs
      rw [hv] at this
      obtain ⟨z, hz, ez⟩ := List.any_eq_true.mp this
      exact List.mem_map.mpr ⟨z, hz, of_decide_eq_true ez⟩
theorem sorted_strict {ys ks : List Int} (hp : ys.Perm ks) (hs : ys.Pairwise (· ≤ ·)) (hn : ks.Nodup) : ys.Pairwise (· < ·) := by
  have hn' : ys.Nodup := hp.nodup_iff.mpr hn
  exact (hs.and hn').imp fun ⟨h1, h2⟩ => by omega
/-- two lists that rise, with the same members, are one -/
theorem rise_eq : ∀ {xs ys : List Int}, xs.Pairwise (· < ·) → ys.Pairwise (· < ·) → (∀ k, k ∈ xs ↔ k ∈ ys) → xs = ys
  | [], [], _, _, _ => rfl
  | [], y :: r, _, _, h => absurd ((h y).mpr (by simp)) (by simp)
  | x :: r, [], _, _, h => absurd ((h x).mp (by simp)) (by simp)
  | x :: r, y :: s, hx, hy, h => by
    have hx' := List.pairwise_cons.mp hx
    have hy' := List.pairwise_cons.mp hy
    have e : x = y := by
      rcases List.mem_cons.mp ((h x).mp (by simp)) with e | e
      · exact e
      · rcases List.mem_cons.mp ((h y).mpr (by simp)) with e2 | e2
        · exact e2.symm
        · have h1 := hy'.1 x e
          have h2 := hx'.1 y e2
          omega
    subst e
    congr 1
    refine rise_eq hx'.2 hy'.2 fun k => ?_
    constructor
    · intro hk
      rcases List.mem_cons.mp ((h k).mp (by simp [hk])) with e | e
      · have := hx'.1 k hk
        omega
      · exact e
    · intro hk
      rcases List.mem_cons.mp ((h k).mpr (by simp [hk])) with e | e
      · have := hy'.1 k hk
        omega
      · exact e
/-! ### a dict of lists of pairs -/
theorem Tups.dk {H : Hp} {a : Addr} {kvs : List (Key × V)} {o : HO} (h : H a = some (.dK kvs)) : Tups H (upd H a o) := fun c ys e => by
  by_cases n : c = a
  · subst n
    rw [h] at e
    cases e
  · rw [upd_ne n]
    exact e
def DAtK (H0 H : Hp) (d : Addr) (kvs : List (Key × V)) (N : Nat) (ks : Int → Prop) (W : Int → List (Int × Int)) : Prop := H d = some (.dK kvs) ∧ IKN kvs ∧ kvs.length ≤ N ∧ (∀ k, ks k ↔ ∃ v, valV kvs (Sum.inl k) = some v) ∧ (∀ k, ¬ ks k → W k = []) ∧
  (∀ k v, valV kvs (Sum.inl k) = some v → ∃ q as, v = .ref q ∧ H0 q = none ∧ q ≠ d ∧ H q = some (.lst (as.map V.ref)) ∧ TupsAt H as ((W k).map stepV)) ∧ ∀ k k' v, valV kvs (Sum.inl k) = some v → valV kvs (Sum.inl k') = some v → k = k'
theorem DAtK.new {H0 H : Hp} {d : Addr} {kvs : List (Key × V)} {N : Nat} {ks : Int → Prop} {W : Int → List (Int × Int)} (h : DAtK H0 H d kvs N ks W) {z : Addr} {o : HO} (n : H z = none) : DAtK H0 (upd H z o) d kvs N ks W := by
  obtain ⟨h1, h2, h3, h4, h5, h6, h7⟩ := h
  refine ⟨?_, h2, h3, h4, h5, fun k v e => ?_, h7⟩
  · rw [upd_ne (ne_of_none h1 n)]
    exact h1
  · obtain ⟨q, as, e1, e2, e3, e4, e5⟩ := h6 k v e
    refine ⟨q, as, e1, e2, e3, ?_, e5.mono (Tups.new n)⟩
    rw [upd_ne (ne_of_none e4 n)]
    exact e4
/-- a new key, its list empty -/
theorem DAtK.put {H0 H : Hp} {d : Addr} {kvs : List (Key × V)} {N : Nat} {ks : Int → Prop} {W : Int → List (Int × Int)} (h : DAtK H0 H d kvs N ks W) {z : Addr} {k : Int} (ez : H z = some (.lst [])) (nz : H0 z = none) (zf : ∀ k v, valV kvs (Sum.inl k) = some v → v ≠ .ref z) (nk : valV kvs (Sum.inl k) = none) :
    DAtK H0 (upd H d (.dK (putK kvs (Sum.inl k) (.ref z)))) d (putK kvs (Sum.inl k) (.ref z)) (N + 1) (fun x => ks x ∨ x = k) W := by
  obtain ⟨h1, h2, h3, h4, h5, h6, h7⟩ := h
  have zd : z ≠ d := fun e => by
    rw [e, h1] at ez
    cases ez
  have vp : ∀ x : Int, valV (putK kvs (Sum.inl k) (.ref z)) (Sum.inl x) = if x = k then some (.ref z) else valV kvs (Sum.inl x) := fun x => by
    rw [valV_put]
    by_cases e : x = k
    · rw [if_pos e, if_pos (by rw [e])]
    · rw [if_neg e, if_neg (fun q => e (Sum.inl.inj q))]
  have wk : W k = [] := h5 k fun z => by
    obtain ⟨v, e⟩ := (h4 k).mp z
    rw [nk] at e
    cases e
  refine ⟨upd_same, h2.put k _, Nat.le_trans (length_putK _ _ _) (Nat.succ_le_succ h3), fun x => ?_, fun x n => h5 x fun y => n (.inl y), fun x v e => ?_, fun x y v e e' => ?_⟩
  · rw [vp]
    by_cases e : x = k
    · rw [if_pos e]
      exact ⟨fun _ => ⟨_, rfl⟩, fun _ => .inr e⟩
    · rw [if_neg e, ← h4]
      exact ⟨fun y => y.resolve_right e, .inl⟩
  · rw [vp] at e
    by_cases n : x = k
    · rw [if_pos n] at e
      cases e
      refine ⟨z, [], rfl, nz, zd, ?_, ?_⟩
      · rw [upd_ne zd]
        exact ez
      · rw [n, wk]
        exact TupsAt.nil
    · rw [if_neg n] at e
      obtain ⟨q, as, e1, e2, e3, e4, e5⟩ := h6 x v e
      refine ⟨q, as, e1, e2, e3, ?_, e5.mono (Tups.dk h1)⟩
      rw [upd_ne e3]
      exact e4
  · rw [vp] at e e'
    by_cases n : x = k
    · rw [if_pos n] at e
      cases e
      by_cases n' : y = k
      · rw [n, n']
      · rw [if_neg n'] at e'
        exact absurd rfl (zf y _ e')
    · rw [if_neg n] at e
      by_cases n' : y = k
      · rw [if_pos n'] at e'
        cases e'
        exact absurd rfl (zf x _ e)
      · rw [if_neg n'] at e'
        exact h7 x y v e e'
/-- a pair more in a key's list -/
theorem DAtK.app {H0 H : Hp} {d : Addr} {kvs : List (Key × V)} {N : Nat} {ks : Int → Prop} {W : Int → List (Int × Int)} (h : DAtK H0 H d kvs N ks W) {k : Int} {q c : Addr} {as : List Addr} {p : Int × Int} (eq : valV kvs (Sum.inl k) = some (.ref q)) (el : H q = some (.lst (as.map V.ref))) (et : TupsAt H as ((W k).map stepV)) (ec : H c = some (.tup (stepV p))) :
    DAtK H0 (upd H q (.lst (as.map V.ref ++ [.ref c]))) d kvs N ks (fun x => if x = k then W k ++ [p] else W x) := by
  obtain ⟨h1, h2, h3, h4, h5, h6, h7⟩ := h
  obtain ⟨q', as', e1, _, qd, _, _⟩ := h6 k _ eq
  cases e1
  refine ⟨?_, h2, h3, h4, fun x n => ?_, fun x v e => ?_, h7⟩
  · rw [upd_ne qd.symm]
    exact h1
  · show (if x = k then W k ++ [p] else W x) = []
    rw [if_neg (fun z => n ((h4 x).mpr (by rw [z]; exact ⟨_, eq⟩))), h5 x n]
  · obtain ⟨r, bs, e1, e2, e3, e4, e5⟩ := h6 x v e
    by_cases n : x = k
    · subst n
      have e6 := Option.some.inj (e.symm.trans eq)
      rw [e1] at e6
      cases e6
      refine ⟨q, as ++ [c], e1, e2, e3, ?_, ?_⟩
      · rw [upd_same, List.map_append]
        rfl
      · show TupsAt _ _ ((if x = x then W x ++ [p] else W x).map stepV)
        rw [if_pos rfl, List.map_append]
        exact (et.snoc ec).mono (Tups.ls el)
    · have rq : r ≠ q := fun z => n (h7 x k v e (by rw [e1, z]; exact eq))
      refine ⟨r, bs, e1, e2, e3, ?_, ?_⟩
      · rw [upd_ne rq]
        exact e4
      · show TupsAt _ _ ((if x = k then W k ++ [p] else W x).map stepV)
        rw [if_neg n]
        exact e5.mono (Tups.ls el)
theorem DAtK.congr {H0 H : Hp} {d : Addr} {kvs : List (Key × V)} {N M : Nat} {ks ks' : Int → Prop} {W W' : Int → List (Int × Int)} (h : DAtK H0 H d kvs N ks W) (hn : N ≤ M) (h1 : ∀ k, ks k ↔ ks' k) (h2 : ∀ k, W k = W' k) : DAtK H0 H d kvs M ks' W' := by
  have e1 : ks = ks' := funext fun k => propext (h1 k)
  have e2 : W = W' := funext h2
  subst e1 e2
  exact ⟨h.1, h.2.1, Nat.le_trans h.2.2.1 hn, h.2.2.2⟩
def Wall (k : Int) : Nat → List Lw → List (Int × Int)
  | _, [] => []
  | n, L :: r => (wr k (partsOf L.le L.ps L.pl)).map (fun t => ((n : Int), t)) ++ Wall k (n + 1) r
theorem wall_snoc (k : Int) (L : Lw) : ∀ (Ls : List Lw) (n : Nat), Wall k n (Ls ++ [L]) = Wall k n Ls ++ (wr k (partsOf L.le L.ps L.pl)).map fun t => (((n + Ls.length : Nat) : Int), t)
  | [], n => by
    show _ ++ [] = [] ++ _
    rw [List.append_nil]
    rfl
  | M :: r, n => by
    show _ ++ Wall k (n + 1) (r ++ [L]) = (_ ++ Wall k (n + 1) r) ++ _
    rw [wall_snoc k L r (n + 1), List.append_assoc, List.length_cons, show n + 1 + r.length = n + (r.length + 1) by omega]
theorem wr_snoc (k s e t : Int) : ∀ qs : List (Int × Int × Int), wr k (qs ++ [(s, e, t)]) = wr k qs ++ ((if s = k then [t] else []) ++ (if e = k then [0] else []))
  | [] => by
    show _ ++ _ ++ [] = [] ++ _
    rw [List.append_nil]
    rfl
  | (a, b, c) :: r => by
    show _ ++ _ ++ wr k (r ++ [(s, e, t)]) = _ ++ _ ++ wr k r ++ _
    rw [wr_snoc k s e t r, List.append_assoc _ (wr k r)]
theorem wr_len (k : Int) : ∀ qs : List (Int × Int × Int), (wr k qs).length ≤ 2 * qs.length
  | [] => Nat.le_refl _
  | (a, b, c) :: r => by
    have := wr_len k r
    show ((if a = k then [c] else []) ++ (if b = k then [0] else []) ++ wr k r).length ≤ 2 * (r.length + 1)
    rw [List.length_append, List.length_append]
    have h1 : (if a = k then [c] else []).length ≤ 1 := by split <;> simp
    have h2 : (if b = k then [(0 : Int)] else []).length ≤ 1 := by split <;> simp
    omega
theorem wall_len (k : Int) : ∀ (Ls : List Lw) (n : Nat), (∀ L ∈ Ls, GoodL L) → (Wall k n Ls).length ≤ 20 * Ls.length
  | [], _, _ => Nat.le_refl _
  | L :: r, n, g => by
    have h1 := wall_len k r (n + 1) fun M h => g M (by simp [h])
    have h2 := wr_len k (partsOf L.le L.ps L.pl)
    have h3 := part_len (le := L.le) L.ps L.pl
    have h4 := (g L (by simp)).1.2.1
    show ((wr k (partsOf L.le L.ps L.pl)).map (fun t => ((n : Int), t)) ++ Wall k (n + 1) r).length ≤ 20 * (r.length + 1)
    rw [List.length_append, List.length_map]
    omega
def Keys (Ls : List Lw) (k : Int) : Prop := k = 0 ∨ ∃ L ∈ Ls, ∃ y ∈ partsOf L.le L.ps L.pl, y.1 = k ∨ y.2.1 = k
def spChanges : Sp := fun vs H Q _ => ∃ (a : Addr) (Ls : List Lw), vs = [.ref a] ∧ StrandAt H a Ls ∧ Ls.length ≤ 60 ∧ (∀ L ∈ Ls, GoodL L) ∧
  ∀ (H' : Hp) (d : Addr) (kvs : List (Key × V)), Same H H' → H d = none → DAtK H H' d kvs 1300 (Keys Ls) (fun k => Wall k 0 Ls) → Q (.ref d) H'
theorem DAtK.same {H0 H H' : Hp} {d : Addr} {kvs : List (Key × V)} {N : Nat} {ks : Int → Prop} {W : Int → List (Int × Int)} (h : DAtK H0 H d kvs N ks W) (s : Same H H') : DAtK H0 H' d kvs N ks W := by
  obtain ⟨h1, h2, h3, h4, h5, h6, h7⟩ := h
  refine ⟨s _ _ h1, h2, h3, h4, h5, fun k v e => ?_, h7⟩
  obtain ⟨q, as, e1, e2, e3, e4, e5⟩ := h6 k v e
  exact ⟨q, as, e1, e2, e3, s _ _ e4, e5.mono (Tups.same s)⟩
theorem hu1 {u c : Nat} (h : u + 64 < c) : u + 1 < c := by omega
/-- what stands behind setdefault(k, []).append((n, t)); o: a list beside it -/
def Aft (H0 H : Hp) (d o : Addr) (xs : List V) (N : Nat) (ks : Int → Prop) (W : Int → List (Int × Int)) (k : Int) (p : Int × Int) (H6 : Hp) : Prop := ∃ kvs6, DAtK H0 H6 d kvs6 (N + 1) (fun x => ks x ∨ x = k) (fun x => if x = k then W k ++ [p] else W x) ∧ Same H0 H6 ∧ Tups H H6 ∧ H6 o = some (.lst xs) ∧ ∀ k v, valV kvs6 (Sum.inl k) = some v → v ≠ .ref o
theorem DAtK.found {H0 H : Hp} {d o : Addr} {xs : List V} {kvs : List (Key × V)} {N : Nat} {ks : Int → Prop} {W : Int → List (Int × Int)} (h : DAtK H0 H d kvs N ks W) (s : Same H0 H) (eo : H o = some (.lst xs)) (nv : ∀ k v, valV kvs (Sum.inl k) = some v → v ≠ .ref o) {Z : Addr} (nZ : H Z = none) {k : Int} {v : V} (hv : valV kvs (Sum.inl k) = some v) (p : Int × Int) :
    ∃ (q : Addr) (as : List Addr), v = .ref q ∧ upd H Z (.lst []) q = some (.lst (as.map V.ref)) ∧ as.length = (W k).length ∧ ∀ P, upd H Z (.lst []) P = none → Aft H0 H d o xs N ks W k p (upd (upd (upd H Z (.lst [])) P (.tup (stepV p))) q (.lst (as.map V.ref ++ [.ref P]))) := by
  have hZ := h.new (o := .lst []) nZ
  obtain ⟨q, as, rfl, n0, qd, el, et⟩ := hZ.2.2.2.2.2.1 k v hv
  refine ⟨q, as, rfl, el, ?_, fun P nP => ⟨kvs, ?_, ?_, ?_, ?_, nv⟩⟩
  · rw [et.1, List.length_map]
  · have hP := hZ.new (o := .tup (stepV p)) nP
    refine (hP.app hv ((upd_ne (ne_of_none el nP)).trans el) (et.mono (Tups.new nP)) upd_same).congr (Nat.le_succ _) (fun x => ⟨.inl, fun z => z.elim id fun z => ?_⟩) fun _ => rfl
    rw [z]
    exact (h.2.2.2.1 k).mpr ⟨_, hv⟩
  · exact same_mine (same_new (same_new s nZ) nP) n0
  · exact ((Tups.new nZ).trans (Tups.new nP)).trans (Tups.ls ((upd_ne (ne_of_none el nP)).trans el))
  · have oq : o ≠ q := fun z => nv k _ hv (by rw [z])
    have eZ : upd H Z (.lst []) o = some (.lst xs) := (upd_ne (ne_of_none eo nZ)).trans eo
    rw [upd_ne oq, upd_ne (ne_of_none eZ nP)]
    exact eZ
theorem DAtK.fresh {H0 H : Hp} {d o : Addr} {xs : List V} {kvs : List (Key × V)} {N : Nat} {ks : Int → Prop} {W : Int → List (Int × Int)} (h : DAtK H0 H d kvs N ks W) (s : Same H0 H) (nd : H0 d = none) (eo : H o = some (.lst xs)) (nv : ∀ k v, valV kvs (Sum.inl k) = some v → v ≠ .ref o) {Z : Addr} (nZ : H Z = none) {k : Int} (hn : valV kvs (Sum.inl k) = none) (p : Int × Int) :
    upd (upd H Z (.lst [])) d (.dK (putK kvs (Sum.inl k) (.ref Z))) Z = some (.lst []) ∧ ∀ P, upd (upd H Z (.lst [])) d (.dK (putK kvs (Sum.inl k) (.ref Z))) P = none → Aft H0 H d o xs N ks W k p (upd (upd (upd (upd H Z (.lst [])) d (.dK (putK kvs (Sum.inl k) (.ref Z)))) P (.tup (stepV p))) Z (.lst ([] ++ [.ref P]))) := by
  have hZ := h.new (o := .lst []) nZ
  have dZ : d ≠ Z := ne_of_none h.1 nZ
  have zf : ∀ k v, valV kvs (Sum.inl k) = some v → v ≠ .ref Z := fun k v e z => by
    obtain ⟨q, as, e1, _, _, e4, _⟩ := h.2.2.2.2.2.1 k v e
    rw [z] at e1
    cases e1
    rw [nZ] at e4
    cases e4
  have nZ0 : H0 Z = none := s.free nZ
  have hp := hZ.put (k := k) upd_same nZ0 zf hn
  have eZ : upd (upd H Z (.lst [])) d (.dK (putK kvs (Sum.inl k) (.ref Z))) Z = some (.lst []) := by
    rw [upd_ne dZ.symm]
    exact upd_same
  have vk : ∀ x : Int, valV (putK kvs (Sum.inl k) (.ref Z)) (Sum.inl x) = if x = k then some (.ref Z) else valV kvs (Sum.inl x) := fun x => by
    rw [valV_put]
    by_cases e : x = k
    · rw [if_pos e, if_pos (by rw [e])]
    · rw [if_neg e, if_neg (fun q => e (Sum.inl.inj q))]
  have wk : W k = [] := h.2.2.2.2.1 k fun z => by
    obtain ⟨v, e⟩ := (h.2.2.2.1 k).mp z
    rw [hn] at e
    cases e
  refine ⟨eZ, fun P nP => ⟨putK kvs (Sum.inl k) (.ref Z), ?_, ?_, ?_, ?_, ?_⟩⟩
  · have hP := hp.new (o := .tup (stepV p)) nP
    exact hP.app (as := []) (k := k) (by rw [vk, if_pos rfl]) ((upd_ne (ne_of_none eZ nP)).trans eZ) (by rw [wk]; exact TupsAt.nil) upd_same
  · exact same_mine (same_new (same_mine (same_new s nZ) nd) nP) nZ0
  · exact (((Tups.new nZ).trans (Tups.dk hZ.1)).trans (Tups.new nP)).trans (Tups.ls ((upd_ne (ne_of_none eZ nP)).trans eZ))
  · have e1 : upd H Z (.lst []) o = some (.lst xs) := (upd_ne (ne_of_none eo nZ)).trans eo
    have od : o ≠ d := fun z => by
      rw [z, h.1] at eo
      cases eo
    have e2 : upd (upd H Z (.lst [])) d (.dK (putK kvs (Sum.inl k) (.ref Z))) o = some (.lst xs) := (upd_ne od).trans e1
    rw [upd_ne (ne_of_none eo nZ), upd_ne (ne_of_none e2 nP)]
    exact e2
  · intro x v e z
    rw [vk] at e
    by_cases n : x = k
    · rw [if_pos n, z] at e
      cases e
      rw [nZ] at eo
      cases eo
    · rw [if_neg n] at e
      exact nv x v e z
/-! ### stretches: places, what is there -/
def Places (Ls : List Lw) (ys : List Int) : Prop := ys.Pairwise (· < ·) ∧ (∀ k, k ∈ ys ↔ Keys Ls k) ∧ ys.length ≤ 1300
def SegAt (H : Hp) (a : Addr) (Ls : List Lw) (s e : Int) : Prop := ∃ n t, H a = some (.tup [.int s, .int e, .ref n, .ref t]) ∧ H n = some (.tup ((numsFrom 0 (Ls.map fun L => thickL L s)).map V.int)) ∧ H t = some (.tup [.int (s0 Ls s), .int (s1 Ls s)])
theorem SegAt.mono {H H' : Hp} {a : Addr} {Ls : List Lw} {s e : Int} (h : SegAt H a Ls s e) (t : Tups H H') : SegAt H' a Ls s e := by
  obtain ⟨n, u, h1, h2, h3⟩ := h
  exact ⟨n, u, t _ _ h1, t _ _ h2, t _ _ h3⟩
def SegsAt (H : Hp) (as : List Addr) (Ls : List Lw) (ps : List (Int × Int)) : Prop := as.length = ps.length ∧ ∀ (i : Nat) (a : Addr), as[i]? = some a → ∃ s e, ps[i]? = some (s, e) ∧ SegAt H a Ls s e
theorem SegsAt.mono {H H' : Hp} {as : List Addr} {Ls : List Lw} {ps : List (Int × Int)} (h : SegsAt H as Ls ps) (t : Tups H H') : SegsAt H' as Ls ps := ⟨h.1, fun i a e => by
  obtain ⟨s, e', h1, h2⟩ := h.2 i a e
  exact ⟨s, e', h1, h2.mono t⟩⟩
theorem SegsAt.nil {H : Hp} {Ls : List Lw} : SegsAt H [] Ls [] := ⟨rfl, fun i a h => by simp at h⟩
theorem SegsAt.snoc {H : Hp} {as : List Addr} {Ls : List Lw} {ps : List (Int × Int)} {a : Addr} {s e : Int} (h : SegsAt H as Ls ps) (g : SegAt H a Ls s e) : SegsAt H (as ++ [a]) Ls (ps ++ [(s, e)]) := by
  refine ⟨by rw [List.length_append, List.length_append, h.1]; rfl, fun i b hb => ?_⟩
  by_cases hi : i < as.length
  · rw [List.getElem?_append_left hi] at hb
    obtain ⟨s', e', h1, h2⟩ := h.2 i b hb
    exact ⟨s', e', by rw [List.getElem?_append_left (by rw [← h.1]; exact hi)]; exact h1, h2⟩
  · rw [List.getElem?_append_right (by omega)] at hb
    have hz : i - as.length = 0 := by
      cases hk : i - as.length with
      | zero => rfl
      | succ n =>
        rw [hk] at hb
        simp at hb
    rw [hz] at hb
    have : a = b := Option.some.inj hb
    subst this
    refine ⟨s, e, ?_, g⟩
    rw [List.getElem?_append_right (by rw [← h.1]; omega), ← h.1, hz]
    rfl
abbrev pairs (ys : List Int) : List (Int × Int) := ys.zip (ys.drop 1)
def spStretches : Sp := fun vs H Q _ => ∃ (a : Addr) (Ls : List Lw), vs = [.ref a] ∧ StrandAt H a Ls ∧ Ls.length ≤ 60 ∧ (∀ L ∈ Ls, GoodL L) ∧
  ∀ (H' : Hp) (o : Addr) (as : List Addr) (ys : List Int), Same H H' → H o = none → H' o = some (.tup (as.map V.ref)) → SegsAt H' as Ls (pairs ys) → Places Ls ys → Q (.ref o) H'
/-- what is written, one behind the other -/
def wrt (xs : List Int) (ws : List (Int × Int)) : List Int := ws.foldl (fun xs p => xs.set p.1.toNat p.2) xs
theorem wrt_snoc (xs : List Int) (ws : List (Int × Int)) (p : Int × Int) : wrt xs (ws ++ [p]) = (wrt xs ws).set p.1.toNat p.2 := by
  unfold wrt
  rw [List.foldl_append]
  rfl
theorem wrt_len (xs : List Int) (ws : List (Int × Int)) : (wrt xs ws).length = xs.length := by
  unfold wrt
  induction ws generalizing xs with
  | nil => rfl
  | cons p r ih =>
    show (List.foldl _ (xs.set p.1.toNat p.2) r).length = _
    rw [ih, List.length_set]
theorem wrt_one (x : Int) (ys pre : List Int) : ∀ (ts : List Int) (x : Int), wrt (pre ++ x :: ys) (ts.map fun t => ((pre.length : Int), t)) = pre ++ lastD ts x :: ys
  | [], x => rfl
  | t :: r, x => by
    show wrt ((pre ++ x :: ys).set ((pre.length : Int)).toNat t) (r.map fun t => ((pre.length : Int), t)) = _
    have e : (pre ++ x :: ys).set ((pre.length : Int)).toNat t = pre ++ t :: ys := by
      rw [Int.toNat_natCast, List.set_append_right _ _ (Nat.le_refl _), Nat.sub_self]
      rfl
    rw [e, wrt_one x ys pre r t]
    congr 2
    unfold lastD
    cases r with
    | nil => rfl
    | cons u s =>
      rw [List.getLast?_cons_cons]
      have hne : (u :: s).getLast? = some ((u :: s).getLast (by simp)) := List.getLast?_eq_some_getLast (by simp)
      rw [hne]
      rfl
theorem wrt_app (xs : List Int) (u v : List (Int × Int)) : wrt xs (u ++ v) = wrt (wrt xs u) v := by
  unfold wrt
  rw [List.foldl_append]
theorem wrt_all (k j : Int) : ∀ (Ls : List Lw) (pre : List Int) (n : Nat), pre.length = n → (∀ L ∈ Ls, thickL L k = lastD (wr k (partsOf L.le L.ps L.pl)) (thickL L j)) → wrt (pre ++ Ls.map fun L => thickL L j) (Wall k n Ls) = pre ++ Ls.map fun L => thickL L k
  | [], pre, n, _, _ => rfl
  | L :: r, pre, n, hn, h => by
    show wrt (pre ++ thickL L j :: r.map fun L => thickL L j) ((wr k (partsOf L.le L.ps L.pl)).map (fun t => ((n : Int), t)) ++ Wall k (n + 1) r) = pre ++ thickL L k :: r.map fun L => thickL L k
    rw [wrt_app, ← hn, wrt_one 0, ← h L (by simp)]
    have ih := wrt_all k j r (pre ++ [thickL L k]) (pre.length + 1) (by rw [List.length_append]; rfl) fun M hM => h M (by simp [hM])
    rw [List.append_assoc, List.append_assoc] at ih
    exact ih
theorem keys_nonneg {Ls : List Lw} (g : ∀ L ∈ Ls, GoodL L) {k : Int} (h : Keys Ls k) : 0 ≤ k := by
  rcases h with h | ⟨L, hL, y, hy, h⟩
  · omega
  · have gL := g L hL
    have hp : ∀ p ∈ L.ps, 1 ≤ p.2 := fun p hp => (gL.1.2.2 p hp).2.2.1
    rw [← parts_eq L.ps L.pl hp] at hy
    have h1 := law_mem L.ps L.pl hp y hy
    have h2 := gL.2.2.2.1
    omega
theorem places_step {Ls : List Lw} (g : ∀ L ∈ Ls, GoodL L) {ys : List Int} (hp : Places Ls ys) {j k : Int} (hjk : j < k) (hn : ∀ y ∈ ys, y ≤ j ∨ k ≤ y) : ∀ L ∈ Ls, thickL L k = lastD (wr k (partsOf L.le L.ps L.pl)) (thickL L j) := fun L hL =>
  thick_step (g L hL) hjk fun y hy => ⟨hn _ ((hp.2.1 _).mpr (.inr ⟨L, hL, y, hy, .inl rfl⟩)), hn _ ((hp.2.1 _).mpr (.inr ⟨L, hL, y, hy, .inr rfl⟩))⟩
theorem thick_ahead {L : Lw} (g : GoodL L) : thickL L (-1) = 0 := by
  unfold thickL
  have := g.2.2.2.1
  rw [if_pos (by omega)]
theorem places_zero {Ls : List Lw} (g : ∀ L ∈ Ls, GoodL L) {ys : List Int} (hp : Places Ls ys) : ∃ r, ys = 0 :: r := by
  cases ys with
  | nil => exact absurd ((hp.2.1 0).mpr (.inl rfl)) (by simp)
  | cons y r =>
    have h1 := keys_nonneg g ((hp.2.1 y).mp (by simp))
    rcases List.mem_cons.mp ((hp.2.1 0).mpr (.inl rfl)) with e | e
    · exact ⟨r, by rw [← e]⟩
    · have h2 := (List.pairwise_cons.mp hp.1).1 0 e
      omega
/-- the place ahead of the i-th -/
def prevOf (ys : List Int) (i : Nat) : Int := if i = 0 then -1 else ys.getD (i - 1) 0
theorem prev_lt {Ls : List Lw} (g : ∀ L ∈ Ls, GoodL L) {ys : List Int} (hp : Places Ls ys) {i : Nat} {k : Int} (hk : ys[i]? = some k) : prevOf ys i < k ∧ ∀ y ∈ ys, y ≤ prevOf ys i ∨ k ≤ y := by
  have hi : i < ys.length := (List.getElem?_eq_some_iff.mp hk).1
  have ek : ys[i] = k := (List.getElem?_eq_some_iff.mp hk).2
  have srt := List.pairwise_iff_getElem.mp hp.1
  unfold prevOf
  by_cases h0 : i = 0
  · subst h0
    rw [if_pos rfl]
    have h1 := keys_nonneg g ((hp.2.1 k).mp (List.mem_of_getElem? hk))
    refine ⟨by omega, fun y hy => ?_⟩
    obtain ⟨m, hm, rfl⟩ := List.getElem_of_mem hy
    by_cases hm0 : m = 0
    · subst hm0
      right
      omega
    · have := srt 0 m hi hm (by omega)
      right
      omega
  · rw [if_neg h0, List.getD_eq_getElem?_getD, List.getElem?_eq_getElem (show i - 1 < ys.length by omega)]
    have h1 := srt (i - 1) i (by omega) hi (by omega)
    refine ⟨by simp only [Option.getD_some]; omega, fun y hy => ?_⟩
    simp only [Option.getD_some]
    obtain ⟨m, hm, rfl⟩ := List.getElem_of_mem hy
    by_cases h2 : m ≤ i - 1
    · left
      by_cases h3 : m = i - 1
      · subst h3
        exact Int.le_refl _
      · have := srt m (i - 1) hm (by omega) (by omega)
        omega
    · right
      by_cases h3 : m = i
      · subst h3
        omega
      · have := srt i m hi hm (by omega)
        omega
theorem prev_succ {ys : List Int} {i : Nat} {k : Int} (hk : ys[i]? = some k) : prevOf ys (i + 1) = k := by
  unfold prevOf
  rw [if_neg (by omega), Nat.add_sub_cancel, List.getD_eq_getElem?_getD, hk]
  rfl
theorem pairs_take {ys : List Int} {i : Nat} {s e : Int} (h1 : ys[i]? = some s) (h2 : (ys.drop 1)[i]? = some e) : (pairs ys).take (i + 1) = (pairs ys).take i ++ [(s, e)] := by
  rw [List.take_add_one]
  have : (pairs ys)[i]? = some (s, e) := by
    rw [List.getElem?_zip_eq_some]
    exact ⟨h1, h2⟩
  rw [this]
  rfl
theorem wall_num (k : Int) : ∀ (Ls : List Lw) (n : Nat) (p : Int × Int), p ∈ Wall k n Ls → ∃ m : Nat, m < n + Ls.length ∧ p.1 = m
  | [], _, p, h => by cases h
  | L :: r, n, p, h => by
    have h : p ∈ (wr k (partsOf L.le L.ps L.pl)).map (fun t => ((n : Int), t)) ++ Wall k (n + 1) r := h
    rcases List.mem_append.mp h with h | h
    · obtain ⟨t, _, rfl⟩ := List.mem_map.mp h
      exact ⟨n, by rw [List.length_cons]; omega, rfl⟩
    · obtain ⟨m, hm, e⟩ := wall_num k r (n + 1) p h
      exact ⟨m, by rw [List.length_cons]; omega, e⟩
theorem ixN_at {n j : Nat} (h : j < n) : ixN n (j : Int) = some j := by
  unfold ixN
  rw [if_pos (Int.natCast_nonneg j), if_pos (Int.ofNat_lt.mpr h), Int.toNat_natCast]
/-! ### a pot of three numbers: the great number at hand, the seed, how many were drawn -/
def PotC (H : Hp) (p : Addr) (T : Nat) : Prop := ∃ (c m : Int) (t : Nat), H p = some (.lst [.int c, .int m, .int (t : Int)]) ∧ 0 ≤ c ∧ 0 ≤ m ∧ m < 2 ^ 62 ∧ t ≤ T
theorem PotC.mono {H : Hp} {p : Addr} {T U : Nat} (h : PotC H p T) (e : T ≤ U) : PotC H p U := by
  obtain ⟨c, m, t, h1, h2, h3, h4, h5⟩ := h
  exact ⟨c, m, t, h1, h2, h3, h4, Nat.le_trans h5 e⟩
theorem PotC.new {H : Hp} {p a : Addr} {T : Nat} {o : HO} (h : PotC H p T) (n : H a = none) : PotC (upd H a o) p T := by
  obtain ⟨c, m, t, h1, h2⟩ := h
  exact ⟨c, m, t, by rw [upd_ne (ne_of_none h1 n)]; exact h1, h2⟩
theorem PotC.other {H : Hp} {p a : Addr} {T : Nat} {o : HO} (h : PotC H p T) (n : a ≠ p) : PotC (upd H a o) p T := by
  obtain ⟨c, m, t, h1, h2⟩ := h
  exact ⟨c, m, t, by rw [upd_ne n.symm]; exact h1, h2⟩
theorem PotC.notP {H : Hp} {p a : Addr} {T : Nat} {xs : List V} (h : PotC H p T) (e : H a = some (.tup xs)) : a ≠ p := by
  obtain ⟨c, m, t, h1, h2⟩ := h
  exact ne_of e h1 (by intro z; cases z)
theorem PotC.fresh {H : Hp} {p a : Addr} {T : Nat} (h : PotC H p T) (e : H a = none) : a ≠ p := by
  obtain ⟨c, m, t, h1, h2⟩ := h
  exact (ne_of_none h1 e).symm
theorem PotC.same {H H' : Hp} {p : Addr} {T : Nat} (h : PotC H p T) (e : Same H H') : PotC H' p T := by
  obtain ⟨c, m, t, h1, h2⟩ := h
  exact ⟨c, m, t, e _ _ h1, h2⟩
theorem Keep.tupsC {p : Addr} {H H' : Hp} {T : Nat} (k : Keep p p H H') (h : PotC H p T) : Tups H H' := fun a xs e => k a _ (h.notP e) (h.notP e) e
theorem Keep.freeC {p a : Addr} {H H' : Hp} {T : Nat} (k : Keep p p H H') (hp : PotC H' p T) (h : H' a = none) : H a = none := by
  have n := hp.fresh h
  cases q : H a with
  | none => rfl
  | some o =>
    rw [k a o n n q] at h
    cases h
theorem Keep.at {p a : Addr} {H H' : Hp} {o : HO} (k : Keep p p H H') (n : a ≠ p) (e : H a = some o) : H' a = some o := k a o n n e
def spBeginC (K : PySem.W.Frag) : Sp := fun vs H Q _ => ∃ (a : Addr) (ns : List Int) (i : Int), vs = [.ref a, .int i] ∧ SqL K H a (ns.map V.int) ∧ ns.length ≤ 63 ∧ 0 ≤ i ∧ i < 1000 ∧
  ∀ H' p, Same H H' → H p = none → PotC H' p 0 → Q (.ref p) H'
def spTakeC : Sp := fun vs H Q _ => ∃ (p : Addr) (T : Nat) (many : Int), vs = [.ref p, .int many] ∧ PotC H p T ∧ T < 2 ^ 40 ∧ CDivW 0 many ∧
  ∀ d H', 0 ≤ d → d < many → PotC H' p (T + 1) → Keep p p H H' → Q (.int d) H'
theorem wdiv {b : Int} (h : 0 < b) (h1 : b < 2 ^ 250) : CDivW 0 b := wide_div (b := 250) h (by
  have : (b.natAbs : Int) = b := by omega
  have h2 : (b.natAbs : Int) < ((2 ^ 250 : Nat) : Int) := by rw [this]; exact h1
  exact Int.ofNat_lt.mp h2) (by decide) (by decide)
theorem wmul {i j : Int} (h0 : 0 ≤ i) (h1 : i < 2 ^ 250) (h2 : 0 ≤ j) (h3 : j < 2 ^ 250) : CMulW i j := by
  refine wide_mul (a := 250) (b := 250) ?_ ?_ (by decide) (by decide) (by decide)
  · have e : (i.natAbs : Int) = i := by omega
    have h : (i.natAbs : Int) < ((2 ^ 250 : Nat) : Int) := by rw [e]; exact h1
    exact Int.ofNat_lt.mp h
  · have e : (j.natAbs : Int) = j := by omega
    have h : (j.natAbs : Int) < ((2 ^ 250 : Nat) : Int) := by rw [e]; exact h3
    exact Int.ofNat_lt.mp h
theorem Keep.from {p : Addr} {H H1 H2 : Hp} (k : Keep p p H1 H2) (s : Same H H1) (np : H p = none) : Same H H2 := fun b o e => k b o (ne_of_none e np) (ne_of_none e np) (s b o e)
theorem pairD {K : PySem.W.Frag} {H : Hp} {a : Addr} {i j : Int} (h : H a = some (.tup [.int i, .int j])) : Dp K H (.ref a) (.tuple [.int i, .int j]) := .tup (SqT.of h) (.cons (.int _) (.cons (.int _) .nil))
/-! ### sum of a tuple, list(range(n)) -/
section
variable {X : Cx}
theorem tup_total {prog : Program} {w : World} {A : Around} {E : Value → Shared → Prop} {s : Shared} {l : Addr} {xs : Array (Int × Tok)} {Q : Value → Shared → Prop} (hh : A.handled = none) (hl : s.heap.IsTuple l (intItems xs))
    (h : ∀ h' tk t', (∀ b o, s.heap.get? b = some o → h'.get? b = some o) → Q (.int (preSum (numAt xs) xs.size) t') { s with heap := h', toks := tk }) : wpAny (model prog w) A (call (.builtin "sum") [.ref l]) Q E s := by
  have lt : l < s.heap.objs.size := by
    obtain ⟨o, e, _⟩ := hl
    exact Heap.lt_size e
  have nn : (s.heap.push { cls := .type "tuple_iterator", data := .fields #[.ref l, .int 0 0] }).objs.size = s.heap.objs.size + 1 := Heap.size_push _ _
  refine call_sum_walkG (wpAny_pyIter_tuple hl ⟨_, _, _, _, _, _, numAt xs, rfl, Walks.tuple (A := A.in1) hh _ l (Nat.ne_of_lt lt) (intItems xs), ⟨⟨_, Heap.get?_push_size _ rfl, rfl, rfl⟩, ?_⟩, fun b hb => ?_, (fun _ _ => intItems_at), fun h' tk t' hk => ?_⟩)
  · obtain ⟨o, e, r⟩ := hl
    exact ⟨o, Heap.get?_push_of_some _ e, r⟩
  · show b < (s.heap.push { cls := .type "tuple_iterator", data := .fields #[.ref l, .int 0 0] }).objs.size
    rw [nn]
    simp only [List.mem_cons, List.not_mem_nil, or_false] at hb
    rcases hb with rfl | rfl
    · exact Nat.lt_succ_self _
    · exact Nat.lt_succ_of_lt lt
  · have z := h h' tk t' fun b o e => hk b o (fun hm => by
      simp only [List.mem_cons, List.not_mem_nil, or_false] at hm
      rw [hm] at e
      exact absurd (Heap.lt_size e) (Nat.lt_irrefl _)) (Heap.get?_push_of_some _ e)
    simpa [intItems] using z
theorem cr_sumT (hc : X.calm = true) : CallR X (.builtin "sum") (fun vs H Q => ∃ (a : Addr) (ns : List Int), vs = [V.ref a] ∧ SqT X.K H a (ns.map V.int) ∧ Q (.int ns.sum) H) := by
  intro pins s σ H vs us Q I r h
  obtain ⟨a, ns, rfl, hs, q⟩ := h
  obtain ⟨its, rv, hl, _⟩ := I.tuple hs
  rw [Vals.ref1 r]
  obtain ⟨xs, e⟩ := rv.ints.allInts.items
  have hn : numsOf (intItems xs).toList = ns := by rw [← e]; exact rv.ints.numsOf
  rw [nums_intItems] at hn
  rw [e] at hl
  refine tup_total (I.ok.hd hc) hl fun h' tk t' hk => ?_
  rw [preSum_eq, List.take_of_length_le (by simp), hn]
  exact ⟨.int _, H, I.kept hk, ⟨_, rfl⟩, q⟩
theorem cr_rangeN : CallR X (.type "range") (fun vs H Q => ∃ j, vs = [V.int j] ∧ ∀ p, H p = none → Q (.ref p) (upd H p (.rng 0 j))) := by
  intro pins s σ H vs us Q I r h
  obtain ⟨j, rfl, q⟩ := h
  obtain ⟨u, rfl, ⟨t, rfl⟩⟩ := vals1 r
  refine call_range_1 ⟨.ref s.heap.objs.size, upd H s.heap.objs.size (.rng 0 j), I.laid (t' := s.toks + 1 + 1) (fun b o e => Heap.get?_push_of_some _ e) (Nat.le_refl _) ?_, rfl, q _ (I.hok.fresh (Nat.le_refl _))⟩
  exact ⟨s.toks, t, s.toks + 1, Heap.get?_push_size _ rfl⟩
def upTo (n : Nat) : List Int := (List.range n).map fun (i : Nat) => (i : Int)
theorem vals_upTo : ∀ (n : Nat) (vs : List Value), vs.length = n → (∀ (j : Nat) (v : Value), vs[j]? = some v → ∃ t, v = .int ((j : Nat) : Int) t) → Vals ((upTo n).map V.int) vs := by
  intro n
  induction n with
  | zero =>
    intro vs hl _
    cases vs with
    | nil => exact .nil
    | cons x r => cases hl
  | succ n ih =>
    intro vs hl hv
    have hne : vs ≠ [] := fun e => by rw [e] at hl; cases hl
    have e := List.dropLast_concat_getLast hne
    have h1 := ih vs.dropLast (by rw [List.length_dropLast, hl]; rfl) (fun j v hj => hv j v (by
      rw [← e]
      rw [List.getElem?_append_left (List.getElem?_eq_some_iff.mp hj).1]
      exact hj))
    obtain ⟨t, et⟩ := hv n (vs.getLast hne) (by
      rw [List.getLast_eq_getElem]
      have : vs.length - 1 = n := by omega
      simp only [this]
      exact List.getElem?_eq_getElem (by omega))
    have e2 : upTo (n + 1) = upTo n ++ [(n : Int)] := by
      unfold upTo
      rw [List.range_succ, List.map_append]
      rfl
    rw [e2, List.map_append, ← e]
    exact Vals.append h1 (.cons ⟨t, et⟩ .nil)
theorem call_listR (hc : X.calm = true) : CallR X (.type "list") (fun vs H Q => ∃ (r : Addr) (n : Nat), vs = [.ref r] ∧ H r = some (.rng 0 (n : Int)) ∧ n ≤ 1000 ∧ ∀ l, H l = none → Q (.ref l) (upd H l (.lst ((upTo n).map V.int)))) := by
  intro pins s σ H xs us Q I r h
  obtain ⟨p, n, rfl, hp, hn, q⟩ := h
  obtain ⟨u, rfl, rx⟩ := vals1 r
  cases rx
  obtain ⟨t1, t2, t3, ho⟩ := I.hok p _ hp
  have hsz : Builtin.Range.rangeSize 0 (n : Int) 1 = (n : Int) := by
    rw [rangeSize_one]
    split <;> omega
  refine call_list_range (n := n) (I.ok.hd hc) ho ?_ hsz (by omega) fun h' tk acc' c' hk hS hacc => ?_
  · exact small_one (by decide) (by decide) (by omega) (by omega)
  · have hv : Vals ((upTo n).map V.int) acc'.toList := vals_upTo n acc'.toList (by rw [Array.length_toList]; exact hacc.1) fun j v hj => by
      obtain ⟨t, e⟩ := hacc.2 j v (by rw [← Array.getElem?_toList]; exact hj)
      exact ⟨t, by rw [e]; simp⟩
    refine ⟨.ref s.heap.objs.size, _, I.laid (t' := tk) hk (Nat.le_refl _) (show ObjOk X.prog X.w _ h' _ (.lst ((upTo n).map V.int)) from ⟨?_, acc'.toList, c', hv, by simpa using hS⟩), rfl, q _ (I.hok.fresh (Nat.le_refl _))⟩
    show ((upTo n).map V.int).length ≤ sizeLine
    unfold upTo
    rw [List.length_map, List.length_map, List.length_range]
    exact Nat.le_trans hn (by decide)
end
theorem dpInts {K : PySem.W.Frag} (H : Hp) : ∀ ns : List Int, DpAll K H (ns.map V.int) (ns.map PyData.int)
  | [] => .nil
  | n :: r => .cons (.int n) (dpInts H r)
theorem shInts (ns : List Int) : SeqAt.shaped (.list (ns.map PyData.int)) = true := by
  have h1 : PyData.canLayAll0 (ns.map PyData.int) = true := by
    induction ns with
    | nil => rfl
    | cons n r ih => exact (Bool.and_eq_true_iff.mpr ⟨rfl, ih⟩)
  have h2 : PyData.depthAll (ns.map PyData.int) = 0 := by
    clear h1
    induction ns with
    | nil => rfl
    | cons n r ih =>
      show max 0 (PyData.depthAll (r.map PyData.int)) = 0
      rw [ih]
      rfl
  refine Bool.and_eq_true_iff.mpr ⟨h1, decide_eq_true ?_⟩
  show PyData.depthAll (ns.map PyData.int) + 1 ≤ 64
  rw [h2]
  decide
/-! ### t += u of tuples; defs with defaults -/
theorem noI_tup : typeLookup (.type "tuple") (dunderI "add") = pure none := by
  rw [typeLookup_type, builtinLookup_eq_fast]
  kernel_rfl
section
variable {X : Cx}
theorem ip_catA : PIp X .Add (rCatA X.K) := by
  intro pins s σ H x y v u Q I rx ry h
  obtain ⟨a, b, xs, ys, rfl, rfl, ha, hb, hz, q0, q1, q2⟩ := h
  cases rx
  cases ry
  obtain ⟨vs, r1, p1, _⟩ := I.tuple ha
  obtain ⟨ws, r2, p2, _⟩ := I.tuple hb
  have hzz : vs.length + ws.length ≤ sizeLine := by rw [← r1.length, ← r2.length]; exact hz
  have e : vs.toArray ++ ws.toArray = (vs ++ ws).toArray := by simp
  obtain ⟨⟨cls, dd, data, sl⟩, ho, hc, n, hd⟩ := id p1
  obtain ⟨⟨cls2, dd2, data2, sl2⟩, ho2, hc2, n2, hd2⟩ := id p2
  simp only at hc hd hc2 hd2
  subst hc hd hc2 hd2
  have go : ∀ {S : PySem.Spec}, Meets (Builtin.«tuple.__add__» ⟨[.ref a, .ref b], []⟩) S → S X.A (wants (EP X pins σ Q) X.xe) s → wpAny (model X.prog X.w) X.A (inplaceOp .Add (.ref a) (.ref b)) (EP X pins σ Q) X.xe s := fun g hS =>
    wpAny_inplaceOp_concat ⟨_, ho, rfl⟩ ⟨_, ho2, rfl⟩ noI_tup noFill_tuple_add seq_tuple_add (call_meets PySem.F.slot_tuple_add ⟨_, ho, rfl⟩ PySem.F.entry_tuple_add (PySem.F.args_tuple_add_2 _ _) g hS)
  by_cases hx : vs = []
  · subst hx
    exact go (tuple_addW0 a b ([] : List Value).toArray ws.toArray n n2 dd dd2 sl sl2 (by simp)) ⟨ho, ho2, .ref b, H, I, rfl, q0 (r1.nil_iff.mp rfl)⟩
  · by_cases hy : ws = []
    · exact go (tuple_addW1 a b vs.toArray ws.toArray n n2 dd dd2 sl sl2 (by simpa using hx) (by simp [hy])) ⟨ho, ho2, .ref a, H, I, rfl, q1 (fun z => hx (r1.nil_iff.mpr z)) (r2.nil_iff.mp hy)⟩
    · refine go (tuple_addW2 a b vs.toArray ws.toArray n n2 dd dd2 sl sl2 (by simpa using hx) (by simpa using hy) (by rw [List.size_toArray, List.size_toArray]; exact hzz)) ⟨ho, ho2, ?_⟩
      rw [e]
      refine ⟨.ref s.heap.objs.size, _, I.laid (t' := s.toks) (o := .tup (xs ++ ys)) (fun b ob q => Heap.get?_push_of_some _ q) (Nat.le_refl _) ⟨by rw [List.length_append]; exact hz, _, r1.append r2, IsTup.new _ _⟩, rfl, q2 (fun z => hx (r1.nil_iff.mpr z)) (fun z => hy (r2.nil_iff.mpr z)) _ (I.hok.fresh (Nat.le_refl _))⟩
end
def BD (K : PySem.W.Frag) (fd : FuncData) (ps : List Str) (dvs : List V) : Prop := ∃ ds, Vals dvs ds ∧ Binds K fd ps ds
theorem okD {P : Program} {w : World} {K : PySem.W.Frag} {mg : Str → Option Value} {base : Heap} {x qual : Str} {params : Arguments} {body : List Stmt} {scope : Scope} {dvs : List V} {kws : List (Str × V)} {f : Addr} {fd : FuncData} {N ps : List Str} {k : Nat} {sp : Sp}
    (F : FunD K x qual params body scope dvs kws f fd) (S : FnScope N ps scope) (ln : ∀ vs H Q E, sp vs H Q E → vs.length = ps.length)
    (hb : ∀ (cdv : Value) (A : Around) (outer : List Env) (s : Shared) (H : Hp) (vs : List V) (Q : VK) (E : XK), Room k (A.deeper (envOfC qual scope s.heap.objs.size f cdv)) → sp vs H Q E →
      ∃ t, PSs (cxOf CX0 P w K mg base N qual scope f cdv A outer s H E).nox body t ∧ t { nx := fun _ H' => Q .non H', rt := Q } (start N vs) H) : FnOk P w K mg base CX0 (k + 1) f fd ps sp :=
  F.ok S ln fun cdv A outer s H vs Q E hr h => by
    obtain ⟨t, h1, h2⟩ := hb cdv A outer s H vs Q E hr h
    exact ⟨t, h1.nox, h2⟩
/-! ### the first place that is thinner than low -/
def IsFirst (Ls : List Lw) (low now m : Int) : Prop := now ≤ m ∧ thickS Ls m < low ∧ ∀ p, now ≤ p → p < m → low ≤ thickS Ls p
theorem first_eq {Ls : List Lw} {low now m n : Int} (h1 : IsFirst Ls low now m) (h2 : IsFirst Ls low now n) : m = n := by
  obtain ⟨a1, a2, a3⟩ := h1
  obtain ⟨b1, b2, b3⟩ := h2
  rcases Int.lt_trichotomy m n with h | h | h
  · have := b3 m a1 h
    omega
  · exact h
  · have := a3 n b1 h
    omega
theorem thick_nonneg : ∀ (ps : List (Int × Int)) (k : Int), (∀ p ∈ ps, 0 ≤ p.1) → 0 ≤ thickAt ps k
  | [], _, _ => Int.le_refl _
  | (t, g) :: r, k, h => by
    show 0 ≤ if k < g then t else thickAt r (k - g)
    split
    · exact h (t, g) (by simp)
    · exact thick_nonneg r _ fun p hp => h p (by simp [hp])
theorem thick_over {L : Lw} (g : GoodL L) {p : Int} (h : lastOf L ≤ p) : thickL L p = 0 := by
  have h1 := thick_runs g p
  have h2 : 0 ≤ thickL L p := by
    unfold thickL
    split
    · exact Int.le_refl _
    · cases L.le with
      | none => exact thick_nonneg _ _ fun q hq => Int.le_trans (by decide) (g.1.2.2 q hq).1
      | some n =>
        show 0 ≤ if n ≤ p then 0 else _
        split
        · exact Int.le_refl _
        · exact thick_nonneg _ _ fun q hq => Int.le_trans (by decide) (g.1.2.2 q hq).1
  have h3 : ¬ 0 < thickL L p := fun z => by
    have := h1.mp z
    omega
  omega
theorem thickS_over {Ls : List Lw} (g : ∀ L ∈ Ls, GoodL L) {p : Int} (h : ∀ L ∈ Ls, lastOf L ≤ p) : thickS Ls p = 0 := by
  unfold thickS
  induction Ls with
  | nil => rfl
  | cons L r ih =>
    rw [List.map_cons, List.sum_cons, thick_over (g L (by simp)) (h L (by simp)), ih (fun M hM => g M (by simp [hM])) (fun M hM => h M (by simp [hM]))]
    rfl
theorem thickS_congr {Ls : List Lw} {p q : Int} (h : ∀ L ∈ Ls, thickL L p = thickL L q) : thickS Ls p = thickS Ls q := by
  unfold thickS
  rw [List.map_congr_left h]
theorem wr_not {k : Int} {qs : List (Int × Int × Int)} (h : ∀ y ∈ qs, y.1 ≠ k ∧ y.2.1 ≠ k) : wr k qs = [] := by
  cases hw : wr k qs with
  | nil => rfl
  | cons t r =>
    obtain ⟨y, hy, e⟩ := wr_ne (k := k) (qs := qs) (by rw [hw]; simp)
    have := h y hy
    rcases e with e | e
    · exact absurd e this.1
    · exact absurd e this.2
/-- where nothing begins or ends behind s, up to p, it is as at s -/
theorem thick_still {L : Lw} (g : GoodL L) {s p : Int} (hsp : s ≤ p) (hn : ∀ y ∈ partsOf L.le L.ps L.pl, (y.1 ≤ s ∨ p < y.1) ∧ (y.2.1 ≤ s ∨ p < y.2.1)) : thickL L p = thickL L s := by
  by_cases e : s = p
  · rw [e]
  · have h1 := thick_step g (j := s) (k := p) (by omega) fun y hy => ⟨(hn y hy).1.imp id Int.le_of_lt, (hn y hy).2.imp id Int.le_of_lt⟩
    rw [h1, wr_not fun y hy => ⟨fun z => by have := (hn y hy).1; omega, fun z => by have := (hn y hy).2; omega⟩]
    rfl
theorem pairs_get {ys : List Int} {i : Nat} {s e : Int} (h : (pairs ys)[i]? = some (s, e)) : ys[i]? = some s ∧ ys[i + 1]? = some e := by
  rw [List.getElem?_zip_eq_some] at h
  refine ⟨h.1, ?_⟩
  have := h.2
  rw [List.getElem?_drop] at this
  rw [Nat.add_comm]
  exact this
theorem places_still {Ls : List Lw} (g : ∀ L ∈ Ls, GoodL L) {ys : List Int} (hp : Places Ls ys) {i : Nat} {s e p : Int} (h : (pairs ys)[i]? = some (s, e)) (h1 : s ≤ p) (h2 : p < e) : thickS Ls p = thickS Ls s := by
  obtain ⟨e1, e2⟩ := pairs_get h
  obtain ⟨i1, g1⟩ := List.getElem?_eq_some_iff.mp e1
  obtain ⟨i2, g2⟩ := List.getElem?_eq_some_iff.mp e2
  have srt := List.pairwise_iff_getElem.mp hp.1
  have ok : ∀ y, Keys Ls y → y ≤ s ∨ p < y := fun y hy => by
    obtain ⟨m, hm, rfl⟩ := List.getElem_of_mem ((hp.2.1 y).mpr hy)
    by_cases hmi : m ≤ i
    · left
      by_cases hm2 : m = i
      · subst hm2
        omega
      · have := srt m i hm i1 (by omega)
        omega
    · right
      by_cases hm2 : m = i + 1
      · subst hm2
        omega
      · have := srt (i + 1) m i2 hm (by omega)
        omega
  exact thickS_congr fun L hL => thick_still (g L hL) h1 fun y hy => ⟨ok _ (.inr ⟨L, hL, y, hy, .inl rfl⟩), ok _ (.inr ⟨L, hL, y, hy, .inr rfl⟩)⟩
theorem end_key {Ls : List Lw} (g : ∀ L ∈ Ls, GoodL L) {m : Int} (h : IsEnd Ls m) : Keys Ls m := by
  cases hL : Ls with
  | nil => exact .inl (h.1 hL)
  | cons M r =>
    obtain ⟨L, hm, e⟩ := h.2.1 (by rw [hL]; simp)
    have gL := g L hm
    have hp : ∀ p ∈ L.ps, 1 ≤ p.2 := fun p hp => (gL.1.2.2 p hp).2.2.1
    obtain ⟨y, hy, ey⟩ := parts_has (le := L.le) L.ps L.pl hp (last_gt gL)
    rw [← hL]
    exact .inr ⟨L, hm, y, hy, .inr (by rw [ey, e]; rfl)⟩
theorem key_le {ys : List Int} (h : ys.Pairwise (· < ·)) {k : Int} (hk : k ∈ ys) {i : Nat} {e : Int} (he : ys[i]? = some e) (hi : i + 1 = ys.length) : k ≤ e := by
  obtain ⟨i1, g1⟩ := List.getElem?_eq_some_iff.mp he
  obtain ⟨m, hm, rfl⟩ := List.getElem_of_mem hk
  by_cases hmi : m = i
  · subst hmi
    omega
  · have := List.pairwise_iff_getElem.mp h m i hm i1 (by omega)
    omega
def spLasts : Sp := fun vs H Q _ => ∃ (a : Addr) (Ls : List Lw) (low now : Int), vs = [.ref a, .int low, .int now] ∧ StrandAt H a Ls ∧ Ls.length ≤ 60 ∧ (∀ L ∈ Ls, GoodL L) ∧ 1 ≤ low ∧ 0 ≤ now ∧ ∀ H' m, Same H H' → IsFirst Ls low now m → Q (.int m) H'
/-! ### rows drawn late -/
abbrev Wi := Int × List (Int × Int)
def RowAt (H : Hp) (as : List Addr) (Ws : List Wi) : Prop := as.length = Ws.length ∧ ∀ (i : Nat) (a : Addr), as[i]? = some a → ∃ W, Ws[i]? = some W ∧ WispAt H a W.1 W.2
theorem RowAt.mono {H H' : Hp} {as : List Addr} {Ws : List Wi} (h : RowAt H as Ws) (t : Tups H H') : RowAt H' as Ws := ⟨h.1, fun i a e => by
  obtain ⟨W, h1, h2⟩ := h.2 i a e
  exact ⟨W, h1, h2.mono t⟩⟩
theorem RowAt.take {H : Hp} {as : List Addr} {Ws : List Wi} (h : RowAt H as Ws) (n : Nat) : RowAt H (as.take n) (Ws.take n) := by
  refine ⟨by rw [List.length_take, List.length_take, h.1], fun i a e => ?_⟩
  rw [List.getElem?_take] at e
  split at e
  · next hi =>
    obtain ⟨W, h1, h2⟩ := h.2 i a e
    exact ⟨W, by rw [List.getElem?_take, if_pos hi]; exact h1, h2⟩
  · cases e
def GoodW (W : Wi) : Prop := Good W.2 ∧ 0 ≤ W.1 ∧ W.1 ≤ 1 ∧ longs W.2 < 2 ^ 110
def laidOf (W : Wi) (m : Int) : Lw := ⟨W.1, W.2, m, none⟩
def laidAll : List Wi → List Int → List Lw
  | W :: r, m :: s => laidOf W m :: laidAll r s
  | _, _ => []
theorem laidAll_len : ∀ (Ws : List Wi) (ms : List Int), Ws.length = ms.length → (laidAll Ws ms).length = Ws.length
  | [], [], _ => rfl
  | W :: r, m :: s, h => congrArg (· + 1) (laidAll_len r s (Nat.succ.inj h))
  | [], _ :: _, h => by cases h
  | _ :: _, [], h => by cases h
theorem laidAll_get : ∀ {Ws : List Wi} {ms : List Int} {i : Nat} {W : Wi} {m : Int}, Ws[i]? = some W → ms[i]? = some m → (laidAll Ws ms)[i]? = some (laidOf W m)
  | W :: r, m :: s, 0, _, _, h1, h2 => by
    cases h1
    cases h2
    rfl
  | W :: r, m :: s, i + 1, _, _, h1, h2 => laidAll_get (Ws := r) (ms := s) (i := i) h1 h2
  | [], _, i, _, _, h1, _ => by simp at h1
  | _ :: _, [], i, _, _, _, h2 => by simp at h2
theorem laidAll_mem : ∀ {Ws : List Wi} {ms : List Int} {L : Lw}, L ∈ laidAll Ws ms → ∃ W ∈ Ws, ∃ m ∈ ms, L = laidOf W m
  | W :: r, m :: s, L, h => by
    rcases List.mem_cons.mp h with rfl | h
    · exact ⟨W, by simp, m, by simp, rfl⟩
    · obtain ⟨V, hV, n, hn, e⟩ := laidAll_mem (Ws := r) (ms := s) h
      exact ⟨V, by simp [hV], n, by simp [hn], e⟩
  | [], _, L, h => by simp [laidAll] at h
  | _ :: _, [], L, h => by simp [laidAll] at h
theorem good_laid {W : Wi} {m : Int} (g : GoodW W) (h0 : 0 ≤ m) (h1 : m < 2 ^ 130) : GoodL (laidOf W m) := ⟨g.1, g.2.1, g.2.2.1, h0, h1, fun n e => by cases e⟩
theorem last_laid (W : Wi) (m : Int) : lastOf (laidOf W m) = m + longs W.2 := rfl
theorem first_le {Ls : List Lw} (g : ∀ L ∈ Ls, GoodL L) {low now m B : Int} (h : IsFirst Ls low now m) (l1 : 1 ≤ low) (hn : now ≤ B) (hB : ∀ L ∈ Ls, lastOf L ≤ B) : m ≤ B := by
  rcases Int.lt_or_le B m with hb | hb
  · have h1 := h.2.2 B hn hb
    rw [thickS_over g hB] at h1
    omega
  · exact hb
/-- each next one at the first place that is too thin without it -/
def LateP (Ls : List Lw) (Ws : List Wi) (low now : Int) (ms : List Int) : Prop := ms.length = Ws.length ∧ ∀ (i : Nat) (m : Int), ms[i]? = some m → IsFirst (Ls ++ laidAll (Ws.take i) (ms.take i)) low now m
theorem late_eq {Ls : List Lw} {Ws : List Wi} {low now : Int} {ms ns : List Int} (h1 : LateP Ls Ws low now ms) (h2 : LateP Ls Ws low now ns) : ms = ns := by
  have key : ∀ i, ms.take i = ns.take i := by
    intro i
    induction i with
    | zero => rfl
    | succ i ih =>
      rw [List.take_add_one, List.take_add_one, ih]
      congr 1
      by_cases hi : i < ms.length
      · have hi2 : i < ns.length := by rw [h2.1, ← h1.1]; exact hi
        have e1 : ms[i]? = some ms[i] := List.getElem?_eq_getElem hi
        have e2 : ns[i]? = some ns[i] := List.getElem?_eq_getElem hi2
        have f1 := h1.2 i _ e1
        have f2 := h2.2 i _ e2
        rw [ih] at f1
        rw [e1, e2, first_eq f1 f2]
      · rw [List.getElem?_eq_none (by omega), List.getElem?_eq_none (by rw [h2.1, ← h1.1]; omega)]
  have := key ms.length
  rw [List.take_length, List.take_of_length_le (by rw [h1.1, h2.1]; exact Nat.le_refl _)] at this
  exact this
def spLaidOut : Sp := fun vs H Q _ => ∃ (a b : Addr) (as : List Addr) (Ws : List Wi) (ms : List Int), vs = [.ref a, .ref b] ∧ H a = some (.tup (as.map V.ref)) ∧ RowAt H as Ws ∧ H b = some (.tup (ms.map V.int)) ∧ Ws.length = ms.length ∧ Ws.length ≤ 60 ∧
  ∀ H' o, Same H H' → H o = none → StrandAt H' o (laidAll Ws ms) → Q (.ref o) H'
def SX (H : Hp) (x : V) (Ls : List Lw) : Prop := (x = .non ∧ Ls = []) ∨ ∃ c, x = .ref c ∧ StrandAt H c Ls
theorem SX.mono {H H' : Hp} {x : V} {Ls : List Lw} (h : SX H x Ls) (t : Tups H H') : SX H' x Ls := by
  rcases h with h | ⟨c, h1, h2⟩
  · exact .inl h
  · exact .inr ⟨c, h1, h2.mono t⟩
def spStrandWith : Sp := fun vs H Q _ => ∃ (a b : Addr) (x : V) (as : List Addr) (Ws : List Wi) (ms : List Int) (Ls : List Lw), vs = [.ref a, .ref b, x] ∧ H a = some (.tup (as.map V.ref)) ∧ RowAt H as Ws ∧ H b = some (.tup (ms.map V.int)) ∧ Ws.length = ms.length ∧ SX H x Ls ∧ Ls.length + Ws.length ≤ 60 ∧
  ∀ H' o, Same H H' → StrandAt H' o (Ls ++ laidAll Ws ms) → Q (.ref o) H'
/-- what a row is drawn from -/
structure From (Ls : List Lw) (Ws : List Wi) (low now : Int) : Prop where
  few : Ls.length + Ws.length ≤ 60
  gl : ∀ L ∈ Ls, GoodL L
  gw : ∀ W ∈ Ws, GoodW W
  l1 : 1 ≤ low
  n0 : 0 ≤ now
  n1 : now ≤ 2 ^ 115
  b : ∀ L ∈ Ls, lastOf L ≤ 2 ^ 115
def spDrawn : Sp := fun vs H Q _ => ∃ (a : Addr) (x : V) (low now : Int) (as : List Addr) (Ws : List Wi) (Ls : List Lw), vs = [.ref a, .int low, x, .int now] ∧ H a = some (.tup (as.map V.ref)) ∧ RowAt H as Ws ∧ SX H x Ls ∧ From Ls Ws low now ∧
  ∀ H' o ms, Same H H' → H' o = some (.tup (ms.map V.int)) → LateP Ls Ws low now ms → (∀ m ∈ ms, 0 ≤ m ∧ m < 2 ^ 125) → Q (.ref o) H'
def spLasting : Sp := fun vs H Q _ => ∃ (a : Addr) (x : V) (low now : Int) (as : List Addr) (Ws : List Wi) (Ls : List Lw), vs = [.ref a, .int low, x, .int now] ∧ H a = some (.tup (as.map V.ref)) ∧ RowAt H as Ws ∧ SX H x Ls ∧ From Ls Ws low now ∧
  ∀ H' ms m, Same H H' → LateP Ls Ws low now ms → IsFirst (Ls ++ laidAll Ws ms) low now m → Q (.int m) H'
/-- the places so far, their bound -/
def SoFar (Ls : List Lw) (Ws : List Wi) (low now : Int) (i : Nat) (ms : List Int) : Prop := ms.length = i ∧ (∀ (j : Nat) (m : Int), ms[j]? = some m → IsFirst (Ls ++ laidAll (Ws.take j) (ms.take j)) low now m) ∧ ∀ m ∈ ms, 0 ≤ m ∧ m ≤ 2 ^ 115 + (i : Int) * 2 ^ 110
theorem so_far_good {Ls : List Lw} {Ws : List Wi} {low now : Int} (F : From Ls Ws low now) {i : Nat} {ms : List Int} (h : SoFar Ls Ws low now i ms) (hi : i ≤ Ws.length) :
    (∀ L ∈ Ls ++ laidAll (Ws.take i) ms, GoodL L) ∧ (Ls ++ laidAll (Ws.take i) ms).length ≤ 60 ∧ ∀ L ∈ Ls ++ laidAll (Ws.take i) ms, lastOf L ≤ 2 ^ 115 + ((i + 1 : Nat) : Int) * 2 ^ 110 := by
  have hi60 : (i : Int) ≤ 60 := by
    have := F.few
    omega
  have e1 : ((i + 1 : Nat) : Int) * 2 ^ 110 = (i : Int) * 2 ^ 110 + 2 ^ 110 := by
    rw [Int.natCast_add, Int.add_mul]
    rfl
  have e2 : (i : Int) * 2 ^ 110 ≤ 60 * 2 ^ 110 := Int.mul_le_mul_of_nonneg_right hi60 (by decide)
  have e3 : 0 ≤ (i : Int) * 2 ^ 110 := Int.mul_nonneg (by omega) (by decide)
  refine ⟨fun L hL => ?_, ?_, fun L hL => ?_⟩
  · rcases List.mem_append.mp hL with hL | hL
    · exact F.gl L hL
    · obtain ⟨W, hW, m, hm, rfl⟩ := laidAll_mem hL
      have := h.2.2 m hm
      exact good_laid (F.gw W (List.mem_of_mem_take hW)) this.1 (by omega)
  · rw [List.length_append, laidAll_len _ _ (by rw [List.length_take, h.1]; omega), List.length_take]
    have := F.few
    omega
  · rcases List.mem_append.mp hL with hL | hL
    · have := F.b L hL
      omega
    · obtain ⟨W, hW, m, hm, rfl⟩ := laidAll_mem hL
      have h1 := h.2.2 m hm
      have h2 := (F.gw W (List.mem_of_mem_take hW)).2.2.2
      rw [last_laid]
      omega
/-! ### what the law draws -/
def spOfB : Sp := fun vs H Q _ => ∃ (p : Addr) (T : Nat) (a : Addr) (xs : List V), vs = [.ref p, .ref a] ∧ PotC H p T ∧ T < 2 ^ 39 ∧ H a = some (.lst xs) ∧ a ≠ p ∧ 1 ≤ xs.length ∧ xs.length ≤ 1000 ∧
  ∀ H' (j : Nat) x, xs[j]? = some x → PotC H' p (T + 1) → Keep p p H H' → Q x H'
def spDWisp : Sp := fun vs H Q _ => ∃ (p : Addr) (T : Nat) (sty : Int), vs = [.ref p, .int sty] ∧ PotC H p T ∧ T < 2 ^ 37 ∧ 0 ≤ sty ∧ sty < 3 ∧
  ∀ H' a W, WispAt H' a W.1 W.2 → GoodW W → H a = none → PotC H' p (T + 100) → Keep p p H H' → Q (.ref a) H'
def spLeast : Sp := fun vs H Q _ => ∃ (p : Addr) (T : Nat) (sty : Int), vs = [.ref p, .int sty] ∧ PotC H p T ∧ T < 2 ^ 37 ∧ ∀ H' n, 1 ≤ n → n < 2 ^ 140 → PotC H' p (T + 2) → Keep p p H H' → Q (.int n) H'
def spStrongB : Sp := fun vs H Q _ => ∃ (a : Addr) (s : Int) (ps : List (Int × Int)) (k : Int), vs = [.ref a, .int k] ∧ WispAt H a s ps ∧ Q (.int (thickAt ps k)) H
def spThere : Sp := fun vs H Q _ => ∃ (a : Addr) (Ls : List Lw) (p : Int), vs = [.ref a, .int p] ∧ StrandAt H a Ls ∧ Q (.int (thickS Ls p)) H
theorem longs_le {ps : List (Int × Int)} {B : Int} (h : ∀ p ∈ ps, p.2 ≤ B) : longs ps ≤ ps.length * B := by
  induction ps with
  | nil => rw [show longs [] = 0 from rfl]; simp
  | cons p r ih =>
    have h1 := h p (by simp)
    have h2 := ih fun x hx => h x (by simp [hx])
    rw [longs_cons, List.length_cons, Int.natCast_add, Int.add_mul]
    simp only [Int.natCast_one, Int.one_mul]
    omega
/-! ### from border to border -/
def LKey (L : Lw) (k : Int) : Prop := k = L.pl ∨ L.le = some k ∨ ∃ j, j < L.ps.length ∧ k = L.pl + longs (L.ps.take (j + 1))
def BKey (Ls : List Lw) (now k : Int) : Prop := k = now ∨ ∃ L ∈ Ls, LKey L k
theorem clip_is (le : Option Int) (e : Int) : clip le e = e ∨ le = some (clip le e) := by
  unfold clip
  cases le with
  | none => exact .inl rfl
  | some n =>
    dsimp only
    split
    · exact .inr rfl
    · exact .inl rfl
theorem part_key {le : Option Int} : ∀ (ps : List (Int × Int)) (st : Int), ∀ y ∈ lawParts le ps st, (y.1 = st ∨ ∃ j, j < ps.length ∧ y.1 = st + longs (ps.take (j + 1))) ∧ (le = some y.2.1 ∨ ∃ j, j < ps.length ∧ y.2.1 = st + longs (ps.take (j + 1)))
  | [], _, y, h => by cases h
  | (t, g) :: r, st, y, h => by
    have h : y ∈ (if st < clip le (st + g) then [(st, clip le (st + g), t)] else []) ++ lawParts le r (st + g) := h
    have l1 : longs (((t, g) :: r).take 1) = g := by
      show longs [(t, g)] = g
      rw [longs_cons]
      show g + 0 = g
      omega
    have sh : ∀ j, st + g + longs (r.take (j + 1)) = st + longs (((t, g) :: r).take (j + 1 + 1)) := fun j => by
      show _ = st + longs ((t, g) :: r.take (j + 1))
      rw [longs_cons]
      show _ = st + (g + _)
      omega
    rcases List.mem_append.mp h with h | h
    · split at h
      · simp only [List.mem_cons, List.not_mem_nil, or_false] at h
        subst h
        refine ⟨.inl rfl, ?_⟩
        rcases clip_is le (st + g) with e | e
        · exact .inr ⟨0, by simp, by show clip le (st + g) = _; rw [e, l1]⟩
        · exact .inl e
      · cases h
    · obtain ⟨h1, h2⟩ := part_key r (st + g) y h
      refine ⟨?_, ?_⟩
      · rcases h1 with e | ⟨j, hj, e⟩
        · exact .inr ⟨0, by simp, by rw [e, l1]⟩
        · exact .inr ⟨j + 1, by rw [List.length_cons]; omega, by rw [e, sh]⟩
      · rcases h2 with e | ⟨j, hj, e⟩
        · exact .inl e
        · exact .inr ⟨j + 1, by rw [List.length_cons]; omega, by rw [e, sh]⟩
theorem part_lkey {L : Lw} (g : GoodL L) {y : Int × Int × Int} (h : y ∈ partsOf L.le L.ps L.pl) : LKey L y.1 ∧ LKey L y.2.1 := by
  rw [← parts_eq L.ps L.pl fun p hp => (g.1.2.2 p hp).2.2.1] at h
  obtain ⟨h1, h2⟩ := part_key L.ps L.pl y h
  refine ⟨?_, ?_⟩
  · rcases h1 with e | e
    · exact .inl e
    · exact .inr (.inr e)
  · rcases h2 with e | e
    · exact .inr (.inl e)
    · exact .inr (.inr e)
theorem near {ns : List Int} {p : Int} (h : ∃ a ∈ ns, a ≤ p) : ∃ b ∈ ns, b ≤ p ∧ ∀ k ∈ ns, k ≤ b ∨ p < k := by
  induction ns with
  | nil =>
    obtain ⟨a, ha, _⟩ := h
    cases ha
  | cons x r ih =>
    by_cases hr : ∃ a ∈ r, a ≤ p
    · obtain ⟨b, hb, h1, h2⟩ := ih hr
      by_cases hx : x ≤ p ∧ b < x
      · refine ⟨x, by simp, hx.1, fun k hk => ?_⟩
        rcases List.mem_cons.mp hk with rfl | hk
        · exact .inl (Int.le_refl _)
        · have := h2 k hk
          omega
      · refine ⟨b, by simp [hb], h1, fun k hk => ?_⟩
        rcases List.mem_cons.mp hk with rfl | hk
        · omega
        · exact h2 k hk
    · obtain ⟨a, ha, h1⟩ := h
      have : a = x := by
        rcases List.mem_cons.mp ha with e | e
        · exact e
        · exact absurd ⟨a, e, h1⟩ hr
      subst this
      refine ⟨a, by simp, h1, fun k hk => ?_⟩
      rcases List.mem_cons.mp hk with rfl | hk
      · exact .inl (Int.le_refl _)
      · right
        rcases Int.lt_or_le p k with z | z
        · exact z
        · exact absurd ⟨k, hk, z⟩ hr
def Borders (Ls : List Lw) (now : Int) (ns : List Int) : Prop := ns.Pairwise (· < ·) ∧ (∀ k, k ∈ ns ↔ BKey Ls now k ∧ now ≤ k) ∧ ns.length ≤ 1000
theorem border_first {Ls : List Lw} (g : ∀ L ∈ Ls, GoodL L) {now low m : Int} {ns : List Int} (hb : Borders Ls now ns) {i : Nat} (hi : ns[i]? = some m) (ht : thickS Ls m < low) (ha : ∀ (j : Nat) (k : Int), j < i → ns[j]? = some k → low ≤ thickS Ls k) : IsFirst Ls low now m := by
  have mem := List.mem_of_getElem? hi
  refine ⟨((hb.2.1 m).mp mem).2, ht, fun p p1 p2 => ?_⟩
  obtain ⟨b, hbm, b1, b2⟩ := near (ns := ns) (p := p) ⟨now, (hb.2.1 now).mpr ⟨.inl rfl, Int.le_refl _⟩, p1⟩
  have bn := ((hb.2.1 b).mp hbm).2
  have still : thickS Ls p = thickS Ls b := thickS_congr fun L hL => thick_still (g L hL) b1 fun y hy => by
    have ok : ∀ k, LKey L k → k ≤ b ∨ p < k := fun k hk => by
      by_cases hn : now ≤ k
      · exact b2 k ((hb.2.1 k).mpr ⟨.inr ⟨L, hL, hk⟩, hn⟩)
      · left
        omega
    obtain ⟨h1, h2⟩ := part_lkey (g L hL) hy
    exact ⟨ok _ h1, ok _ h2⟩
  rw [still]
  obtain ⟨j, hj, ej⟩ := List.getElem_of_mem hbm
  obtain ⟨i1, ei⟩ := List.getElem?_eq_some_iff.mp hi
  refine ha j b ?_ (by rw [← ej]; exact List.getElem?_eq_getElem hj)
  rcases Nat.lt_or_ge j i with z | z
  · exact z
  · by_cases e : j = i
    · subst e
      omega
    · have := List.pairwise_iff_getElem.mp hb.1 i j i1 hj (by omega)
      omega
theorem border_some {Ls : List Lw} (g : ∀ L ∈ Ls, GoodL L) {now low : Int} (l1 : 1 ≤ low) {ns : List Int} (hb : Borders Ls now ns) (ha : ∀ (j : Nat) (k : Int), j < ns.length → ns[j]? = some k → low ≤ thickS Ls k) : False := by
  have hnow := (hb.2.1 now).mpr ⟨.inl rfl, Int.le_refl _⟩
  have hl : 0 < ns.length := List.length_pos_of_mem hnow
  have hz : ns[ns.length - 1]? = some ns[ns.length - 1] := List.getElem?_eq_getElem (by omega)
  have le : ∀ k ∈ ns, k ≤ ns[ns.length - 1] := fun k hk => key_le hb.1 hk hz (by omega)
  have h1 := ha _ _ (by omega) hz
  rw [thickS_over g fun L hL => ?_] at h1
  · omega
  · have gl := g L hL
    have hlen := gl.1.1
    have hk : LKey L (L.pl + longs L.ps) := .inr (.inr ⟨L.ps.length - 1, by omega, by rw [show L.ps.length - 1 + 1 = L.ps.length by omega, List.take_length]⟩)
    have h2 : lastOf L ≤ L.pl + longs L.ps := clip_le
    have h3 : L.pl + longs L.ps ≤ ns[ns.length - 1] := by
      by_cases hn : now ≤ L.pl + longs L.ps
      · exact le _ ((hb.2.1 _).mpr ⟨.inr ⟨L, hL, hk⟩, hn⟩)
      · have := le now hnow
        omega
    omega
def spBorders : Sp := fun vs H Q _ => ∃ (a : Addr) (Ls : List Lw) (now : Int), vs = [.ref a, .int now] ∧ StrandAt H a Ls ∧ Ls.length ≤ 60 ∧ (∀ L ∈ Ls, GoodL L) ∧ ∀ H' o ns, Same H H' → H o = none → H' o = some (.lst (ns.map V.int)) → Borders Ls now ns → Q (.ref o) H'
def spFirstThin : Sp := fun vs H Q _ => ∃ (a : Addr) (Ls : List Lw) (low now : Int), vs = [.ref a, .int low, .int now] ∧ StrandAt H a Ls ∧ Ls.length ≤ 60 ∧ (∀ L ∈ Ls, GoodL L) ∧ 1 ≤ low ∧ ∀ H' m, Same H H' → IsFirst Ls low now m → Q (.int m) H'
theorem laid_ahead {W : Wi} {m p : Int} (h : p < m) : thickL (laidOf W m) p = 0 := by
  unfold thickL
  rw [if_pos (show p < (laidOf W m).pl from h)]
theorem laidAll_snoc : ∀ (Ws : List Wi) (ms : List Int) (W : Wi) (m : Int), Ws.length = ms.length → laidAll (Ws ++ [W]) (ms ++ [m]) = laidAll Ws ms ++ [laidOf W m]
  | [], [], W, m, _ => rfl
  | V :: r, n :: s, W, m, h => congrArg (laidOf V n :: ·) (laidAll_snoc r s W m (Nat.succ.inj h))
  | [], _ :: _, _, _, h => by cases h
  | _ :: _, [], _, _, h => by cases h
theorem thickS_app (As Bs : List Lw) (p : Int) : thickS (As ++ Bs) p = thickS As p + thickS Bs p := by
  unfold thickS
  rw [List.map_append, List.sum_append]
theorem thickS_one (L : Lw) (p : Int) : thickS [L] p = thickL L p := by
  unfold thickS
  simp
def spLate : Sp := fun vs H Q _ => ∃ (a c : Addr) (low now : Int) (as : List Addr) (Ws : List Wi) (Ls : List Lw), vs = [.ref a, .int low, .ref c, .int now] ∧ H a = some (.tup (as.map V.ref)) ∧ RowAt H as Ws ∧ StrandAt H c Ls ∧ From Ls Ws low now ∧
  ∀ H' o t d ms, Same H H' → H' o = some (.tup [.ref t, .ref d]) → H' t = some (.tup (ms.map V.int)) → StrandAt H' d (Ls ++ laidAll Ws ms) → LateP Ls Ws low now ms → (∀ m ∈ ms, 0 ≤ m ∧ m < 2 ^ 125) → Q (.ref o) H'
def DSet (H : Hp) (d : Addr) (n : Nat) (S : Int → Prop) : Prop := ∃ kvs : List (Key × V), H d = some (.dK kvs) ∧ IKN kvs ∧ kvs.length ≤ n ∧ ∀ k, (∃ v, valV kvs (Sum.inl k) = some v) ↔ S k
theorem DSet.put {H : Hp} {d : Addr} {n : Nat} {S S' : Int → Prop} (h : DSet H d n S) (k : Int) (hs : ∀ x, S' x ↔ S x ∨ x = k) : ∃ kvs : List (Key × V), H d = some (.dK kvs) ∧ kvs.length ≤ n ∧ DSet (upd H d (.dK (putK kvs (Sum.inl k) (.bl true)))) d (n + 1) S' := by
  obtain ⟨kvs, h1, h2, h3, h4⟩ := h
  refine ⟨kvs, h1, h3, _, upd_same, h2.put k _, Nat.le_trans (length_putK _ _ _) (Nat.succ_le_succ h3), fun x => ?_⟩
  rw [hs, ← h4, valV_put]
  by_cases e : x = k
  · rw [if_pos (by rw [e])]
    exact ⟨fun _ => .inr e, fun _ => ⟨_, rfl⟩⟩
  · rw [if_neg (fun z => e (Sum.inl.inj z))]
    exact ⟨.inl, fun z => z.resolve_right e⟩
theorem DSet.congr {H : Hp} {d : Addr} {n m : Nat} {S S' : Int → Prop} (h : DSet H d n S) (hn : n ≤ m) (hs : ∀ x, S' x ↔ S x) : DSet H d m S' := by
  obtain ⟨kvs, h1, h2, h3, h4⟩ := h
  exact ⟨kvs, h1, h2, Nat.le_trans h3 hn, fun x => by rw [hs, h4]⟩
/-! ### the law of rows drawn late -/
def spLaidSome : Sp := fun vs H Q _ => ∃ (p : Addr) (T : Nat) (sty : Int) (gr : Bool), vs = [.ref p, .int sty, .bl gr] ∧ PotC H p T ∧ T < 2 ^ 36 ∧ 0 ≤ sty ∧ sty < 3 ∧
  ∀ H' c Ls, StrandAt H' c Ls → Ls.length ≤ 30 → (∀ L ∈ Ls, GoodL L) → (∀ L ∈ Ls, lastOf L ≤ 2 ^ 115) → PotC H' p (T + 4000) → Keep p p H H' → Q (.ref c) H'
/-- a list of the places and the place at last -/
def AnsAt (H : Hp) (o : Addr) (ms : List Int) (m : Int) : Prop := ∃ t, H o = some (.lst [.ref t, .int m]) ∧ H t = some (.tup (ms.map V.int))
def spDue22 : Sp := fun vs H Q _ => ∃ (a c : Addr) (low now : Int) (as : List Addr) (Ws : List Wi) (Ls : List Lw), vs = [.ref a, .int low, .ref c, .int now] ∧ H a = some (.tup (as.map V.ref)) ∧ RowAt H as Ws ∧ StrandAt H c Ls ∧ From Ls Ws low now ∧
  ∀ H' o ms m, Same H H' → H o = none → AnsAt H' o ms m → LateP Ls Ws low now ms → IsFirst (Ls ++ laidAll Ws ms) low now m → Q (.ref o) H'
def WayOk (way : Int) (Ls : List Lw) (now : Int) : Prop := (way = 0 ∧ Ls = [] ∧ now = 0) ∨ (way = 1 ∧ now = 0) ∨ way = 2 ∨ (way = 3 ∧ Ls = [])
def spTold22 : Sp := fun vs H Q _ => ∃ (a c : Addr) (low now way : Int) (as : List Addr) (Ws : List Wi) (Ls : List Lw), vs = [.ref a, .int low, .ref c, .int now, .int way] ∧ H a = some (.tup (as.map V.ref)) ∧ RowAt H as Ws ∧ StrandAt H c Ls ∧ From Ls Ws low now ∧ WayOk way Ls now ∧
  ∀ H' o ms m, Same H H' → AnsAt H' o ms m → LateP Ls Ws low now ms → IsFirst (Ls ++ laidAll Ws ms) low now m → Q (.ref o) H'
def spSame22 : Sp := fun vs H Q _ => ∃ (o o2 : Addr) (ms : List Int) (m : Int), vs = [.ref o, .ref o2] ∧ AnsAt H o ms m ∧ AnsAt H o2 ms m ∧ ms.length ≤ 60 ∧ ∀ H', Same H H' → Q (.bl true) H'
theorem AnsAt.same {H H' : Hp} {o : Addr} {ms : List Int} {m : Int} (h : AnsAt H o ms m) (s : Same H H') : AnsAt H' o ms m := by
  obtain ⟨t, h1, h2⟩ := h
  exact ⟨t, s _ _ h1, s _ _ h2⟩
theorem ints_d1' (ns : List Int) : (PyData.tuple (ns.map PyData.int)).depth ≤ 1 := by
  show PyData.depthAll (ns.map PyData.int) + 1 ≤ 1
  have : PyData.depthAll (ns.map PyData.int) ≤ 0 := depth_all fun x hx => by
    obtain ⟨n, _, rfl⟩ := List.mem_map.mp hx
    exact Nat.le_refl _
  omega
def LotAt (p R : Addr) (low : Int) (H : Hp) (e : Addr) : Prop := ∃ (r c o : Addr) (now way : Int) (as : List Addr) (Ws : List Wi) (Ls : List Lw) (ms : List Int) (m : Int), H e = some (.tup [.ref r, .ref c, .int now, .int way, .ref o]) ∧ H r = some (.tup (as.map V.ref)) ∧ RowAt H as Ws ∧ StrandAt H c Ls ∧ From Ls Ws low now ∧ WayOk way Ls now ∧ AnsAt H o ms m ∧ LateP Ls Ws low now ms ∧ IsFirst (Ls ++ laidAll Ws ms) low now m ∧ o ≠ p ∧ o ≠ R
theorem LotAt.go {p R : Addr} {low : Int} {H H' : Hp} {e : Addr} (h : LotAt p R low H e) (t : Tups H H') (k : ∀ o xs, o ≠ p → o ≠ R → H o = some (.lst xs) → H' o = some (.lst xs)) : LotAt p R low H' e := by
  obtain ⟨r, c, o, now, way, as, Ws, Ls, ms, m, h1, h2, h3, h4, h5, h6, ⟨u, h7, h7'⟩, h8, h9, h10, h11⟩ := h
  exact ⟨r, c, o, now, way, as, Ws, Ls, ms, m, t _ _ h1, t _ _ h2, h3.mono t, h4.mono t, h5, h6, ⟨u, k _ _ h10 h11 h7, t _ _ h7'⟩, h8, h9, h10, h11⟩
theorem LotAt.same {p R : Addr} {low : Int} {H H' : Hp} {e : Addr} (h : LotAt p R low H e) (s : Same H H') : LotAt p R low H' e := h.go (Tups.same s) fun o xs _ _ e => s _ _ e
theorem LotAt.keep {p R : Addr} {low : Int} {H H' : Hp} {e : Addr} {T : Nat} (h : LotAt p R low H e) (k : Keep p p H H') (hp : PotC H p T) : LotAt p R low H' e := h.go (k.tupsC hp) fun o xs n1 _ e => k.at n1 e
theorem LotAt.put {p R : Addr} {low : Int} {H : Hp} {e : Addr} {xs : List V} {v : HO} (h : LotAt p R low H e) (eR : H R = some (.lst xs)) : LotAt p R low (upd H R v) e := h.go (Tups.ls eR) fun o ys _ n2 e => (upd_ne n2).trans e
theorem RowAt.snoc {H : Hp} {as : List Addr} {Ws : List Wi} {a : Addr} {W : Wi} (h : RowAt H as Ws) (w : WispAt H a W.1 W.2) : RowAt H (as ++ [a]) (Ws ++ [W]) := by
  refine ⟨by rw [List.length_append, List.length_append, h.1]; rfl, fun i b hb => ?_⟩
  by_cases hi : i < as.length
  · rw [List.getElem?_append_left hi] at hb
    obtain ⟨V, h1, h2⟩ := h.2 i b hb
    exact ⟨V, by rw [List.getElem?_append_left (by rw [← h.1]; exact hi)]; exact h1, h2⟩
  · rw [List.getElem?_append_right (by omega)] at hb
    have hz : i - as.length = 0 := by
      cases hk : i - as.length with
      | zero => rfl
      | succ n =>
        rw [hk] at hb
        simp at hb
    rw [hz] at hb
    have : a = b := Option.some.inj hb
    subst this
    exact ⟨W, by rw [List.getElem?_append_right (by rw [← h.1]; omega), ← h.1, hz]; rfl, w⟩
theorem RowAt.nil {H : Hp} : RowAt H [] [] := ⟨rfl, fun i a e => by simp at e⟩
theorem From.empty {Ls : List Lw} {Ws : List Wi} {low now : Int} (h : From Ls Ws low now) : From [] Ws low now := ⟨by have := h.few; show 0 + Ws.length ≤ 60; omega, (fun L hL => by cases hL), h.gw, h.l1, h.n0, h.n1, fun L hL => by cases hL⟩
theorem From.zero {Ls : List Lw} {Ws : List Wi} {low now : Int} (h : From Ls Ws low now) : From Ls Ws low 0 := ⟨h.few, h.gl, h.gw, h.l1, Int.le_refl _, by decide, h.b⟩
def GoneAt (Ws : List Wi) (low : Int) (H : Hp) (t : Addr) : Prop := ∃ (way begun : Int) (c : Addr) (Ls : List Lw), H t = some (.tup [.int way, .ref c, .int begun]) ∧ StrandAt H c Ls ∧ WayOk way Ls begun ∧ From Ls Ws low begun
theorem GoneAt.mono {Ws : List Wi} {low : Int} {H H' : Hp} {t : Addr} (h : GoneAt Ws low H t) (u : Tups H H') : GoneAt Ws low H' t := by
  obtain ⟨way, begun, c, Ls, h1, h2, h3⟩ := h
  exact ⟨way, begun, c, Ls, u _ _ h1, h2.mono u, h3⟩
/-! ### min(.., default=..) of pairs and of whole numbers -/
def leP (p q : Int × Int) : Prop := p.1 < q.1 ∨ (p.1 = q.1 ∧ p.2 ≤ q.2)
theorem ltP_iff (p q : Int × Int) : PySem.W.DatumOrd.lt p q = true ↔ p.1 < q.1 ∨ (p.1 = q.1 ∧ p.2 < q.2) := by
  show (if p.1 = q.1 then decide (p.2 < q.2) else decide (p.1 < q.1)) = true ↔ _
  by_cases h : p.1 = q.1
  · rw [if_pos h, decide_eq_true_iff]
    omega
  · rw [if_neg h, decide_eq_true_iff]
    omega
theorem leastP : ∀ (ys : List (Int × Int)) (y : Int × Int), PySem.W.minOf y ys ∈ y :: ys ∧ ∀ p ∈ y :: ys, leP (PySem.W.minOf y ys) p
  | [], y => ⟨List.mem_cons_self, fun p hp => by
    have : p = y := List.mem_singleton.mp hp
    subst this
    exact .inr ⟨rfl, Int.le_refl _⟩⟩
  | z :: r, y => by
    have e : PySem.W.minOf y (z :: r) = PySem.W.minOf (if PySem.W.DatumOrd.lt z y = true then z else y) r := rfl
    rw [e]
    have ih := leastP r (if PySem.W.DatumOrd.lt z y = true then z else y)
    generalize hw : PySem.W.minOf (if PySem.W.DatumOrd.lt z y = true then z else y) r = w at ih
    have hy : leP (if PySem.W.DatumOrd.lt z y = true then z else y) y ∧ leP (if PySem.W.DatumOrd.lt z y = true then z else y) z := by
      by_cases h : PySem.W.DatumOrd.lt z y = true
      · rw [if_pos h]
        have := (ltP_iff z y).mp h
        unfold leP
        omega
      · rw [if_neg h]
        have : ¬ (z.1 < y.1 ∨ (z.1 = y.1 ∧ z.2 < y.2)) := fun c => h ((ltP_iff z y).mpr c)
        unfold leP
        omega
    have h0 := ih.2 _ List.mem_cons_self
    refine ⟨?_, fun p hp => ?_⟩
    · rcases List.mem_cons.mp ih.1 with h | h
      · rw [h]
        split
        · simp
        · simp
      · simp [h]
    · rcases List.mem_cons.mp hp with rfl | hp
      · have := hy.1
        unfold leP at *
        omega
      · rcases List.mem_cons.mp hp with rfl | hp
        · have := hy.2
          unfold leP at *
          omega
        · exact ih.2 p (List.mem_cons_of_mem _ hp)
def rMinP (K : PySem.W.Frag) : List V → List V → Hp → VK → Prop := fun xs zs H Q => ∃ (a : Addr) (as : List Addr) (ps : List (Int × Int)) (d : V), xs = [.ref a] ∧ zs = [d] ∧ SqL K H a (as.map V.ref) ∧ TupsAt H as (ps.map stepV) ∧ ps ≠ [] ∧
  ∀ (i : Nat) (b : Addr) (p : Int × Int), as[i]? = some b → ps[i]? = some p → (∀ q ∈ ps, leP p q) → Q (.ref b) H
theorem pairs_dp {K : PySem.W.Frag} {H : Hp} : ∀ {as : List Addr} {ps : List (Int × Int)}, TupsAt H as (ps.map stepV) → DpAll K H (as.map V.ref) (ps.map PySem.W.Datum.toD)
  | [], [], _ => .nil
  | [], p :: r, h => absurd h.1 (by simp)
  | a :: r, [], h => absurd h.1 (by simp)
  | a :: as, p :: ps, h => by
    obtain ⟨xs, h1, h2⟩ := h.2 0 a rfl
    have e : stepV p = xs := Option.some.inj h1
    subst e
    exact .cons (.tup (SqT.of h2) (.cons (.int _) (.cons (.int _) .nil))) (pairs_dp ⟨Nat.succ.inj (by simpa using h.1), fun i b hb => h.2 (i + 1) b hb⟩)
theorem call_minP {X : Cx} (hc : X.calm = true) (hu : X.A.units + 64 < cLine) : CallRK X (.builtin "min") ["default"] (rMinP X.K) := by
  intro pins s σ H xs zs us ws Q I va vz h
  obtain ⟨a, as, ps, d, rfl, rfl, hs, tu, hne, q⟩ := h
  obtain ⟨its, rv, hl, _⟩ := I.list hs
  rw [Vals.ref1 va]
  cases vz with
  | cons r1 r2 =>
  cases r2
  obtain ⟨bs, rs⟩ := Dp.readsAll I (ps.map PySem.W.Datum.toD) (as.map V.ref) its (pairs_dp tu) rv
  refine PySem.W.min_list_datum_default (xs := ps) (I.ok.hd hc) hl.isList ⟨bs, by simpa using rs⟩ ?_ (fun e => absurd e hne) fun y ys i v h' tk e hi hold hk => ?_
  · show X.A.units + 1 + 1 < cLine
    omega
  · have hi' : its[i]? = some v := by simpa using hi
    obtain ⟨b, eb, rb⟩ : ∃ b, as[i]? = some b ∧ v = .ref b := by
      have hlen : its.length = (as.map V.ref).length := rv.length.symm
      have li := (List.getElem?_eq_some_iff.mp hi').1
      have lj : i < as.length := by rw [List.length_map] at hlen; omega
      have e2 : (as.map V.ref)[i]? = some (V.ref as[i]) := by rw [List.getElem?_map, List.getElem?_eq_getElem lj]; rfl
      obtain ⟨u, eu, ru⟩ := rv.get e2
      rw [hi'] at eu
      have := Option.some.inj eu
      subst this
      cases ru
      exact ⟨_, List.getElem?_eq_getElem lj, rfl⟩
    subst rb
    obtain ⟨p, ep, hp⟩ := PySem.W.HoldAll.at (xs := ps) ⟨bs, rs⟩ hi'
    obtain ⟨c1, k1⟩ := hp.keeps hk
    obtain ⟨c2, k2⟩ := hold
    have eq : PySem.W.Datum.toD p = PySem.W.Datum.toD (PySem.W.minOf y ys) := (k1.unique _ _ k2).1
    have eq : p = PySem.W.minOf y ys := by
      obtain ⟨p1, p2⟩ := p
      generalize PySem.W.minOf y ys = m at eq
      obtain ⟨m1, m2⟩ := m
      have eq : PyData.tuple [.int p1, .int p2] = .tuple [.int m1, .int m2] := eq
      injection eq with eq
      injection eq with e1 e2
      injection e2 with e2 _
      injection e1 with e1
      injection e2 with e2
      rw [e1, e2]
    refine ⟨.ref b, H, I.kept hk, rfl, q i b p eb ep fun z hz => ?_⟩
    rw [eq]
    rw [e] at hz
    exact (leastP ys y).2 z hz
/-! ### min(.., default=..) of whole numbers; a tuple turned about -/
theorem leastI : ∀ (ys : List Int) (y : Int), PySem.W.minOf y ys ∈ y :: ys ∧ ∀ p ∈ y :: ys, PySem.W.minOf y ys ≤ p
  | [], y => ⟨List.mem_cons_self, fun p hp => by
    have : p = y := List.mem_singleton.mp hp
    subst this
    exact Int.le_refl _⟩
  | z :: r, y => by
    have e : PySem.W.minOf y (z :: r) = PySem.W.minOf (if decide (z < y) = true then z else y) r := rfl
    rw [e]
    have ih := leastI r (if decide (z < y) = true then z else y)
    generalize PySem.W.minOf (if decide (z < y) = true then z else y) r = w at ih
    have h0 := ih.2 _ List.mem_cons_self
    have hy : (if decide (z < y) = true then z else y) ≤ y ∧ (if decide (z < y) = true then z else y) ≤ z := by
      by_cases h : z < y
      · rw [if_pos (decide_eq_true h)]
        omega
      · rw [if_neg (by intro c; exact h (of_decide_eq_true c))]
        omega
    refine ⟨?_, fun p hp => ?_⟩
    · rcases List.mem_cons.mp ih.1 with h | h
      · rw [h]
        split <;> simp
      · simp [h]
    · rcases List.mem_cons.mp hp with rfl | hp
      · omega
      · rcases List.mem_cons.mp hp with rfl | hp
        · omega
        · exact ih.2 p (List.mem_cons_of_mem _ hp)
def rMinN (K : PySem.W.Frag) : List V → List V → Hp → VK → Prop := fun xs zs H Q => ∃ (a : Addr) (ns : List Int) (d : V), xs = [.ref a] ∧ zs = [d] ∧ SqL K H a (ns.map V.int) ∧ (ns = [] → Q d H) ∧ ∀ m, m ∈ ns → (∀ y ∈ ns, m ≤ y) → Q (.int m) H
theorem call_minN {X : Cx} (hc : X.calm = true) (hu : X.A.units + 64 < cLine) : CallRK X (.builtin "min") ["default"] (rMinN X.K) := by
  intro pins s σ H xs zs us ws Q I va vz h
  obtain ⟨a, ns, d, rfl, rfl, hs, q0, q⟩ := h
  obtain ⟨its, rv, hl, _⟩ := I.list hs
  rw [Vals.ref1 va]
  cases vz with
  | cons r1 r2 =>
  cases r2
  obtain ⟨bs, rs⟩ := Dp.readsAll I (ns.map PyData.int) (ns.map V.int) its (ints_dp ns) rv
  have rs : ReadsAll s.heap its (ns.map PySem.W.Datum.toD) bs := rs
  refine PySem.W.min_list_datum_default (xs := ns) (I.ok.hd hc) hl.isList ⟨bs, by simpa using rs⟩ ?_ (fun e h' tk hk => ⟨d, H, I.kept hk, r1, q0 e⟩) fun y ys i v h' tk e hi hold hk => ?_
  · show X.A.units + 1 + 0 < cLine
    omega
  · obtain ⟨c2, k2⟩ := hold
    have k2 : Reads h' v (.int (PySem.W.minOf y ys)) c2 := k2
    have hm := leastI ys y
    rw [← e] at hm
    generalize PySem.W.minOf y ys = M at k2 hm
    cases k2
    exact ⟨.int M, H, I.kept hk, ⟨_, rfl⟩, q M hm.1 hm.2⟩
/-! ### a tuple turned about -/
theorem fm_map {α β : Type} (f : α → Option β) (g : α → β) : ∀ l : List α, (∀ x ∈ l, f x = some (g x)) → l.filterMap f = l.map g
  | [], _ => rfl
  | x :: r, h => by
    rw [List.filterMap_cons, h x List.mem_cons_self]
    show g x :: r.filterMap f = g x :: r.map g
    rw [fm_map f g r fun y hy => h y (List.mem_cons_of_mem _ hy)]
theorem pickRev (xs : Array Value) : ((List.range xs.size).filterMap fun (k : Nat) => xs[(((xs.size : Int) - 1) + (k : Int) * (-1)).toNat]?).toArray = xs.toList.reverse.toArray := by
  have hat : ∀ k : Nat, k < xs.size → xs[(((xs.size : Int) - 1) + (k : Int) * (-1)).toNat]? = xs.toList.reverse[k]? := fun k hk => by
    rw [List.getElem?_reverse (by rw [Array.length_toList]; exact hk), Array.getElem?_toList, Array.length_toList, show (((xs.size : Int) - 1) + (k : Int) * (-1)).toNat = xs.size - 1 - k by omega]
  rw [fm_map _ (fun k => (xs.toList.reverse[k]?).getD .none) _ fun k hk => by
    have hk := List.mem_range.mp hk
    rw [hat k hk, List.getElem?_eq_getElem (by rw [List.length_reverse, Array.length_toList]; exact hk)]
    rfl]
  congr 1
  apply List.ext_getElem?
  intro i
  rw [List.getElem?_map]
  by_cases hi : i < xs.size
  · have hr : i < xs.toList.reverse.length := by
      rw [List.length_reverse, Array.length_toList]
      exact hi
    rw [List.getElem?_range hi]
    show some ((xs.toList.reverse[i]?).getD .none) = _
    rw [List.getElem?_eq_getElem hr]
    rfl
  · rw [List.getElem?_eq_none (by rw [List.length_range]; omega), List.getElem?_eq_none (by rw [List.length_reverse, Array.length_toList]; omega)]
    rfl
section
variable {P : Program} {w : World} {A : Around} {E : Value → Shared → Prop} {s : Shared}
theorem appliedRev {sl : Addr} {tk : Tok} {n : Nat} {Q : Int × Int × Nat → Shared → Prop} (hs : s.heap.IsSliceOf sl .none .none (.int (-1) tk)) (h : Q ((n : Int) - 1, -1, n) s) : wpAny (model P w) A (Builtin.Slice.sliceApplied (.ref sl) (pure (n : Int))) Q E s := by
  obtain ⟨os, o1, o2, o3⟩ := id hs
  unfold Builtin.Slice.sliceApplied Builtin.Slice.sliceFields
  refine wpAny_bind (wpAny_bind (wpAny_field o1 o3 (x := .none) rfl (wpAny_bind (wpAny_field o1 o3 (x := .none) rfl (wpAny_bind (wpAny_field o1 o3 (x := .int (-1) tk) rfl (wpAny_pure ?_)))))))
  refine wpAny_bind (HT.slicePart_ (IsPart.int (-1) tk) ?_)
  show wpAny _ _ (if ((-1 : Int) == 0) = true then _ else _) _ _ s
  rw [if_neg (by decide)]
  refine wpAny_bind (HT.slicePart_ IsPart.none (wpAny_bind (HT.slicePart_ IsPart.none (wpAny_bind (wpAny_pure ?_)))))
  show wpAny _ _ (match Builtin.Slice.sliceAdjust none none (-1) (n : Int) with | (lo, hi) => pure (lo, (-1 : Int), Builtin.Slice.slicePlaces lo hi (-1))) _ _ s
  have e1 : Builtin.Slice.sliceAdjust none none (-1) (n : Int) = ((n : Int) - 1, -1) := rfl
  have e2 : Builtin.Slice.slicePlaces ((n : Int) - 1) (-1) (-1) = n := by
    unfold Builtin.Slice.slicePlaces
    simp
    omega
  rw [e1]
  show wpAny _ _ (pure ((n : Int) - 1, (-1 : Int), Builtin.Slice.slicePlaces ((n : Int) - 1) (-1) (-1))) _ _ s
  rw [e2]
  exact wpAny_pure h
theorem itemRev {t sl : Addr} {items : Array Value} {tk : Tok} {Q : Value → Shared → Prop} (ht : IsTup s.heap t items) (hs : s.heap.IsSliceOf sl .none .none (.int (-1) tk))
    (h : Q (.ref s.heap.objs.size) { s with heap := s.heap.push { cls := .type "tuple", data := .seq items.toList.reverse.toArray } }) (hsz : items.size ≤ sizeLine) : wpAny (model P w) A (getItem (.ref t) (.ref sl)) Q E s := by
  have fits : sizeOk (.seq items.toList.reverse.toArray) := by
    show items.toList.reverse.toArray.size ≤ sizeLine
    rw [List.size_toArray, List.length_reverse, Array.length_toList]
    exact hsz
  obtain ⟨os, o1, o2, o3⟩ := id hs
  have ty : s.TypeIs (.ref sl) "slice" := ⟨os, o1, o2⟩
  unfold getItem
  try with_reducible refine wpAny_holding ?_
  first | refine wpAny_bind (wpAny_pure ?_) | skip
  refine wpAny_bind (wpAny_sequenceKey ht.typeIs (by decide) ?_)
  refine wpAny_bind (wpAny_callSpecial?_slot (name := Str.ofString "__getitem__") ht.typeIs PyProof.Rows.slot_tuple_getitem
    (wpAny_call_entry PyProof.Rows.slot_tuple_getitem ht.typeIs entry_tuple_getitem ?_ (args_tuple_getitem _ _)))
  show wpAny _ _ (Builtin.Tuple.tupleItemsOf (.ref t) >>= _) _ _ s
  refine wpAny_bind (tupleItemsOf_ ht (wpAny_bind (wpAny_typeOf ty ?_)))
  rw [if_pos (by decide)]
  refine wpAny_bind (appliedRev hs ?_)
  have no : ¬ ((((items.size : Int) - 1) == 0 && (-1 : Int) == 1 && items.size == items.size) = true) := by
    intro q
    rw [Bool.and_eq_true, Bool.and_eq_true] at q
    exact absurd q.1.2 (by decide)
  show wpAny _ _ (if (((items.size : Int) - 1) == 0 && (-1 : Int) == 1 && items.size == items.size) = true then _ else _) _ _ s
  rw [if_neg no, pickRev]
  first
    | exact wpAny_bind (m := Builtin.Tuple.tupleExact _) (wpAny_newObj_type (wpAny_pure ⟨_, rfl, wpAny_pure h⟩) fits)
    | exact wpAny_bind (wpAny_bind (m := Builtin.Tuple.tupleExact _) (wpAny_newObj_type (wpAny_pure (wpAny_pure ⟨_, rfl, wpAny_pure h⟩)) fits))
    | exact wpAny_bind (wpAny_bind (m := Builtin.Tuple.tupleExact _) (wpAny_newObj_type (wpAny_pure ⟨_, rfl, wpAny_pure h⟩) fits))
end
section
variable {X : Cx}
def tRevT (K : PySem.W.Frag) (te : TE) : TE := fun σ H Q => te σ H fun x H1 => ∃ a xs, x = .ref a ∧ SqT K H1 a xs ∧ ∀ p, H1 p = none → Q (.ref p) (upd H1 p (.tup xs.reverse))
theorem pe_revT {e : Expr} {te : TE} {k : Nat} {p1 p2 p3 pos : Pos} (he : PE X e te) : PE X (.Subscript e (.Slice none none (some (.UnaryOp .USub (.Constant (.int 1) k p1) p2)) p3) pos) (tRevT X.K te) := by
  constructor
  intro pins s σ H Q I h
  refine Subscript_ (thn (he.run pins s σ H _ I h) fun v s1 hz => ?_)
  obtain ⟨x, H1, I1, r1, a, xs, ex, hx, q⟩ := hz
  subst ex
  cases r1
  refine wpAny_Slice (thn (po_none.run pins s1 σ H1 (fun o H2 => o = none ∧ H2 = H1) I1 ⟨rfl, rfl⟩) fun vl s2 hz => ?_)
  obtain ⟨l, H2, I2, pl, rfl, rfl⟩ := hz
  refine thn (po_none.run pins s2 σ H2 (fun o H3 => o = none ∧ H3 = H2) I2 ⟨rfl, rfl⟩) fun vu s3 hz => ?_
  obtain ⟨u, H3, I3, pu, rfl, rfl⟩ := hz
  refine thn ((po_some (pe_un un_neg pe_int)).run pins s3 σ H3 (fun o H4 => o = some (-1) ∧ H4 = H3) I3 ⟨1, rfl, -1, rfl, rfl, rfl⟩) fun vs s4 hz => ?_
  obtain ⟨o, H4, I4, ps, rfl, rfl⟩ := hz
  cases pl
  cases pu
  cases ps
  rename_i tk
  have I5 : Inv X pins σ H4 { s4 with heap := s4.heap.push { cls := .type "slice", data := .fields #[.none, .none, .int (-1) tk] } } := I4.kept (t' := s4.toks) fun b ob q => Heap.get?_push_of_some _ q
  obtain ⟨its, r, ht, hz⟩ := I5.tuple hx
  have hlen := r.length
  show wpAny (model X.prog X.w) X.A (subscriptTail e (.Slice none none (some (.UnaryOp .USub (.Constant (.int 1) k p1) p2)) p3) (.ref a) (.ref s4.heap.objs.size)) (EP X pins σ Q) X.xe { s4 with heap := s4.heap.push { cls := .type "slice", data := .fields #[.none, .none, .int (-1) tk] } }
  refine tail_any (ops := [.ref a, .ref s4.heap.objs.size]) ht.typeIs PyProof.Rows.slot_tuple_getitem.lookup ?_ (by with_unfolding_all rfl)
  refine itemRev ht (Heap.IsSliceOf.new _ .none .none (.int (-1) tk)) ?_ (by rw [List.size_toArray]; omega)
  refine ⟨.ref _, _, I5.laid (t' := s4.toks) (o := .tup xs.reverse) (fun b ob q => Heap.get?_push_of_some _ q) (Nat.le_refl _) ?_, rfl, q _ (I5.hok.fresh (Nat.le_refl _))⟩
  exact ⟨by rw [List.length_reverse]; exact hz, _, r.reverse, IsTup.new _ _⟩
end
/-! ### breaks -/
def nextB (bs : List (Int × Int)) (m : Int) : Option Int := (bs.map (·.1)).find? fun k => decide (m < k)
def GoodB (bs : List (Int × Int)) : Prop := bs.length ≤ 20 ∧ (bs.map (·.1)).Pairwise (· < ·) ∧ ∀ b ∈ bs, 0 ≤ b.1 ∧ b.1 < 2 ^ 120
def BrAt (H : Hp) (a : Addr) (bs : List (Int × Int)) : Prop := ∃ as, H a = some (.tup (as.map V.ref)) ∧ TupsAt H as (bs.map stepV)
theorem BrAt.mono {H H' : Hp} {a : Addr} {bs : List (Int × Int)} (h : BrAt H a bs) (t : Tups H H') : BrAt H' a bs := by
  obtain ⟨as, h1, h2⟩ := h
  exact ⟨as, t _ _ h1, h2.mono t⟩
theorem find_yes {m n : Int} (r : List Int) (c : m < n) : (n :: r).find? (fun k => decide (m < k)) = some n := by simp [List.find?_cons, c]
theorem find_skip {m n : Int} (r : List Int) (c : ¬ m < n) : (n :: r).find? (fun k => decide (m < k)) = r.find? fun k => decide (m < k) := by simp [List.find?_cons, c]
theorem find_least {m x : Int} : ∀ ns : List Int, ns.Pairwise (· < ·) → x ∈ ns → m < x → (∀ y ∈ ns, m < y → x ≤ y) → ns.find? (fun k => decide (m < k)) = some x
  | [], _, h, _, _ => by cases h
  | n :: r, hp, h, h1, h2 => by
    obtain ⟨p1, p2⟩ := List.pairwise_cons.mp hp
    by_cases c : m < n
    · have hx := h2 n List.mem_cons_self c
      have e : x = n := by
        rcases List.mem_cons.mp h with e | e
        · exact e
        · have := p1 x e
          omega
      rw [find_yes r c, e]
    · rw [find_skip r c]
      rcases List.mem_cons.mp h with e | e
      · omega
      · exact find_least r p2 e h1 fun y hy => h2 y (List.mem_cons_of_mem _ hy)
theorem find_no {m : Int} : ∀ ns : List Int, (∀ y ∈ ns, ¬ m < y) → ns.find? (fun k => decide (m < k)) = none
  | [], _ => rfl
  | n :: r, h => by
    rw [find_skip r (h n List.mem_cons_self)]
    exact find_no r fun y hy => h y (List.mem_cons_of_mem _ hy)
theorem next_cons (b : Int × Int) (r : List (Int × Int)) (m : Int) : nextB (b :: r) m = if m < b.1 then some b.1 else nextB r m := by
  unfold nextB
  rw [List.map_cons]
  by_cases c : m < b.1
  · rw [if_pos c, find_yes _ c]
  · rw [if_neg c, find_skip _ c]
theorem next_of {bs : List (Int × Int)} {m n : Int} (h : nextB bs m = some n) : m < n ∧ n ∈ bs.map (·.1) := by
  unfold nextB at h
  have h1 := List.find?_some h
  exact ⟨of_decide_eq_true h1, List.mem_of_find?_eq_some h⟩
theorem next_le {bs : List (Int × Int)} (g : (bs.map (·.1)).Pairwise (· < ·)) {m k : Int} (hk : k ∈ bs.map (·.1)) (h : m < k) : ∃ n, nextB bs m = some n ∧ n ≤ k := by
  unfold nextB
  generalize bs.map (·.1) = ns at g hk
  induction ns with
  | nil => cases hk
  | cons x r ih =>
    obtain ⟨p1, p2⟩ := List.pairwise_cons.mp g
    by_cases c : m < x
    · refine ⟨x, find_yes r c, ?_⟩
      rcases List.mem_cons.mp hk with e | e
      · omega
      · have := p1 k e
        omega
    · rw [find_skip r c]
      rcases List.mem_cons.mp hk with e | e
      · omega
      · exact ih p2 e
def brkL (bs : List (Int × Int)) (L : Lw) : Lw := ⟨L.so, L.ps, L.pl, nextB bs L.pl⟩
def laysB (bs : List (Int × Int)) (Ws : List Wi) (ms : List Int) : List Lw := (laidAll Ws ms).map (brkL bs)
theorem laysB_none (Ws : List Wi) (ms : List Int) : laysB [] Ws ms = laidAll Ws ms := by
  unfold laysB
  have : ∀ L ∈ laidAll Ws ms, brkL [] L = L := fun L hL => by
    obtain ⟨W, _, m, _, rfl⟩ := laidAll_mem hL
    rfl
  calc (laidAll Ws ms).map (brkL []) = (laidAll Ws ms).map id := List.map_congr_left this
    _ = laidAll Ws ms := List.map_id _
def spNextBreak : Sp := fun vs H Q _ => ∃ (m : Int) (b : Addr) (bs : List (Int × Int)), vs = [.int m, .ref b] ∧ BrAt H b bs ∧ GoodB bs ∧ ∀ H', Same H H' → Q (letV (nextB bs m)) H'
def spWithB : Sp := fun vs H Q _ => ∃ (a c b : Addr) (as : List Addr) (Ws : List Wi) (ms : List Int) (bs : List (Int × Int)), vs = [.ref a, .ref c, .ref b] ∧ H a = some (.tup (as.map V.ref)) ∧ RowAt H as Ws ∧ H c = some (.tup (ms.map V.int)) ∧ Ws.length = ms.length ∧ Ws.length ≤ 60 ∧ BrAt H b bs ∧ GoodB bs ∧
  ∀ H' o, Same H H' → H o = none → StrandAt H' o (laysB bs Ws ms) → Q (.ref o) H'
def spSomeBreaks : Sp := fun vs H Q _ => ∃ (p : Addr) (T : Nat) (most : Int) (far : Bool), vs = [.ref p, .int most, .bl far] ∧ PotC H p T ∧ T < 2 ^ 37 ∧ 0 ≤ most ∧ most ≤ 20 ∧
  ∀ H' o bs, PotC H' p (T + 50) → Keep p p H H' → BrAt H' o bs → GoodB bs → H o = none → Q (.ref o) H'
def spOneStep : Sp := fun vs H Q _ => ∃ (p : Addr) (T : Nat), vs = [.ref p] ∧ PotC H p T ∧ T < 2 ^ 38 ∧
  ∀ H' a (W : Wi), WispAt H' a W.1 W.2 → GoodW W → H a = none → PotC H' p (T + 3) → Keep p p H H' → Q (.ref a) H'
def spMoments : Sp := fun vs H Q _ => ∃ (p : Addr) (T : Nat) (many : Int) (b : Addr) (bs : List (Int × Int)), vs = [.ref p, .int many, .ref b] ∧ PotC H p T ∧ T < 2 ^ 37 ∧ 0 ≤ many ∧ many ≤ 60 ∧ BrAt H b bs ∧ GoodB bs ∧
  ∀ H' o (ms : List Int), PotC H' p (T + 130) → Keep p p H H' → H' o = some (.tup (ms.map V.int)) → (ms.length : Int) = many → (∀ m ∈ ms, 0 ≤ m ∧ m < 2 ^ 121) → H o = none → Q (.ref o) H'
def spDue35 : Sp := fun vs H Q _ => ∃ (a c b : Addr) (as : List Addr) (Ws : List Wi) (ms : List Int) (bs : List (Int × Int)), vs = [.ref a, .ref c, .ref b] ∧ H a = some (.tup (as.map V.ref)) ∧ RowAt H as Ws ∧ H c = some (.tup (ms.map V.int)) ∧ Ws.length = ms.length ∧ Ws.length ≤ 60 ∧ BrAt H b bs ∧ bs.length ≤ 20 ∧
  ∀ H' o, Same H H' → H o = none → StrandAt H' o (laysB bs Ws ms) → Q (.ref o) H'
theorem TupsAt.rev {H : Hp} {as : List Addr} {bs : List (Int × Int)} (h : TupsAt H as (bs.map stepV)) : TupsAt H as.reverse (bs.reverse.map stepV) := by
  have hl : as.length = bs.length := by rw [h.1, List.length_map]
  refine ⟨by simp [hl], fun i a ha => ?_⟩
  have hi : i < as.length := by
    have := (List.getElem?_eq_some_iff.mp ha).1
    simpa using this
  rw [List.getElem?_reverse hi] at ha
  obtain ⟨xs, h1, h2⟩ := h.2 _ a ha
  refine ⟨xs, ?_, h2⟩
  rw [List.map_reverse, List.getElem?_reverse (by simp; omega)]
  simpa [hl] using h1
theorem walk_zipT {K : PySem.W.Frag} {a b : Addr} {xs ys : List V} (hl : xs.length = ys.length) : Walk (RZ.ItzT K a b) xs.length (fun H => SqT K H a xs ∧ SqT K H b ys) (YPair (fun i => xs[i]?) (fun i => ys[i]?)) where
  goes i H hi q := ⟨xs, ys, xs[i], ys[i]'(hl ▸ hi), q.1, q.2, List.getElem?_eq_getElem hi, List.getElem?_eq_getElem (hl ▸ hi)⟩
  stops H q := ⟨xs, ys, q.1, q.2, .inl (Nat.le_refl _)⟩
  yields i H v H' _ q y := by
    obtain ⟨c, x, z, k1, k2, k3, k4, k5⟩ := y
    exact ⟨c, x, z, k1, k2, k3, k4 xs q.1, k5 ys q.2⟩
theorem drop_back {bs : List (Int × Int)} {i : Nat} {b : Int × Int} (h : bs.reverse[i]? = some b) : bs.drop (bs.length - (i + 1)) = b :: bs.drop (bs.length - i) := by
  have hi : i < bs.length := by
    have := (List.getElem?_eq_some_iff.mp h).1
    simpa using this
  rw [List.getElem?_reverse hi] at h
  obtain ⟨h1, h2⟩ := List.getElem?_eq_some_iff.mp h
  rw [show bs.length - (i + 1) = bs.length - 1 - i by omega, List.drop_eq_getElem_cons h1, h2, show bs.length - 1 - i + 1 = bs.length - i by omega]
theorem laysB_mem {bs : List (Int × Int)} {Ws : List Wi} {ms : List Int} {L : Lw} (h : L ∈ laysB bs Ws ms) : ∃ W ∈ Ws, ∃ m ∈ ms, L = brkL bs (laidOf W m) := by
  obtain ⟨M, hM, rfl⟩ := List.mem_map.mp h
  obtain ⟨W, hW, m, hm, rfl⟩ := laidAll_mem hM
  exact ⟨W, hW, m, hm, rfl⟩
theorem laysB_good {bs : List (Int × Int)} {Ws : List Wi} {ms : List Int} (gb : GoodB bs) (gw : ∀ W ∈ Ws, GoodW W) (gm : ∀ m ∈ ms, 0 ≤ m ∧ m < 2 ^ 121) : ∀ L ∈ laysB bs Ws ms, GoodL L := fun L hL => by
  obtain ⟨W, hW, m, hm, rfl⟩ := laysB_mem hL
  have g := gw W hW
  have b := gm m hm
  refine ⟨g.1, g.2.1, g.2.2.1, b.1, Int.lt_trans b.2 (by decide), fun n e => ?_⟩
  obtain ⟨n1, n2⟩ := next_of (bs := bs) (m := m) (n := n) e
  obtain ⟨x, hx, rfl⟩ := List.mem_map.mp n2
  exact ⟨n1, Int.lt_trans (gb.2.2 x hx).2 (by decide)⟩
theorem thickS_zero : ∀ {Ls : List Lw} {p : Int}, (∀ L ∈ Ls, thickL L p = 0) → thickS Ls p = 0
  | [], _, _ => rfl
  | L :: r, p, h => by
    have e : thickS (L :: r) p = thickL L p + thickS r p := rfl
    rw [e, h L List.mem_cons_self, thickS_zero fun M hM => h M (List.mem_cons_of_mem _ hM)]
    rfl
theorem laysB_cut {bs : List (Int × Int)} {Ws : List Wi} {ms : List Int} (gb : GoodB bs) {k : Int} (hk : k ∈ bs.map (·.1)) : thickS ((laysB bs Ws ms).filter fun L => decide (L.pl < k)) k = 0 := by
  refine thickS_zero fun L hL => ?_
  obtain ⟨h1, h2⟩ := List.mem_filter.mp hL
  have h2 : L.pl < k := of_decide_eq_true h2
  obtain ⟨W, hW, m, hm, rfl⟩ := laysB_mem h1
  have h2 : m < k := h2
  obtain ⟨n, e, hn⟩ := next_le gb.2.1 hk h2
  show (if k < m then 0 else match nextB bs m with | none => thickAt W.2 (k - m) | some n => if n ≤ k then 0 else thickAt W.2 (k - m)) = 0
  rw [e]
  show (if k < m then 0 else if n ≤ k then 0 else thickAt W.2 (k - m)) = 0
  rw [if_neg (by omega), if_pos hn]
/-- row, moments, breaks and the strand that is due -/
def LotB (H : Hp) (e : Addr) : Prop := ∃ (r c b d : Addr) (as : List Addr) (Ws : List Wi) (ms : List Int) (bs : List (Int × Int)), H e = some (.tup [.ref r, .ref c, .ref b, .ref d]) ∧ H r = some (.tup (as.map V.ref)) ∧ RowAt H as Ws ∧ H c = some (.tup (ms.map V.int)) ∧ Ws.length = ms.length ∧ Ws.length ≤ 60 ∧ (∀ W ∈ Ws, GoodW W) ∧ (∀ m ∈ ms, 0 ≤ m ∧ m < 2 ^ 121) ∧ BrAt H b bs ∧ GoodB bs ∧ StrandAt H d (laysB bs Ws ms)
theorem LotB.mono {H H' : Hp} {e : Addr} (h : LotB H e) (t : Tups H H') : LotB H' e := by
  obtain ⟨r, c, b, d, as, Ws, ms, bs, h1, h2, h3, h4, h5, h6, h7, h8, h9, h10, h11⟩ := h
  exact ⟨r, c, b, d, as, Ws, ms, bs, t _ _ h1, t _ _ h2, h3.mono t, t _ _ h4, h5, h6, h7, h8, h9.mono t, h10, h11.mono t⟩
theorem GoodB.nil : GoodB [] := ⟨Nat.zero_le _, List.Pairwise.nil, fun b hb => by cases hb⟩
theorem strand_ne {K : PySem.W.Frag} {H : Hp} {a b : Addr} {Ls : List Lw} {Q : VK} (ha : StrandAt H a Ls) (hb : StrandAt H b Ls) (g : ∀ L ∈ Ls, GoodL L) (q : Q (.bl false) H) : rNeD K (.ref a) (.ref b) H Q := by
  have sh := (strand_sh g).shaped (Nat.le_trans (strand_depth Ls) (by decide))
  refine ⟨strandD Ls, strandD Ls, ha.dp, hb.dp, sh, sh, ?_⟩
  rw [SeqAt.eqv_refl _ (SeqAt.canLay_of_shaped sh)]
  exact q
/-! ### zip where the second one is no longer -/
theorem lcZipS {K : PySem.W.Frag} {a b : Addr} {xs ys : List V} {g : TG} {tt : TT} {te : TE} {us : List Nat} {σ : L2.St} {H1 : Hp} {D : Addr} {Qd : Hp → Prop} (hl : ys.length ≤ xs.length) (Pv : Nat → Hp → Prop) (h0 : Pv 0 (upd H1 D (.lst []))) (hq : ∀ i H, Pv i H → SqT K H a xs ∧ SqT K H b ys)
    (hs : ∀ i x y T H, xs[i]? = some x → ys[i]? = some y → H T = none → Pv i H → g (.ref T) (wipe σ us) (upd H T (.tup [x, y])) fun σ2 H2 => wipe σ2 us = wipe σ us ∧ tt σ2 H2 fun c H3 =>
      if c = true then te σ2 H3 fun y H4 => ∃ acc, H4 D = some (.lst acc) ∧ acc.length < sizeLine ∧ Pv (i + 1) (upd H4 D (.lst (acc ++ [y]))) else Pv (i + 1) H3) (hd : ∀ H, Pv ys.length H → Qd H) :
    ∃ W : Nat → Nat → Hp → Prop, (∃ m, W 0 m (upd H1 D (.lst []))) ∧ ∀ i m H, W i m H →
      ((RZ.ItzT K a b).stop i H ∧ Qd H) ∨ ((RZ.ItzT K a b).go i H ∧ ∃ Nx : Hp → Prop, (∀ H', Nx H' → ∃ m', m' < m ∧ W (i + 1) m' H') ∧ ∀ x H', (RZ.ItzT K a b).yld i H x H' → g x (wipe σ us) H' fun σ2 H2 => wipe σ2 us = wipe σ us ∧ tt σ2 H2 fun c H3 =>
        if c = true then te σ2 H3 fun y H4 => ∃ acc, H4 D = some (.lst acc) ∧ acc.length < sizeLine ∧ Nx (upd H4 D (.lst (acc ++ [y]))) else Nx H3) := by
  refine ⟨fun i m H => i + m = ys.length ∧ Pv i H, ⟨ys.length, Nat.zero_add _, h0⟩, fun i m H ⟨em, p⟩ => ?_⟩
  obtain ⟨q1, q2⟩ := hq i H p
  by_cases hi : i < ys.length
  · have g1 : xs[i]? = some (xs[i]'(by omega)) := List.getElem?_eq_getElem (by omega)
    have g2 : ys[i]? = some ys[i] := List.getElem?_eq_getElem hi
    refine .inr ⟨⟨xs, ys, _, _, q1, q2, g1, g2⟩, Pv (i + 1), fun H' p' => ⟨m - 1, by omega, by omega, p'⟩, fun v H' hy => ?_⟩
    obtain ⟨T, x, y, rfl, nT, rfl, f1, f2⟩ := hy
    exact hs i x y T H (f1 _ q1) (f2 _ q2) nT p
  · have e : i = ys.length := by omega
    subst e
    exact .inl ⟨⟨xs, ys, q1, q2, .inr (Nat.le_refl _)⟩, hd H p⟩
theorem cut_tail (xs : List V) : cutV xs (some 1) none = xs.drop 1 := by
  unfold cutV
  have h : HT.sIx xs.length 0 (some 1) = min 1 xs.length := HT.sIx_nat xs.length 0 1
  rw [h]
  cases xs with
  | nil => rfl
  | cons x r =>
    show ((x :: r).drop (min 1 (r.length + 1))).take (r.length + 1 - min 1 (r.length + 1)) = r
    rw [show min 1 (r.length + 1) = 1 by omega]
    show r.take (r.length + 1 - 1) = r
    simp
/-! ### things of any kind -/
section
variable {B : Int}
abbrev topB : Int := 2 ^ 250
inductive Th where
  | int (n : Int)
  | bl (b : Bool)
  | oth
  | tup (ts : List Th)
/-- what such a thing is in the heap -/
inductive ThAt (B : Int) (H : Hp) : V → Th → Prop where
  | int (n : Int) (h1 : -B ≤ n) (h2 : n ≤ B) : ThAt B H (.int n) (.int n)
  | bl (b : Bool) : ThAt B H (.bl b) (.bl b)
  | non : ThAt B H .non .oth
  | str (z : Str) : ThAt B H (.str z) .oth
  | lst {a : Addr} {xs : List V} (e : H a = some (.lst xs)) : ThAt B H (.ref a) .oth
  | dic {a : Addr} {kvs : List (Key × V)} (e : H a = some (.dK kvs)) : ThAt B H (.ref a) .oth
  | tup {a : Addr} {vs : List V} {ts : List Th} (e : H a = some (.tup vs)) (hl : vs.length = ts.length) (h : ∀ (i : Nat) (v : V) (t : Th), vs[i]? = some v → ts[i]? = some t → ThAt B H v t) : ThAt B H (.ref a) (.tup ts)
/-- tuples stay, lists stay lists, dicts stay dicts -/
def Kinds (H H' : Hp) : Prop := Tups H H' ∧ (∀ a xs, H a = some (.lst xs) → ∃ ys, H' a = some (.lst ys)) ∧ ∀ a kvs, H a = some (.dK kvs) → ∃ kvs', H' a = some (.dK kvs')
theorem Kinds.same {H H' : Hp} (s : Same H H') : Kinds H H' := ⟨Tups.same s, fun a xs e => ⟨xs, s _ _ e⟩, fun a kvs e => ⟨kvs, s _ _ e⟩⟩
theorem Kinds.trans {H H1 H2 : Hp} (a : Kinds H H1) (b : Kinds H1 H2) : Kinds H H2 := ⟨a.1.trans b.1, fun c xs e => by
  obtain ⟨ys, e1⟩ := a.2.1 c xs e
  exact b.2.1 c ys e1, fun c kvs e => by
  obtain ⟨ys, e1⟩ := a.2.2 c kvs e
  exact b.2.2 c ys e1⟩
theorem Kinds.put {H : Hp} {R : Addr} {xs ys : List V} (e : H R = some (.lst xs)) : Kinds H (upd H R (.lst ys)) := by
  refine ⟨Tups.ls e, fun a zs ha => ?_, fun a kvs ha => ?_⟩
  · by_cases c : a = R
    · subst c
      exact ⟨ys, upd_same⟩
    · exact ⟨zs, (upd_ne c).trans ha⟩
  · refine ⟨kvs, (upd_ne fun c => ?_).trans ha⟩
    rw [c, e] at ha
    cases ha
theorem Kinds.keep {p : Addr} {H H' : Hp} {T U : Nat} (k : Keep p p H H') (h : PotC H p T) (h' : PotC H' p U) : Kinds H H' := by
  refine ⟨k.tupsC h, fun a xs e => ?_, fun a kvs e => ?_⟩
  · by_cases c : a = p
    · subst c
      obtain ⟨_, _, _, e2, _⟩ := h'
      exact ⟨_, e2⟩
    · exact ⟨xs, k.at c e⟩
  · refine ⟨kvs, k.at (fun c => ?_) e⟩
    obtain ⟨_, _, _, e2, _⟩ := h
    rw [c, e2] at e
    cases e
theorem ThAt.mono {H H' : Hp} (k : Kinds H H') {v : V} {t : Th} (h : ThAt B H v t) : ThAt B H' v t := by
  induction h with
  | int n h1 h2 => exact .int n h1 h2
  | bl b => exact .bl b
  | non => exact .non
  | str z => exact .str z
  | lst e =>
    obtain ⟨ys, e1⟩ := k.2.1 _ _ e
    exact .lst e1
  | dic e =>
    obtain ⟨ys, e1⟩ := k.2.2 _ _ e
    exact .dic e1
  | tup e hl h ih => exact .tup (k.1 _ _ e) hl ih
theorem ThAt.ty {K : PySem.W.Frag} {H : Hp} {v : V} {t : Th} (h : ThAt B H v t) : ∃ T : String, TyX K H v (.type T) ∧ (match t with
    | .int _ => T = "int"
    | .bl _ => T = "bool"
    | .oth => T = "NoneType" ∨ T = "str" ∨ T = "list" ∨ T = "dict"
    | .tup _ => T = "tuple") := by
  cases h with
  | int n h1 h2 => exact ⟨_, .base (.int n), rfl⟩
  | bl b => exact ⟨_, .base (.bl b), rfl⟩
  | non => exact ⟨_, .base .non, .inl rfl⟩
  | str z => exact ⟨_, .base (.str z), .inr (.inl rfl)⟩
  | lst e => exact ⟨_, .base (.lst e), .inr (.inr (.inl rfl))⟩
  | dic e => exact ⟨_, .base (.dK e), .inr (.inr (.inr rfl))⟩
  | tup e hl h => exact ⟨_, .base (.tup e), rfl⟩
def Th.isT : Th → Bool
  | .tup _ => true
  | _ => false
def Th.isI : Th → Bool
  | .int _ => true
  | .bl _ => true
  | _ => false
def Th.isB : Th → Bool
  | .bl _ => true
  | _ => false
theorem isi_tup {K : PySem.W.Frag} {H : Hp} {v : V} {t : Th} (h : ThAt B H v t) : ∃ T : String, TyX K H v (.type T) ∧ PySem.W.kitOne K (.type T) (.type "tuple") = some t.isT := by
  obtain ⟨T, hT, ht⟩ := h.ty (K := K)
  refine ⟨T, hT, ?_⟩
  cases t with
  | int n =>
    have : T = "int" := ht
    subst this
    exact kit_ty (show kitB "int" "tuple" = some false by decide +kernel)
  | bl b =>
    have : T = "bool" := ht
    subst this
    exact kit_ty (show kitB "bool" "tuple" = some false by decide +kernel)
  | oth =>
    rcases ht with rfl | rfl | rfl | rfl
    · exact kit_ty (show kitB "NoneType" "tuple" = some false by decide +kernel)
    · exact kit_ty (show kitB "str" "tuple" = some false by decide +kernel)
    · exact kit_ty (show kitB "list" "tuple" = some false by decide +kernel)
    · exact kit_ty (show kitB "dict" "tuple" = some false by decide +kernel)
  | tup ts =>
    have : T = "tuple" := ht
    subst this
    exact kit_ty (show kitB "tuple" "tuple" = some true by decide +kernel)
theorem isi_int {K : PySem.W.Frag} {H : Hp} {v : V} {t : Th} (h : ThAt B H v t) : ∃ T : String, TyX K H v (.type T) ∧ PySem.W.kitOne K (.type T) (.type "int") = some t.isI := by
  obtain ⟨T, hT, ht⟩ := h.ty (K := K)
  refine ⟨T, hT, ?_⟩
  cases t with
  | int n =>
    have : T = "int" := ht
    subst this
    exact kit_ty (show kitB "int" "int" = some true by decide +kernel)
  | bl b =>
    have : T = "bool" := ht
    subst this
    exact kit_ty (show kitB "bool" "int" = some true by decide +kernel)
  | oth =>
    rcases ht with rfl | rfl | rfl | rfl
    · exact kit_ty (show kitB "NoneType" "int" = some false by decide +kernel)
    · exact kit_ty (show kitB "str" "int" = some false by decide +kernel)
    · exact kit_ty (show kitB "list" "int" = some false by decide +kernel)
    · exact kit_ty (show kitB "dict" "int" = some false by decide +kernel)
  | tup ts =>
    have : T = "tuple" := ht
    subst this
    exact kit_ty (show kitB "tuple" "int" = some false by decide +kernel)
theorem isi_bl {K : PySem.W.Frag} {H : Hp} {v : V} {t : Th} (h : ThAt B H v t) : ∃ T : String, TyX K H v (.type T) ∧ PySem.W.kitOne K (.type T) (.type "bool") = some t.isB := by
  obtain ⟨T, hT, ht⟩ := h.ty (K := K)
  refine ⟨T, hT, ?_⟩
  cases t with
  | int n =>
    have : T = "int" := ht
    subst this
    exact kit_ty (show kitB "int" "bool" = some false by decide +kernel)
  | bl b =>
    have : T = "bool" := ht
    subst this
    exact kit_ty (show kitB "bool" "bool" = some true by decide +kernel)
  | oth =>
    rcases ht with rfl | rfl | rfl | rfl
    · exact kit_ty (show kitB "NoneType" "bool" = some false by decide +kernel)
    · exact kit_ty (show kitB "str" "bool" = some false by decide +kernel)
    · exact kit_ty (show kitB "list" "bool" = some false by decide +kernel)
    · exact kit_ty (show kitB "dict" "bool" = some false by decide +kernel)
  | tup ts =>
    have : T = "tuple" := ht
    subst this
    exact kit_ty (show kitB "tuple" "bool" = some false by decide +kernel)
theorem ThAt.tupE {H : Hp} {v : V} {ts : List Th} (h : ThAt B H v (.tup ts)) : ∃ a vs, v = .ref a ∧ H a = some (.tup vs) ∧ vs.length = ts.length ∧ ∀ (i : Nat) (v : V) (t : Th), vs[i]? = some v → ts[i]? = some t → ThAt B H v t := by
  cases h with
  | tup e hl h => exact ⟨_, _, rfl, e, hl, h⟩
theorem ThAt.intE {H : Hp} {v : V} {n : Int} (h : ThAt B H v (.int n)) : v = .int n := by
  cases h
  rfl
theorem ThAt.intB {H : Hp} {v : V} {n : Int} (h : ThAt B H v (.int n)) : -B ≤ n ∧ n ≤ B := by
  cases h with
  | int n h1 h2 => exact ⟨h1, h2⟩
theorem ThAt.up {B B' : Int} {H : Hp} {v : V} {t : Th} (l : B ≤ B') (h : ThAt B H v t) : ThAt B' H v t := by
  induction h with
  | int n h1 h2 => exact .int n (by omega) (by omega)
  | bl b => exact .bl b
  | non => exact .non
  | str z => exact .str z
  | lst e => exact .lst e
  | dic e => exact .dic e
  | tup e hl h ih => exact .tup e hl ih
/-- wholes -/
def whT (t : Th) (least : Int) : Bool := match t with
  | .int n => decide (least ≤ n)
  | _ => false
def isBr : Th → Bool
  | .tup [a, b] => whT a 0 && whT b 0
  | _ => false
def firstT : Th → Int
  | .tup (.int n :: _) => n
  | _ => 0
def risesI : List Int → Bool
  | a :: b :: r => decide (a < b) && risesI (b :: r)
  | _ => true
def areBr : Th → Bool
  | .tup ts => decide (ts.length ≤ 20) && ts.all isBr && risesI (ts.map firstT)
  | _ => false
theorem wh_of {t : Th} {n : Int} (h : whT t n = true) : ∃ m, t = .int m ∧ n ≤ m := by
  cases t with
  | int m => exact ⟨m, rfl, of_decide_eq_true h⟩
  | bl b => cases h
  | oth => cases h
  | tup ts => cases h
theorem isBr_of {t : Th} (h : isBr t = true) : ∃ m l, t = .tup [.int m, .int l] ∧ 0 ≤ m ∧ 0 ≤ l := by
  cases t with
  | int m => cases h
  | bl b => cases h
  | oth => cases h
  | tup ts =>
    match ts, h with
    | [], h => cases h
    | [_], h => cases h
    | [a, b], h =>
      obtain ⟨h1, h2⟩ := Bool.and_eq_true_iff.mp (show (whT a 0 && whT b 0) = true from h)
      obtain ⟨m, rfl, m0⟩ := wh_of h1
      obtain ⟨l, rfl, l0⟩ := wh_of h2
      exact ⟨m, l, rfl, m0, l0⟩
    | _ :: _ :: _ :: _, h => cases h
def spWholeT : Sp := fun vs H Q _ => ∃ (v : V) (t : Th) (least : Int), vs = [v, .int least] ∧ ThAt topB H v t ∧ Q (.bl (whT t least)) H
def lenIn (t : Th) (a b : Int) : Bool := match t with
  | .tup ts => decide (a ≤ (ts.length : Int)) && decide ((ts.length : Int) ≤ b)
  | _ => false
def spTupleT : Sp := fun vs H Q _ => ∃ (v : V) (t : Th) (a b : Int), vs = [v, .int a, .int b] ∧ ThAt topB H v t ∧ Q (.bl (lenIn t a b)) H
def spIsBreak : Sp := fun vs H Q _ => ∃ (v : V) (t : Th), vs = [v] ∧ ThAt topB H v t ∧ Q (.bl (isBr t)) H
def spRise : Sp := fun vs H Q _ => ∃ (a : Addr) (ns : List Int), vs = [.ref a] ∧ H a = some (.lst (ns.map V.int)) ∧ ns.length ≤ 60 ∧ ∀ H', Same H H' → Q (.bl (risesI ns)) H'
def spAreBr : Sp := fun vs H Q _ => ∃ (v : V) (t : Th), vs = [v] ∧ ThAt topB H v t ∧ ∀ H', Same H H' → Q (.bl (areBr t)) H'
def spWhole1 : Sp := fun vs H Q _ => ∃ (v : V) (t : Th), vs = [v] ∧ ThAt topB H v t ∧ Q (.bl (whT t 0)) H
/-- ints and tuples of them -/
inductive IT : Th → Prop where
  | int {n : Int} (h1 : -2 ^ 250 ≤ n) (h2 : n ≤ 2 ^ 250) : IT (.int n)
  | tup {ts : List Th} (hl : ts.length ≤ 60) (h : ∀ t ∈ ts, IT t) : IT (.tup ts)
mutual
def Th.deep : Th → Nat
  | .tup ts => Th.deepAll ts + 1
  | _ => 0
def Th.deepAll : List Th → Nat
  | [] => 0
  | t :: r => max t.deep (Th.deepAll r)
end
theorem deep_mem : ∀ {ts : List Th} {t : Th}, t ∈ ts → t.deep ≤ Th.deepAll ts
  | x :: r, t, h => by
    show t.deep ≤ max x.deep (Th.deepAll r)
    rcases List.mem_cons.mp h with rfl | h
    · omega
    · have := deep_mem h
      omega
def spBent (n : Nat) : Sp := fun vs H Q _ => ∃ (B : Int) (p : Addr) (T : Nat) (v : V) (t : Th), vs = [.ref p, v] ∧ PotC H p T ∧ T + 4 * n < 2 ^ 36 ∧ ThAt B H v t ∧ IT t ∧ t.deep < n ∧ n ≤ 10 ∧ 0 ≤ B ∧ ∀ H' u s, PotC H' p (T + 4 * n) → Keep p p H H' → ThAt (2 * B + 100) H' u s → Q u H'
theorem Keep.newK {p a : Addr} {H H1 : Hp} {o : HO} (k : Keep p p H H1) (h : H1 a = none) : Keep p p H (upd H1 a o) := k.new h
theorem th_take {H : Hp} {vs : List V} {ts : List Th} (h : ∀ (i : Nat) (v : V) (t : Th), vs[i]? = some v → ts[i]? = some t → ThAt B H v t) (n : Nat) : ∀ (i : Nat) (v : V) (t : Th), (vs.take n)[i]? = some v → (ts.take n)[i]? = some t → ThAt B H v t := fun i v t h1 h2 => by
  rw [List.getElem?_take] at h1 h2
  split at h1
  · next c =>
    rw [if_pos c] at h2
    exact h i v t h1 h2
  · cases h1
theorem th_drop {H : Hp} {vs : List V} {ts : List Th} (h : ∀ (i : Nat) (v : V) (t : Th), vs[i]? = some v → ts[i]? = some t → ThAt B H v t) (n : Nat) : ∀ (i : Nat) (v : V) (t : Th), (vs.drop n)[i]? = some v → (ts.drop n)[i]? = some t → ThAt B H v t := fun i v t h1 h2 => by
  rw [List.getElem?_drop] at h1 h2
  exact h _ v t h1 h2
theorem th_app {H : Hp} {vs ws : List V} {ts ss : List Th} (hl : vs.length = ts.length) (h : ∀ (i : Nat) (v : V) (t : Th), vs[i]? = some v → ts[i]? = some t → ThAt B H v t) (g : ∀ (i : Nat) (v : V) (t : Th), ws[i]? = some v → ss[i]? = some t → ThAt B H v t) : ∀ (i : Nat) (v : V) (t : Th), (vs ++ ws)[i]? = some v → (ts ++ ss)[i]? = some t → ThAt B H v t := fun i v t h1 h2 => by
  by_cases c : i < vs.length
  · rw [List.getElem?_append_left c] at h1
    rw [List.getElem?_append_left (by omega)] at h2
    exact h i v t h1 h2
  · rw [List.getElem?_append_right (by omega)] at h1
    rw [List.getElem?_append_right (by omega), ← hl] at h2
    exact g _ v t h1 h2
/-- a tuple of things: its values and what they are -/
def ThsAt (B : Int) (H : Hp) (vs : List V) : Prop := ∃ ts : List Th, vs.length = ts.length ∧ ∀ (i : Nat) (v : V) (t : Th), vs[i]? = some v → ts[i]? = some t → ThAt B H v t
theorem ThsAt.app {H : Hp} {vs ws : List V} (a : ThsAt B H vs) (b : ThsAt B H ws) : ThsAt B H (vs ++ ws) := by
  obtain ⟨ts, h1, h2⟩ := a
  obtain ⟨ss, g1, g2⟩ := b
  exact ⟨ts ++ ss, by rw [List.length_append, List.length_append, h1, g1], th_app h1 h2 g2⟩
theorem ThsAt.take {H : Hp} {vs : List V} (a : ThsAt B H vs) (n : Nat) : ThsAt B H (vs.take n) := by
  obtain ⟨ts, h1, h2⟩ := a
  exact ⟨ts.take n, by rw [List.length_take, List.length_take, h1], th_take h2 n⟩
theorem ThsAt.drop {H : Hp} {vs : List V} (a : ThsAt B H vs) (n : Nat) : ThsAt B H (vs.drop n) := by
  obtain ⟨ts, h1, h2⟩ := a
  exact ⟨ts.drop n, by rw [List.length_drop, List.length_drop, h1], th_drop h2 n⟩
theorem ThsAt.one {H : Hp} {v : V} {t : Th} (h : ThAt B H v t) : ThsAt B H [v] := ⟨[t], rfl, fun i u s h1 h2 => by
  cases i with
  | zero =>
    cases h1
    cases h2
    exact h
  | succ i => cases h1⟩
theorem ThsAt.nil {H : Hp} : ThsAt B H [] := ⟨[], rfl, fun i u s h1 h2 => by cases h1⟩
theorem ThsAt.mono {H H' : Hp} {vs : List V} (a : ThsAt B H vs) (k : Kinds H H') : ThsAt B H' vs := by
  obtain ⟨ts, h1, h2⟩ := a
  exact ⟨ts, h1, fun i v t e1 e2 => (h2 i v t e1 e2).mono k⟩
theorem ThsAt.rev {H : Hp} {vs : List V} (a : ThsAt B H vs) : ThsAt B H vs.reverse := by
  obtain ⟨ts, h1, h2⟩ := a
  refine ⟨ts.reverse, by rw [List.length_reverse, List.length_reverse, h1], fun i v t e1 e2 => ?_⟩
  have hi : i < vs.length := by
    have := (List.getElem?_eq_some_iff.mp e1).1
    simpa using this
  rw [List.getElem?_reverse hi] at e1
  rw [List.getElem?_reverse (by omega)] at e2
  exact h2 _ v t e1 (by rw [h1]; exact e2)
theorem ThsAt.tup {H : Hp} {vs : List V} {a : Addr} (h : ThsAt B H vs) (e : H a = some (.tup vs)) : ∃ t, ThAt B H (.ref a) t := by
  obtain ⟨ts, h1, h2⟩ := h
  exact ⟨.tup ts, .tup e h1 h2⟩
theorem ThsAt.mem {H : Hp} {vs : List V} (h : ThsAt B H vs) {v : V} (hv : v ∈ vs) : ∃ t, ThAt B H v t := by
  obtain ⟨ts, h1, h2⟩ := h
  obtain ⟨i, hi, rfl⟩ := List.getElem_of_mem hv
  exact ⟨ts[i]'(by omega), h2 i _ _ (List.getElem?_eq_getElem hi) (List.getElem?_eq_getElem (by omega))⟩
def spOdd : Sp := fun vs H Q _ => vs = [] ∧ ∀ H' o xs, Same H H' → H o = none → H' o = some (.lst xs) → xs.length ≤ 20 → (∀ x ∈ xs, ∃ t, ThAt topB H' x t) → Q (.ref o) H'
def brT (b : Int × Int) : Th := .tup [.int b.1, .int b.2]
def spManyBr : Sp := fun vs H Q _ => ∃ (p : Addr) (T : Nat) (many : Int), vs = [.ref p, .int many] ∧ PotC H p T ∧ T < 2 ^ 37 ∧ 0 ≤ many ∧ many ≤ 20 ∧ ∀ H' o bs, PotC H' p (T + 50) → Keep p p H H' → BrAt H' o bs → bs.length ≤ 20 → (∀ b ∈ bs, 0 ≤ b.1 ∧ b.1 ≤ 2 ^ 200 ∧ 0 ≤ b.2 ∧ b.2 ≤ 2 ^ 200) → Q (.ref o) H'
theorem br_th {H : Hp} {o : Addr} {bs : List (Int × Int)} (h : BrAt H o bs) (bd : ∀ b ∈ bs, -B ≤ b.1 ∧ b.1 ≤ B ∧ -B ≤ b.2 ∧ b.2 ≤ B) : ThAt B H (.ref o) (.tup (bs.map brT)) := by
  obtain ⟨as, e, tb⟩ := h
  have hl : as.length = bs.length := by rw [tb.1, List.length_map]
  refine .tup e (by rw [List.length_map, List.length_map, hl]) fun i v t h1 h2 => ?_
  obtain ⟨a, m, l, rfl, ep, ea⟩ := step_get tb h1
  rw [List.getElem?_map, ep] at h2
  have : brT (m, l) = t := Option.some.inj h2
  subst this
  have hb := bd _ (List.mem_of_getElem? ep)
  refine .tup ea rfl fun j u s g1 g2 => ?_
  match j, g1, g2 with
  | 0, g1, g2 =>
    cases g1
    cases g2
    exact .int m hb.1 hb.2.1
  | 1, g1, g2 =>
    cases g1
    cases g2
    exact .int l hb.2.2.1 hb.2.2.2
def riseB (p : Int × Int) : Bool := decide (p.1 < p.2)
theorem rises_pairs : ∀ ns : List Int, risesI ns = ((List.zip ns (ns.drop 1)).map riseB).all id
  | [] => rfl
  | [_] => rfl
  | a :: b :: r => by
    have ih := rises_pairs (b :: r)
    show (decide (a < b) && risesI (b :: r)) = _
    rw [ih]
    rfl
theorem iteNF {A C : Prop} (h : A) : if (!false) = true then A else C := iteT h
theorem rises_get : ∀ {ns : List Int} {k : Nat} {a b : Int}, risesI ns = true → ns[k]? = some a → ns[k + 1]? = some b → a < b
  | [], k, a, b, h, h1, _ => by cases h1
  | [x], 0, a, b, h, _, h2 => by cases h2
  | [x], k + 1, a, b, h, h1, _ => by cases h1
  | x :: y :: r, 0, a, b, h, h1, h2 => by
    cases h1
    cases h2
    exact of_decide_eq_true (Bool.and_eq_true_iff.mp h).1
  | x :: y :: r, k + 1, a, b, h, h1, h2 => rises_get (ns := y :: r) (Bool.and_eq_true_iff.mp h).2 h1 h2
theorem rises_idx (ns : List Int) : risesI ns = (((List.range (ns.length - 1)).map fun k => decide (ns.getD k 0 < ns.getD (k + 1) 0)).all id) := by
  rw [rises_pairs]
  congr 1
  refine List.ext_getElem? fun i => ?_
  rw [List.getElem?_map, List.getElem?_map]
  by_cases h : i < ns.length - 1
  · have e1 : ns[i]? = some ns[i] := List.getElem?_eq_getElem (by omega)
    have e2 : ns[i + 1]? = some ns[i + 1] := List.getElem?_eq_getElem (by omega)
    have e3 : (List.zip ns (ns.drop 1))[i]? = some (ns[i], ns[i + 1]) := by
      rw [List.getElem?_zip_eq_some]
      refine ⟨e1, ?_⟩
      rw [List.getElem?_drop, Nat.add_comm]
      exact e2
    rw [e3, List.getElem?_range h]
    show some (riseB (ns[i], ns[i + 1])) = some (decide (ns.getD i 0 < ns.getD (i + 1) 0))
    rw [List.getD_eq_getElem?_getD, List.getD_eq_getElem?_getD, e1, e2]
    rfl
  · rw [List.getElem?_eq_none (by rw [List.length_zip, List.length_drop]; omega), List.getElem?_eq_none (by rw [List.length_range]; omega)]
    rfl
/-- a value of a written thing -/
def ThV (B : Int) (H : Hp) (v : V) : Prop := ∃ t, ThAt B H v t
theorem ThV.mono {H H' : Hp} {v : V} (h : ThV B H v) (k : Kinds H H') : ThV B H' v := by
  obtain ⟨t, h⟩ := h
  exact ⟨t, h.mono k⟩
theorem ThsAt.of : ∀ {H : Hp} {vs : List V}, (∀ v ∈ vs, ThV B H v) → ThsAt B H vs
  | H, [], _ => ThsAt.nil
  | H, v :: r, h => by
    obtain ⟨t, ht⟩ := h v List.mem_cons_self
    exact (ThsAt.one ht).app (ThsAt.of fun u hu => h u (List.mem_cons_of_mem _ hu))
theorem ThV.tup {H : Hp} {a : Addr} {vs : List V} (h : ∀ v ∈ vs, ThV B H v) (n : H a = none) : ThV B (upd H a (.tup vs)) (.ref a) :=
  ((ThsAt.of h).mono (Kinds.same (same_new (Same.refl _) n))).tup upd_same
theorem ThV.lst {H : Hp} {a : Addr} {xs : List V} (e : H a = some (.lst xs)) : ThV B H (.ref a) := ⟨.oth, .lst e⟩
theorem ThsAt.cut {H : Hp} {vs : List V} (a : ThsAt B H vs) (lo hi : Option Int) : ThsAt B H (cutV vs lo hi) := by
  unfold cutV
  exact (a.drop _).take _
theorem slT {K : PySem.W.Frag} {H : Hp} {a : Addr} {vs : List V} {lo hi : Option Int} {Q : VK} {N : Nat} (h : H a = some (.tup vs)) (t : ThsAt B H vs) (hl : vs.length ≤ N) (q : ∀ H' p ws, Same H H' → H' p = some (.tup ws) → ThsAt B H' ws → ws.length ≤ N → Q (.ref p) H') : rSlA K (.ref a) lo hi H Q :=
  slA h fun H' p s e => q H' p _ s e ((t.cut lo hi).mono (Kinds.same s)) (Nat.le_trans (cutV_length _ _ _) hl)
theorem catT {K : PySem.W.Frag} {H : Hp} {a b : Addr} {vs ws : List V} {Q : VK} (ha : H a = some (.tup vs)) (hb : H b = some (.tup ws)) (ta : ThsAt B H vs) (tb : ThsAt B H ws) (hz : vs.length + ws.length ≤ 1000) (q : ∀ H' p, Same H H' → H' p = some (.tup (vs ++ ws)) → ThsAt B H' (vs ++ ws) → Q (.ref p) H') : rCatA K (.ref a) (.ref b) H Q :=
  catA ha hb (Nat.le_of_lt (small1000 hz)) fun H' p s e => q H' p s e ((ta.app tb).mono (Kinds.same s))
theorem log_small {m : Int} (h1 : -2 ^ 250 ≤ m) (h2 : m ≤ 2 ^ 250) : m.natAbs.log2 < 400 := by
  by_cases c : m.natAbs = 0
  · rw [c]
    decide
  · have h : m.natAbs.log2 < 251 := by
      rw [Nat.log2_lt c]
      omega
    omega
mutual
def dataT : Th → PyData
  | .int n => .int n
  | .tup ts => .tuple (dataTs ts)
  | _ => .none
def dataTs : List Th → List PyData
  | [] => []
  | t :: r => dataT t :: dataTs r
end
theorem dataTs_map : ∀ ts : List Th, dataTs ts = ts.map dataT
  | [] => rfl
  | t :: r => by
    show dataT t :: dataTs r = dataT t :: r.map dataT
    rw [dataTs_map r]
theorem it_dp {K : PySem.W.Frag} {H : Hp} {t : Th} (i : IT t) : ∀ {v : V}, ThAt B H v t → Dp K H v (dataT t) := by
  induction i with
  | int h1 h2 =>
    intro v h
    rw [h.intE]
    exact .int _
  | @tup ts hl h ih =>
    intro v hv
    obtain ⟨a, vs, rfl, e, hvl, hh⟩ := hv.tupE
    refine .tup (SqT.of e) ?_
    rw [dataTs_map]
    clear hl h e hv
    induction ts generalizing vs with
    | nil =>
      have : vs = [] := List.eq_nil_of_length_eq_zero hvl
      subst this
      exact .nil
    | cons t r ihr =>
      cases vs with
      | nil => cases hvl
      | cons v ws => exact .cons (ih t List.mem_cons_self (hh 0 v t rfl rfl)) (ihr (fun x hx => ih x (List.mem_cons_of_mem _ hx)) ws (Nat.succ.inj hvl) fun i u s h1 h2 => hh (i + 1) u s h1 h2)
theorem it_sh {t : Th} (i : IT t) : Sh (dataT t) := by
  induction i with
  | int h1 h2 => exact .int (log_small h1 h2)
  | @tup ts hl h ih =>
    show Sh (.tuple (dataTs ts))
    rw [dataTs_map]
    refine .tup fun x hx => ?_
    obtain ⟨t, ht, rfl⟩ := List.mem_map.mp hx
    exact ih t ht
theorem it_depth {t : Th} (i : IT t) : (dataT t).depth ≤ t.deep := by
  induction i with
  | int h1 h2 => exact Nat.le_refl _
  | @tup ts hl h ih =>
    show PyData.depthAll (dataTs ts) + 1 ≤ Th.deepAll ts + 1
    refine Nat.succ_le_succ ?_
    rw [dataTs_map]
    refine depth_all fun x hx => ?_
    obtain ⟨t, ht, rfl⟩ := List.mem_map.mp hx
    exact Nat.le_trans (ih t ht) (deep_mem ht)
theorem deep_pairs {ts : List Th} (h : ∀ t ∈ ts, ∃ m l : Int, t = .tup [.int m, .int l]) : (Th.tup ts).deep < 3 := by
  show Th.deepAll ts + 1 < 3
  have : Th.deepAll ts ≤ 1 := by
    induction ts with
    | nil => exact Nat.zero_le _
    | cons t r ih =>
      obtain ⟨m, l, rfl⟩ := h t List.mem_cons_self
      have := ih fun x hx => h x (List.mem_cons_of_mem _ hx)
      show max (max 0 (max 0 0) + 1) (Th.deepAll r) ≤ 1
      omega
  omega
theorem ThsAt.up {B B' : Int} {H : Hp} {vs : List V} (l : B ≤ B') (h : ThsAt B H vs) : ThsAt B' H vs := by
  obtain ⟨ts, h1, h2⟩ := h
  exact ⟨ts, h1, fun i v t e1 e2 => (h2 i v t e1 e2).up l⟩
theorem areBr_it {H : Hp} {v : V} {t : Th} (hB : B ≤ 2 ^ 250) (h : ThAt B H v t) (e : areBr t = true) : IT t ∧ t.deep < 3 := by
  cases t with
  | int m => cases e
  | bl b => cases e
  | oth => cases e
  | tup ts =>
    obtain ⟨e1, _⟩ := Bool.and_eq_true_iff.mp (show (decide (ts.length ≤ 20) && ts.all isBr && risesI (ts.map firstT)) = true from e)
    obtain ⟨e1, e2⟩ := Bool.and_eq_true_iff.mp e1
    have e1 := of_decide_eq_true e1
    rw [List.all_eq_true] at e2
    obtain ⟨a, vs, rfl, _, hvl, hh⟩ := h.tupE
    refine ⟨.tup (by omega) fun x hx => ?_, deep_pairs fun x hx => ?_⟩
    · obtain ⟨m, l, rfl, m0, l0⟩ := isBr_of (e2 x hx)
      obtain ⟨i, hi, ei⟩ := List.getElem_of_mem hx
      have hx' := hh i _ _ (List.getElem?_eq_getElem (by omega)) (List.getElem?_eq_getElem hi)
      rw [ei] at hx'
      obtain ⟨c, ws, _, _, hwl, hw⟩ := hx'.tupE
      have hwl : ws.length = 2 := hwl
      have b1 := (hw 0 _ (.int m) (List.getElem?_eq_getElem (by omega)) rfl).intB
      have b2 := (hw 1 _ (.int l) (List.getElem?_eq_getElem (by omega)) rfl).intB
      refine .tup (by show 2 ≤ 60; decide) fun y hy => ?_
      simp only [List.mem_cons, List.not_mem_nil, or_false] at hy
      rcases hy with rfl | rfl
      · exact .int (by omega) (by omega)
      · exact .int (by omega) (by omega)
    · obtain ⟨m, l, rfl, _⟩ := isBr_of (e2 x hx)
      exact ⟨m, l, rfl⟩
end
/-! ### wisps, rows and schedules of any kind -/
def numT : Th → Int
  | .int n => n
  | _ => 0
def isStep : Th → Bool
  | .tup [a, b] => whT a 1 && whT b 1
  | _ => false
def fallsT : List Int → Bool
  | a :: b :: r => decide (b < a) && fallsT (b :: r)
  | _ => true
def areSteps : Th → Bool
  | .tup ts => decide (1 ≤ ts.length) && decide (ts.length ≤ 8) && ts.all isStep && fallsT (ts.map firstT)
  | _ => false
def isWispT : Th → Bool
  | .tup [s, st] => whT s 0 && decide (numT s ≤ 1) && areSteps st
  | _ => false
def isRowT : Th → Bool
  | .tup ts => decide (ts.length ≤ 60) && ts.all isWispT
  | _ => false
def goUp : Int → List Th → Bool
  | _, [] => true
  | least, t :: r => whT t least && goUp (numT t) r
def isSchedT (n : Nat) : Th → Bool
  | .tup ts => decide (ts.length = n) && goUp 0 ts
  | _ => false
theorem isStep_of {t : Th} (h : isStep t = true) : ∃ m l, t = .tup [.int m, .int l] ∧ 1 ≤ m ∧ 1 ≤ l := by
  cases t with
  | int m => cases h
  | bl b => cases h
  | oth => cases h
  | tup ts =>
    match ts, h with
    | [], h => cases h
    | [_], h => cases h
    | [a, b], h =>
      obtain ⟨h1, h2⟩ := Bool.and_eq_true_iff.mp (show (whT a 1 && whT b 1) = true from h)
      obtain ⟨m, rfl, m0⟩ := wh_of h1
      obtain ⟨l, rfl, l0⟩ := wh_of h2
      exact ⟨m, l, rfl, m0, l0⟩
    | _ :: _ :: _ :: _, h => cases h
def fallB (p : Int × Int) : Bool := decide (p.2 < p.1)
theorem falls_pairs : ∀ ns : List Int, fallsT ns = ((List.zip ns (ns.drop 1)).map fallB).all id
  | [] => rfl
  | [_] => rfl
  | a :: b :: r => by
    have ih := falls_pairs (b :: r)
    show (decide (b < a) && fallsT (b :: r)) = _
    rw [ih]
    rfl
def spStepT : Sp := fun vs H Q _ => ∃ (v : V) (t : Th), vs = [v] ∧ ThAt topB H v t ∧ Q (.bl (isStep t)) H
def spStepsT : Sp := fun vs H Q _ => ∃ (v : V) (t : Th), vs = [v] ∧ ThAt topB H v t ∧ ∀ H', Same H H' → Q (.bl (areSteps t)) H'
def spWispT : Sp := fun vs H Q _ => ∃ (v : V) (t : Th), vs = [v] ∧ ThAt topB H v t ∧ ∀ H', Same H H' → Q (.bl (isWispT t)) H'
def spRowT : Sp := fun vs H Q _ => ∃ (v : V) (t : Th), vs = [v] ∧ ThAt topB H v t ∧ ∀ H', Same H H' → Q (.bl (isRowT t)) H'
/-- a good row, and a thing of any kind -/
def spSchedT : Sp := fun vs H Q _ => ∃ (v u : V) (ts : List Th) (t : Th), vs = [v, u] ∧ ThAt topB H v (.tup ts) ∧ isRowT (.tup ts) = true ∧ ThAt topB H u t ∧ ∀ H', Same H H' → Q (.bl (isSchedT ts.length t)) H'
def spSchedL : Sp := fun vs H Q _ => ∃ (u : V) (n : Nat) (t : Th), vs = [.int n, u] ∧ ThAt topB H u t ∧ n ≤ 60 ∧ ∀ H', Same H H' → Q (.bl (isSchedT n t)) H'
def spToldT : Sp := fun vs H Q _ => ∃ b : Bool, vs = [.bl b, .bl b] ∧ Q (.bl true) H
def fitsT : Option Int → Int → Bool
  | none, _ => true
  | some l, m => decide (m < l)
def goFall : Option Int → List Th → Bool
  | _, [] => true
  | last, t :: r => isStep t && fitsT last (firstT t) && goFall (some (firstT t)) r
theorem fall_rest : ∀ {ts : List Th} {l : Int}, goFall (some l) ts = (ts.all isStep && fallsT (l :: ts.map firstT))
  | [], l => rfl
  | t :: r, l => by
    have ih := fall_rest (ts := r) (l := firstT t)
    show (isStep t && decide (firstT t < l) && goFall (some (firstT t)) r) = (isStep t && r.all isStep && (decide (firstT t < l) && fallsT (firstT t :: r.map firstT)))
    rw [ih]
    cases isStep t <;> cases decide (firstT t < l) <;> cases r.all isStep <;> rfl
theorem fall_all (ts : List Th) : goFall none ts = (ts.all isStep && fallsT (ts.map firstT)) := by
  cases ts with
  | nil => rfl
  | cons t r =>
    show (isStep t && true && goFall (some (firstT t)) r) = (isStep t && r.all isStep && fallsT (firstT t :: r.map firstT))
    rw [fall_rest]
    cases isStep t <;> cases r.all isStep <;> rfl
def lastV : Option Int → V
  | none => .non
  | some l => .int l
theorem up_idx : ∀ {ts : List Th} {n : Int}, ts.all (fun t => whT t 0) = true → 0 ≤ n → goUp n ts = ((List.range ts.length).map fun k => decide ((if k = 0 then n else numT (ts.getD (k - 1) .oth)) ≤ numT (ts.getD k .oth))).all id
  | [], n, _, _ => rfl
  | t :: r, n, h, hn => by
    obtain ⟨h1, h2⟩ := Bool.and_eq_true_iff.mp (show (whT t 0 && r.all fun t => whT t 0) = true from h)
    obtain ⟨m, rfl, m0⟩ := wh_of h1
    have ih := up_idx (ts := r) (n := m) h2 m0
    show (decide (n ≤ m) && goUp m r) = _
    rw [ih, show (Th.int m :: r).length = r.length + 1 from rfl, List.range_succ_eq_map, List.map_cons, List.all_cons, List.map_map]
    congr 1
    congr 1
    refine List.map_congr_left fun k hk => ?_
    cases k with
    | zero => rfl
    | succ k => rfl
theorem up_all {ts : List Th} (h : ts.all (fun t => whT t 0) = true) : goUp 0 ts = ((List.range (ts.length - 1)).map fun k => decide (numT (ts.getD k .oth) ≤ numT (ts.getD (k + 1) .oth))).all id := by
  cases ts with
  | nil => rfl
  | cons t r =>
    rw [up_idx h (Int.le_refl 0)]
    obtain ⟨h1, h2⟩ := Bool.and_eq_true_iff.mp (show (whT t 0 && r.all fun t => whT t 0) = true from h)
    obtain ⟨m, rfl, m0⟩ := wh_of h1
    rw [show (Th.int m :: r).length = r.length + 1 from rfl, List.range_succ_eq_map, List.map_cons, List.all_cons, List.map_map]
    show (decide (0 ≤ m) && _) = _
    rw [decide_eq_true m0, Bool.true_and]
    rfl
theorem up_whole : ∀ {ts : List Th} {n : Int}, 0 ≤ n → goUp n ts = true → ts.all (fun t => whT t 0) = true
  | [], _, _, _ => rfl
  | t :: r, n, hn, h => by
    obtain ⟨h1, h2⟩ := Bool.and_eq_true_iff.mp (show (whT t n && goUp (numT t) r) = true from h)
    obtain ⟨m, rfl, m0⟩ := wh_of h1
    show (decide (0 ≤ m) && r.all _) = true
    rw [up_whole (n := m) (by omega) h2, decide_eq_true (show 0 ≤ m by omega)]
    rfl
def spSchedule : Sp := fun vs H Q _ => ∃ (p : Addr) (T n : Nat), vs = [.ref p, .int n] ∧ PotC H p T ∧ T < 2 ^ 37 ∧ n ≤ 60 ∧ ∀ H' o (ms : List Int), PotC H' p (T + 1 + n) → Keep p p H H' → H' o = some (.tup (ms.map V.int)) → ms.length = n → (∀ m ∈ ms, 0 ≤ m ∧ m ≤ 2 ^ 200) → ms.Pairwise (fun a b => a ≤ b) → Q (.ref o) H'
def spDWisp8 : Sp := fun vs H Q _ => ∃ (p : Addr) (T : Nat) (sty : Int), vs = [.ref p, .int sty] ∧ PotC H p T ∧ T < 2 ^ 37 ∧ 0 ≤ sty ∧ sty < 3 ∧
  ∀ H' a W, WispAt H' a W.1 W.2 → GoodW W → Falls W.2 → W.2.length ≤ 8 → H a = none → PotC H' p (T + 100) → Keep p p H H' → Q (.ref a) H'
def wispT (W : Wi) : Th := .tup [.int W.1, .tup (W.2.map brT)]
/-- a good wisp, short and falling -/
def GoodT (W : Wi) : Prop := GoodW W ∧ Falls W.2 ∧ W.2.length ≤ 8
theorem steps_th {B : Int} {H : Hp} {st : Addr} {as : List Addr} {ps : List (Int × Int)} (e : H st = some (.tup (as.map V.ref))) (tu : TupsAt H as (ps.map stepV)) (bd : ∀ b ∈ ps, -B ≤ b.1 ∧ b.1 ≤ B ∧ -B ≤ b.2 ∧ b.2 ≤ B) : ThAt B H (.ref st) (.tup (ps.map brT)) := br_th ⟨as, e, tu⟩ bd
theorem wisp_th {H : Hp} {a : Addr} {W : Wi} (h : WispAt H a W.1 W.2) (g : GoodT W) : ThAt (2 ^ 200) H (.ref a) (wispT W) := by
  obtain ⟨st, as, e1, e2, tu⟩ := h
  obtain ⟨⟨gd, s0, s1, _⟩, _, _⟩ := g
  refine .tup e1 rfl fun j u t g1 g2 => ?_
  match j, g1, g2 with
  | 0, g1, g2 =>
    cases g1
    cases g2
    exact .int _ (by omega) (by omega)
  | 1, g1, g2 =>
    cases g1
    cases g2
    exact steps_th e2 tu fun b hb => by
      have := gd.2.2 b hb
      omega
theorem row_th {H : Hp} {r : Addr} {as : List Addr} {Ws : List Wi} (e : H r = some (.tup (as.map V.ref))) (ra : RowAt H as Ws) (g : ∀ W ∈ Ws, GoodT W) : ThAt (2 ^ 200) H (.ref r) (.tup (Ws.map wispT)) := by
  refine .tup e (by rw [List.length_map, List.length_map, ra.1]) fun i v t h1 h2 => ?_
  rw [List.getElem?_map] at h1 h2
  cases ea : as[i]? with
  | none =>
    rw [ea] at h1
    cases h1
  | some a =>
    rw [ea] at h1
    obtain ⟨W, eW, hW⟩ := ra.2 i a ea
    rw [eW] at h2
    have h1 : V.ref a = v := Option.some.inj h1
    have h2 : wispT W = t := Option.some.inj h2
    subst h1
    subst h2
    exact wisp_th hW (g W (List.mem_of_getElem? eW))
theorem falls_of : ∀ {ps : List (Int × Int)}, Falls ps → fallsT ((ps.map brT).map firstT) = true
  | [], _ => rfl
  | [_], _ => rfl
  | a :: b :: r, h => by
    have h1 := (List.pairwise_cons.mp h).1 b List.mem_cons_self
    have ih := falls_of (ps := b :: r) (List.pairwise_cons.mp h).2
    show (decide (b.1 < a.1) && fallsT (((b :: r).map brT).map firstT)) = true
    rw [ih, decide_eq_true h1]
    rfl
theorem good_isWisp {W : Wi} (g : GoodT W) : isWispT (wispT W) = true := by
  obtain ⟨⟨gd, s0, s1, _⟩, fl, l8⟩ := g
  have l1 := gd.1
  have hall : (W.2.map brT).all isStep = true := by
    rw [List.all_eq_true]
    intro t ht
    obtain ⟨b, hb, rfl⟩ := List.mem_map.mp ht
    have := gd.2.2 b hb
    show (decide (1 ≤ b.1) && decide (1 ≤ b.2)) = true
    rw [decide_eq_true (by omega), decide_eq_true (by omega)]
    rfl
  show (decide (0 ≤ W.1) && decide (W.1 ≤ 1) && (decide (1 ≤ (W.2.map brT).length) && decide ((W.2.map brT).length ≤ 8) && (W.2.map brT).all isStep && fallsT ((W.2.map brT).map firstT))) = true
  rw [hall, falls_of fl, List.length_map, decide_eq_true s0, decide_eq_true s1, decide_eq_true l1, decide_eq_true l8]
  rfl
theorem good_isRow {Ws : List Wi} (g : ∀ W ∈ Ws, GoodT W) (h60 : Ws.length ≤ 60) : isRowT (.tup (Ws.map wispT)) = true := by
  show (decide ((Ws.map wispT).length ≤ 60) && (Ws.map wispT).all isWispT) = true
  rw [List.length_map, decide_eq_true h60, Bool.true_and, List.all_eq_true]
  intro t ht
  obtain ⟨W, hW, rfl⟩ := List.mem_map.mp ht
  exact good_isWisp (g W hW)
theorem deep_all {ts : List Th} {n : Nat} (h : ∀ t ∈ ts, t.deep ≤ n) : Th.deepAll ts ≤ n := by
  induction ts with
  | nil => exact Nat.zero_le _
  | cons t r ih =>
    show max t.deep (Th.deepAll r) ≤ n
    have h1 := h t List.mem_cons_self
    have h2 := ih fun x hx => h x (List.mem_cons_of_mem _ hx)
    omega
theorem isRow_it {B : Int} {H : Hp} {v : V} {t : Th} (hB : B ≤ 2 ^ 250) (h : ThAt B H v t) (e : isRowT t = true) : IT t ∧ t.deep < 5 := by
  cases t with
  | int m => cases e
  | bl b => cases e
  | oth => cases e
  | tup ts =>
    obtain ⟨e1, e2⟩ := Bool.and_eq_true_iff.mp (show (decide (ts.length ≤ 60) && ts.all isWispT) = true from e)
    have e1 := of_decide_eq_true e1
    rw [List.all_eq_true] at e2
    obtain ⟨a, vs, rfl, _, hvl, hh⟩ := h.tupE
    have each : ∀ x ∈ ts, IT x ∧ x.deep ≤ 3 := fun x hx => by
      obtain ⟨i, hi, ei⟩ := List.getElem_of_mem hx
      have hx' := hh i _ _ (List.getElem?_eq_getElem (by omega)) (List.getElem?_eq_getElem hi)
      rw [ei] at hx'
      have ew := e2 x hx
      cases x with
      | int m => cases ew
      | bl b => cases ew
      | oth => cases ew
      | tup us =>
        match us, ew, hx' with
        | [], ew, _ => cases ew
        | [_], ew, _ => cases ew
        | _ :: _ :: _ :: _, ew, _ => cases ew
        | [s, st], ew, hx' =>
          obtain ⟨f1, f3⟩ := Bool.and_eq_true_iff.mp (show (whT s 0 && decide (numT s ≤ 1) && areSteps st) = true from ew)
          obtain ⟨f1, f2⟩ := Bool.and_eq_true_iff.mp f1
          obtain ⟨m, rfl, m0⟩ := wh_of f1
          obtain ⟨c, ws, _, _, hwl, hw⟩ := hx'.tupE
          have hwl : ws.length = 2 := hwl
          have b1 := (hw 0 _ (.int m) (List.getElem?_eq_getElem (by omega)) rfl).intB
          have hst := hw 1 _ st (List.getElem?_eq_getElem (by omega)) rfl
          have ist : IT st ∧ st.deep ≤ 2 := by
            cases st with
            | int m => cases f3
            | bl b => cases f3
            | oth => cases f3
            | tup ss =>
              obtain ⟨p1, _⟩ := Bool.and_eq_true_iff.mp (show (decide (1 ≤ ss.length) && decide (ss.length ≤ 8) && ss.all isStep && fallsT (ss.map firstT)) = true from f3)
              obtain ⟨p1, p2⟩ := Bool.and_eq_true_iff.mp p1
              obtain ⟨_, p3⟩ := Bool.and_eq_true_iff.mp p1
              have p3 := of_decide_eq_true p3
              rw [List.all_eq_true] at p2
              obtain ⟨_, ys, _, _, hyl, hy⟩ := hst.tupE
              refine ⟨.tup (by omega) fun y hy' => ?_, ?_⟩
              · obtain ⟨k, l, rfl, _⟩ := isStep_of (p2 y hy')
                obtain ⟨j, hj, ej⟩ := List.getElem_of_mem hy'
                have hyy := hy j _ _ (List.getElem?_eq_getElem (by omega)) (List.getElem?_eq_getElem hj)
                rw [ej] at hyy
                obtain ⟨_, zs, _, _, hzl, hz⟩ := hyy.tupE
                have hzl : zs.length = 2 := hzl
                have c1 := (hz 0 _ (.int k) (List.getElem?_eq_getElem (by omega)) rfl).intB
                have c2 := (hz 1 _ (.int l) (List.getElem?_eq_getElem (by omega)) rfl).intB
                refine .tup (by show 2 ≤ 60; decide) fun z hz => ?_
                simp only [List.mem_cons, List.not_mem_nil, or_false] at hz
                rcases hz with rfl | rfl
                · exact .int (by omega) (by omega)
                · exact .int (by omega) (by omega)
              · show Th.deepAll ss + 1 ≤ 2
                have := deep_all (ts := ss) (n := 1) fun y hy' => by
                  obtain ⟨k, l, rfl, _⟩ := isStep_of (p2 y hy')
                  exact Nat.le_refl _
                omega
          refine ⟨.tup (by show 2 ≤ 60; decide) fun z hz => ?_, ?_⟩
          · simp only [List.mem_cons, List.not_mem_nil, or_false] at hz
            rcases hz with rfl | rfl
            · exact .int (by omega) (by omega)
            · exact ist.1
          · show max 0 (max st.deep 0) + 1 ≤ 3
            have := ist.2
            omega
    refine ⟨.tup e1 fun x hx => (each x hx).1, ?_⟩
    show Th.deepAll ts + 1 < 5
    have := deep_all (ts := ts) (n := 3) fun x hx => (each x hx).2
    omega
theorem places_th {H : Hp} {o : Addr} {ms : List Int} (e : H o = some (.tup (ms.map V.int))) (bd : ∀ m ∈ ms, 0 ≤ m ∧ m ≤ 2 ^ 200) (h60 : ms.length ≤ 60) : ThAt (2 ^ 200) H (.ref o) (.tup (ms.map Th.int)) ∧ IT (.tup (ms.map Th.int)) ∧ (Th.tup (ms.map Th.int)).deep < 5 := by
  refine ⟨.tup e (by rw [List.length_map, List.length_map]) fun i v t h1 h2 => ?_, .tup (by rw [List.length_map]; exact h60) fun t ht => ?_, ?_⟩
  · rw [List.getElem?_map] at h1 h2
    cases em : ms[i]? with
    | none =>
      rw [em] at h1
      cases h1
    | some m =>
      rw [em] at h1 h2
      cases h1
      cases h2
      have := bd m (List.mem_of_getElem? em)
      exact .int m (by omega) (by omega)
  · obtain ⟨m, hm, rfl⟩ := List.mem_map.mp ht
    have := bd m hm
    exact .int (by omega) (by omega)
  · show Th.deepAll (ms.map Th.int) + 1 < 5
    have := deep_all (ts := ms.map Th.int) (n := 0) fun t ht => by
      obtain ⟨m, _, rfl⟩ := List.mem_map.mp ht
      exact Nat.le_refl _
    omega
/-! ### lists of a wisp, a place and None -/
def LstAt (H : Hp) (e : Addr) (L : Lw) : Prop := ∃ wa, H e = some (.lst [.ref wa, .int L.pl, .non]) ∧ WispAt H wa L.so L.ps
def lstD (L : Lw) : PyData := .list [wispD L.so L.ps, .int L.pl, .none]
def LstsAt (H : Hp) (D : Addr) (es : List Addr) (Ls : List Lw) : Prop := es.length = Ls.length ∧ ∀ (i : Nat) (e : Addr), es[i]? = some e → ∃ L, Ls[i]? = some L ∧ LstAt H e L ∧ e ≠ D
theorem LstsAt.nil {H : Hp} {D : Addr} : LstsAt H D [] [] := ⟨rfl, fun i e h => by cases h⟩
theorem LstAt.same {H H' : Hp} {e : Addr} {L : Lw} (s : Same H H') (h : LstAt H e L) : LstAt H' e L := by
  obtain ⟨wa, h1, h2⟩ := h
  exact ⟨wa, s _ _ h1, h2.mono (Tups.same s)⟩
theorem LstsAt.same {H H' : Hp} {D : Addr} {es : List Addr} {Ls : List Lw} (s : Same H H') (h : LstsAt H D es Ls) : LstsAt H' D es Ls :=
  ⟨h.1, fun i e he => by
    obtain ⟨L, h1, h2, h3⟩ := h.2 i e he
    exact ⟨L, h1, h2.same s, h3⟩⟩
theorem LstsAt.put {H : Hp} {D : Addr} {es : List Addr} {Ls : List Lw} {xs ys : List V} (h : LstsAt H D es Ls) (e : H D = some (.lst xs)) : LstsAt (upd H D (.lst ys)) D es Ls :=
  ⟨h.1, fun i c he => by
    obtain ⟨L, h1, ⟨wa, h2, h4⟩, h3⟩ := h.2 i c he
    exact ⟨L, h1, ⟨wa, (upd_ne h3).trans h2, h4.mono (Tups.ls e)⟩, h3⟩⟩
theorem LstsAt.snoc {H : Hp} {D c : Addr} {es : List Addr} {Ls : List Lw} {L : Lw} (h : LstsAt H D es Ls) (hc : LstAt H c L) (n : c ≠ D) : LstsAt H D (es ++ [c]) (Ls ++ [L]) := by
  refine ⟨by rw [List.length_append, List.length_append, h.1]; rfl, fun i e he => ?_⟩
  by_cases hi : i < es.length
  · rw [List.getElem?_append_left hi] at he
    obtain ⟨M, h1, h2, h3⟩ := h.2 i e he
    exact ⟨M, by rw [List.getElem?_append_left (by rw [← h.1]; exact hi)]; exact h1, h2, h3⟩
  · rw [List.getElem?_append_right (by omega)] at he
    have hz : i - es.length = 0 := by
      have := (List.getElem?_eq_some_iff.mp he).1
      have h1 : [c].length = 1 := rfl
      omega
    rw [hz] at he
    have : c = e := Option.some.inj he
    subst this
    refine ⟨L, ?_, hc, n⟩
    rw [List.getElem?_append_right (by rw [← h.1]; omega), ← h.1, hz]
    rfl
theorem lsts_dpA {K : PySem.W.Frag} {H : Hp} {D : Addr} : ∀ {es : List Addr} {Ls : List Lw}, LstsAt H D es Ls → DpAll K H (es.map V.ref) (Ls.map lstD)
  | [], [], _ => .nil
  | [], _ :: _, h => absurd h.1 (by simp)
  | _ :: _, [], h => absurd h.1 (by simp)
  | e :: es, L :: Ls, h => by
    obtain ⟨M, h1, ⟨wa, h2, h3⟩, _⟩ := h.2 0 e rfl
    have : L = M := Option.some.inj h1
    subst this
    exact .cons (.lst (SqL.of h2) (.cons h3.dp (.cons (.int _) (.cons .non .nil)))) (lsts_dpA ⟨Nat.succ.inj (by simpa using h.1), fun i b hb => h.2 (i + 1) b hb⟩)
theorem lsts_ne {K : PySem.W.Frag} {H : Hp} {a b D : Addr} {es fs : List Addr} {Ls : List Lw} {Q : VK} (ea : H a = some (.lst (es.map V.ref))) (eb : H b = some (.lst (fs.map V.ref))) (ha : LstsAt H D es Ls) (hb : LstsAt H b fs Ls) (g : ∀ L ∈ Ls, Good L.ps ∧ 0 ≤ L.so ∧ L.so ≤ 1 ∧ 0 ≤ L.pl ∧ L.pl < 2 ^ 250) (q : Q (.bl false) H) : rNeD K (.ref a) (.ref b) H Q := by
  have sh : SeqAt.shaped (.list (Ls.map lstD)) = true := by
    refine Sh.shaped (.lst fun x hx => ?_) ?_
    · obtain ⟨L, hL, rfl⟩ := List.mem_map.mp hx
      obtain ⟨g1, g2, g3, g4, g5⟩ := g L hL
      refine .lst fun y hy => ?_
      simp only [List.mem_cons, List.not_mem_nil, or_false] at hy
      rcases hy with rfl | rfl | rfl
      · exact wisp_sh g2 g3 g1
      · exact .int (log_lt g4 g5)
      · exact .non
    · refine Nat.le_trans (Nat.succ_le_succ (depth_all (n := 4) fun x hx => ?_)) (by decide)
      obtain ⟨L, hL, rfl⟩ := List.mem_map.mp hx
      show max (wispD L.so L.ps).depth (max 0 (max 0 0)) + 1 ≤ 4
      have := wisp_depth L.so L.ps
      omega
  refine ⟨.list (Ls.map lstD), .list (Ls.map lstD), .lst (SqL.of ea) (lsts_dpA ha), .lst (SqL.of eb) (lsts_dpA hb), sh, sh, ?_⟩
  rw [SeqAt.eqv_refl _ (SeqAt.canLay_of_shaped sh)]
  exact q
/-! ### things at addresses, one by one -/
def Each {α : Type} (φ : Addr → α → Prop) (as : List Addr) (xs : List α) : Prop := as.length = xs.length ∧ ∀ (i : Nat) (a : Addr) (x : α), as[i]? = some a → xs[i]? = some x → φ a x
section
variable {α : Type} {φ ψ : Addr → α → Prop}
theorem Each.mono {as : List Addr} {xs : List α} (h : Each φ as xs) (f : ∀ a x, φ a x → ψ a x) : Each ψ as xs := ⟨h.1, fun i a x h1 h2 => f a x (h.2 i a x h1 h2)⟩
theorem Each.nil : Each φ [] [] := ⟨rfl, fun i a x h => by cases h⟩
theorem Each.app {as bs : List Addr} {xs ys : List α} (h : Each φ as xs) (g : Each φ bs ys) : Each φ (as ++ bs) (xs ++ ys) := by
  refine ⟨by rw [List.length_append, List.length_append, h.1, g.1], fun i a x e1 e2 => ?_⟩
  by_cases c : i < as.length
  · rw [List.getElem?_append_left c] at e1
    rw [List.getElem?_append_left (by rw [← h.1]; exact c)] at e2
    exact h.2 i a x e1 e2
  · rw [List.getElem?_append_right (by omega)] at e1
    rw [List.getElem?_append_right (by rw [← h.1]; omega), ← h.1] at e2
    exact g.2 _ a x e1 e2
theorem Each.one {a : Addr} {x : α} (h : φ a x) : Each φ [a] [x] := ⟨rfl, fun i b y e1 e2 => by
  cases i with
  | zero =>
    cases e1
    cases e2
    exact h
  | succ i => cases e1⟩
theorem Each.snoc {as : List Addr} {xs : List α} {a : Addr} {x : α} (h : Each φ as xs) (e : φ a x) : Each φ (as ++ [a]) (xs ++ [x]) := h.app (Each.one e)
theorem Each.take {as : List Addr} {xs : List α} (h : Each φ as xs) (n : Nat) : Each φ (as.take n) (xs.take n) := by
  refine ⟨by rw [List.length_take, List.length_take, h.1], fun i a x e1 e2 => ?_⟩
  rw [List.getElem?_take] at e1 e2
  split at e1
  · next c =>
    rw [if_pos c] at e2
    exact h.2 i a x e1 e2
  · cases e1
theorem Each.drop {as : List Addr} {xs : List α} (h : Each φ as xs) (n : Nat) : Each φ (as.drop n) (xs.drop n) := by
  refine ⟨by rw [List.length_drop, List.length_drop, h.1], fun i a x e1 e2 => ?_⟩
  rw [List.getElem?_drop] at e1 e2
  exact h.2 _ a x e1 e2
theorem Each.get {as : List Addr} {xs : List α} (h : Each φ as xs) {i : Nat} {v : V} (e : (as.map V.ref)[i]? = some v) : ∃ a x, v = .ref a ∧ as[i]? = some a ∧ xs[i]? = some x ∧ φ a x := by
  obtain ⟨a, rfl, ea⟩ := ref_get e
  have hi := (List.getElem?_eq_some_iff.mp ea).1
  have ex : xs[i]? = some (xs[i]'(by rw [← h.1]; exact hi)) := List.getElem?_eq_getElem _
  exact ⟨a, _, rfl, ea, ex, h.2 i a _ ea ex⟩
end
/-! ### numbers as texts, texts put together and parted -/
abbrev tI (n : Int) : Str := Str.ofString (toString n)
abbrev cpl (s : Str) : List Nat := s.cps.toList
theorem str_ext {a b : Str} (h : cpl a = cpl b) : a = b := by
  cases a with
  | mk a =>
  cases b with
  | mk b =>
  have : a = b := Array.toList_inj.mp h
  rw [this]
theorem cpl_app (a b : Str) : cpl (a ++ b) = cpl a ++ cpl b := by
  show (a ++ b).cps.toList = _
  rw [Str.cps_append, Array.toList_append]
theorem cpl_len (a : Str) : a.length = (cpl a).length := rfl
theorem digs (n : Nat) : ∃ c r, (Nat.toDigits 10 n).map Char.toNat = c :: r ∧ (∀ x ∈ c :: r, 48 ≤ x ∧ x ≤ 57) ∧ NumText.digitsVal (c :: r) = n ∧ (c = 48 → n = 0 ∧ r = []) := by
  induction n using Nat.strongRecOn with
  | _ n ih =>
    have hd : ∀ d, d < 10 → (Nat.digitChar d).toNat = 48 + d := fun d hd => by
      match d, hd with
      | 0, _ => rfl
      | 1, _ => rfl
      | 2, _ => rfl
      | 3, _ => rfl
      | 4, _ => rfl
      | 5, _ => rfl
      | 6, _ => rfl
      | 7, _ => rfl
      | 8, _ => rfl
      | 9, _ => rfl
      | _ + 10, h => omega
    by_cases h : n < 10
    · rw [Nat.toDigits_of_lt_base h]
      refine ⟨48 + n, [], by show [(Nat.digitChar n).toNat] = _; rw [hd n h], fun x hx => ?_, ?_, fun e => ⟨by omega, rfl⟩⟩
      · rw [List.mem_singleton.mp hx]
        omega
      · show 0 * 10 + (48 + n - 48) = n
        omega
    · obtain ⟨c, r, e1, e2, e3, e4⟩ := ih (n / 10) (by omega)
      rw [Nat.toDigits_of_base_le (by decide) (by omega)]
      have hm := hd (n % 10) (by omega)
      refine ⟨c, r ++ [48 + n % 10], ?_, fun x hx => ?_, ?_, fun e => ?_⟩
      · rw [List.map_append, e1]
        show c :: r ++ [(Nat.digitChar (n % 10)).toNat] = _
        rw [hm]
        rfl
      · have hx : x ∈ (c :: r) ++ [48 + n % 10] := hx
        rcases List.mem_append.mp hx with hx | hx
        · exact e2 x hx
        · rw [List.mem_singleton.mp hx]
          omega
      · show NumText.digitsVal ((c :: r) ++ [48 + n % 10]) = n
        rw [NumText.digitsVal_snoc, e3]
        omega
      · have := (e4 e).1
        omega
theorem tI_cps {n : Int} (h : 0 ≤ n) : cpl (tI n) = (Nat.toDigits 10 n.toNat).map Char.toNat := by
  obtain ⟨m, rfl⟩ : ∃ m : Nat, n = m := ⟨n.toNat, by omega⟩
  show (Str.ofString (toString (m : Int))).cps.toList = _
  rw [signs_ofString]
  show (toString m).toList.map Char.toNat = _
  rw [Int.toNat_natCast]
  show (Nat.repr m).toList.map _ = _
  rw [Nat.repr, String.toList_ofList]
theorem tI_dig {n : Int} (h : 0 ≤ n) : ∃ c r, cpl (tI n) = c :: r ∧ (∀ x ∈ cpl (tI n), 48 ≤ x ∧ x ≤ 57) ∧ (c = 48 → n = 0) := by
  obtain ⟨c, r, e1, e2, e3, e4⟩ := digs n.toNat
  rw [tI_cps h, e1]
  exact ⟨c, r, rfl, e2, fun e => by have := (e4 e).1; omega⟩
theorem tI_free {n : Int} (h : 0 ≤ n) {c : Nat} (hc : c < 48 ∨ 57 < c) : c ∉ cpl (tI n) := fun hm => by
  obtain ⟨_, _, _, h2, _⟩ := tI_dig h
  have := h2 c hm
  omega
theorem tI_len {n : Int} (h : 0 ≤ n) (h2 : n < 10 ^ 40) : 1 ≤ (tI n).length ∧ (tI n).length ≤ 40 := by
  refine ⟨?_, toString_length_le h (by decide) h2⟩
  obtain ⟨c, r, e, _⟩ := tI_dig h
  rw [cpl_len, e]
  exact Nat.succ_le_succ (Nat.zero_le _)
theorem tI_int {n : Int} (h : 0 ≤ n) (h2 : n < 10 ^ 40) : intText? (tI n) = some n := by
  obtain ⟨c, r, e1, e2, e3, e4⟩ := digs n.toNat
  have hc := tI_cps h
  rw [e1] at hc
  have := intText_digits (x := tI n) (by rw [show (tI n).cps.toList = c :: r from hc]; exact e2) (by rw [show (tI n).cps.toList = c :: r from hc]; simp) (by have := (tI_len h h2).2; omega)
  rw [this, show (tI n).cps.toList = c :: r from hc, e3]
  congr 1
  omega
theorem tI_log {n : Int} (h : 0 ≤ n) (h2 : n < 10 ^ 40) : n.natAbs.log2 < 1920 := by
  by_cases e : n = 0
  · subst e
    decide
  · have : n.natAbs < 2 ^ 140 := by omega
    have := (Nat.log2_lt (by omega)).mpr this
    omega
/-- texts without a sign, put together by it -/
theorem free_head {c : Nat} : ∀ {a a' b b' : List Nat}, c ∉ a → c ∉ a' → a ++ c :: b = a' ++ c :: b' → a = a' ∧ b = b'
  | [], [], _, _, _, _, h => ⟨rfl, (List.cons.inj h).2⟩
  | [], x :: r, _, _, _, h2, h => by
    have := (List.cons.inj h).1
    subst this
    exact absurd (by simp) h2
  | x :: r, [], _, _, h1, _, h => by
    have := (List.cons.inj h).1
    subst this
    exact absurd (by simp) h1
  | x :: r, y :: s, _, _, h1, h2, h => by
    obtain ⟨e1, e2⟩ := List.cons.inj h
    subst e1
    obtain ⟨e3, e4⟩ := free_head (fun m => h1 (List.mem_cons_of_mem _ m)) (fun m => h2 (List.mem_cons_of_mem _ m)) e2
    exact ⟨by rw [e3], e4⟩
def gl (c : Nat) : List (List Nat) → List Nat
  | [] => []
  | [x] => x
  | x :: y :: r => x ++ c :: gl c (y :: r)
theorem gl_inj {c : Nat} : ∀ {xs ys : List (List Nat)}, xs ≠ [] → ys ≠ [] → (∀ x ∈ xs, c ∉ x) → (∀ y ∈ ys, c ∉ y) → gl c xs = gl c ys → xs = ys
  | [], _, h, _, _, _, _ => absurd rfl h
  | _ :: _, [], _, h, _, _, _ => absurd rfl h
  | [x], [y], _, _, _, _, h => by
    have h : x = y := h
    rw [h]
  | [x], y :: z :: s, _, _, h1, _, h => by
    have h : x = y ++ c :: gl c (z :: s) := h
    exact absurd (by rw [h]; simp) (h1 x (by simp))
  | x :: w :: r, [y], _, _, _, h2, h => by
    have h : x ++ c :: gl c (w :: r) = y := h
    exact absurd (by rw [← h]; simp) (h2 y (by simp))
  | x :: w :: r, y :: z :: s, _, _, h1, h2, h => by
    have h : x ++ c :: gl c (w :: r) = y ++ c :: gl c (z :: s) := h
    obtain ⟨e1, e2⟩ := free_head (h1 x (by simp)) (h2 y (by simp)) h
    subst e1
    have := gl_inj (xs := w :: r) (ys := z :: s) (by simp) (by simp) (fun a ha => h1 a (List.mem_cons_of_mem _ ha)) (fun a ha => h2 a (List.mem_cons_of_mem _ ha)) e2
    rw [this]
theorem join_gl (c : Nat) : ∀ xs : List Str, cpl (Str.join ⟨#[c]⟩ xs) = gl c (xs.map cpl)
  | [] => by
    rw [PyProof.Rows.join_nil]
    rfl
  | [x] => by
    rw [join_one]
    rfl
  | x :: y :: r => by
    rw [join_cons_cons, cpl_app, cpl_app, join_gl c (y :: r)]
    show cpl x ++ [c] ++ gl c ((y :: r).map cpl) = cpl x ++ c :: gl c ((y :: r).map cpl)
    rw [List.append_assoc]
    rfl
theorem join_eq (sep : Str) (xs : List Str) : Txt.join sep xs = Str.join sep xs := by
  have := join_plain_closes sep xs
  simpa using this
theorem map_cpl_inj {xs ys : List Str} (h : xs.map cpl = ys.map cpl) : xs = ys := by
  induction xs generalizing ys with
  | nil =>
    cases ys with
    | nil => rfl
    | cons _ _ => cases h
  | cons x r ih =>
    cases ys with
    | nil => cases h
    | cons y s =>
      obtain ⟨e1, e2⟩ := List.cons.inj h
      rw [str_ext e1, ih e2]
theorem split_glued (c : Nat) {xs : List Str} (hne : xs ≠ []) (hf : ∀ x ∈ xs, c ∉ cpl x) : Txt.split (Txt.join ⟨#[c]⟩ xs) ⟨#[c]⟩ = xs := by
  rw [join_eq]
  have h1 := StrLaws.join_split (Str.join ⟨#[c]⟩ xs) ⟨#[c]⟩
  have h2 := congrArg cpl h1
  rw [join_gl, join_gl] at h2
  have hp := split_pos (Str.join ⟨#[c]⟩ xs) ⟨#[c]⟩
  refine map_cpl_inj (gl_inj ?_ ?_ (fun x hx => ?_) (fun x hx => ?_) h2)
  · intro e
    rw [List.map_eq_nil_iff] at e
    rw [e] at hp
    cases hp
  · intro e
    exact hne (List.map_eq_nil_iff.mp e)
  · obtain ⟨y, hy, rfl⟩ := List.mem_map.mp hx
    exact StrLaws.split_free _ c y hy
  · obtain ⟨y, hy, rfl⟩ := List.mem_map.mp hx
    exact hf y hy
theorem part_at (c : Nat) (a b : Str) (hf : c ∉ cpl a) : Txt.partition (a ++ ⟨#[c]⟩ ++ b) ⟨#[c]⟩ = (a, ⟨#[c]⟩, b) := by
  have hx : cpl (a ++ ⟨#[c]⟩ ++ b) = cpl a ++ c :: cpl b := by
    rw [cpl_app, cpl_app, List.append_assoc]
    rfl
  generalize hX : a ++ ⟨#[c]⟩ ++ b = x at hx
  have hs := StrLaws.partition_sum x ⟨#[c]⟩
  have at_iff : ∀ i, StrLaws.At x ⟨#[c]⟩ x.length i ↔ (cpl x)[i]? = some c := fun i => by
    unfold StrLaws.At Builtin.Str.subAt
    rw [beq_iff_eq]
    have e1 : (x.cps.extract i (i + 1)).toList = ((cpl x).drop i).take 1 := by
      rw [Array.toList_extract, List.extract_eq_take_drop]
      congr 1
      omega
    constructor
    · rintro ⟨_, h⟩
      have h : x.cps.extract i (i + 1) = #[c] := h
      rw [h] at e1
      have e2 : ((cpl x).drop i)[0]? = some c := by
        have := congrArg (fun l => l[0]?) e1
        rw [List.getElem?_take_of_lt (by decide)] at this
        exact this.symm
      rw [List.getElem?_drop] at e2
      exact e2
    · intro h
      have hi := (List.getElem?_eq_some_iff.mp h).1
      refine ⟨hi, Array.toList_inj.mp ?_⟩
      show (x.cps.extract i (i + 1)).toList = [c]
      rw [e1]
      obtain ⟨hl, hv⟩ := List.getElem?_eq_some_iff.mp h
      rw [List.drop_eq_getElem_cons hl, hv]
      rfl
  rcases partition_whole x ⟨#[c]⟩ with ⟨h1, h2⟩ | ⟨i, h1, h2, h3⟩
  · exact absurd ((at_iff (cpl a).length).mpr (by rw [hx]; simp)) (h2 _)
  · have hi := (at_iff i).mp h2
    rw [h1] at hs ⊢
    have hs := congrArg cpl hs
    dsimp only at hs
    rw [cpl_app, cpl_app, hx, List.append_assoc] at hs
    have hs : cpl (Builtin.Str.strSub x 0 i) ++ c :: cpl (Builtin.Str.strSub x (i + (⟨#[c]⟩ : Str).length) x.length) = cpl a ++ c :: cpl b := hs
    have hfree : c ∉ cpl (Builtin.Str.strSub x 0 i) := fun hm => by
      obtain ⟨k, hk, ek⟩ := List.getElem_of_mem hm
      have e0 : cpl (Builtin.Str.strSub x 0 i) = (cpl x).take i := by
        show (x.cps.extract 0 i).toList = _
        rw [Array.toList_extract, List.extract_eq_take_drop, List.drop_zero, Nat.sub_zero]
      have hk2 : k < i := by
        rw [e0, List.length_take] at hk
        omega
      refine h3 k hk2 ((at_iff k).mpr ?_)
      have := List.getElem?_eq_getElem hk
      rw [ek, e0, List.getElem?_take_of_lt hk2] at this
      exact this
    obtain ⟨e1, e2⟩ := free_head hfree hf hs
    rw [str_ext e1, str_ext e2]
def tJoin (ts : List TE) : TE := fun σ H Q => tJs ts Str.empty σ H fun out H1 => Q (.str out) H1
theorem pe_joinN {X : Cx} {v1 v2 : Expr} {rest : List Expr} {ts : List TE} {pos : Pos} (h : PJ X (v1 :: v2 :: rest) ts) : PE X (.JoinedStr (v1 :: v2 :: rest) pos) (tJoin ts) := pe_joined h
/-! ### mixtures -/
def NumC (n : Int) : Prop := 0 ≤ n ∧ n < 2 ^ 140
def spNumC : Sp := fun vs H Q _ => ∃ (p : Addr) (T : Nat), vs = [.ref p] ∧ PotC H p T ∧ T < 2 ^ 38 ∧ ∀ d H', NumC d → PotC H' p (T + 10) → Keep p p H H' → Q (.int d) H'
def spGreatC : Sp := fun vs H Q _ => ∃ (p : Addr) (T : Nat), vs = [.ref p] ∧ PotC H p T ∧ T < 2 ^ 39 ∧ ∀ d H', 0 ≤ d → d < 2 ^ 135 → PotC H' p (T + 3) → Keep p p H H' → Q (.int d) H'
def MixAt (H : Hp) (a : Addr) (m n : Int) : Prop := H a = some (.tup [.int m, .int n]) ∧ NumC m ∧ NumC n ∧ 0 < m + n
theorem MixAt.mono {H H' : Hp} {a : Addr} {m n : Int} (h : MixAt H a m n) (t : Tups H H') : MixAt H' a m n := ⟨t _ _ h.1, h.2⟩
def spMixC : Sp := fun vs H Q _ => ∃ (p : Addr) (T : Nat), vs = [.ref p] ∧ PotC H p T ∧ T < 2 ^ 37 ∧ ∀ a m n H', MixAt H' a m n → H a = none → PotC H' p (T + 20) → Keep p p H H' → Q (.ref a) H'
def firsts (m n k : Int) : Int := k * m / (m + n)
def sortAt (m n k : Int) : Int := if firsts m n (k + 1) > firsts m n k then 0 else 1
def spTaken : Sp := fun vs H Q _ => ∃ (a : Addr) (m n k : Int), vs = [.ref a, .int k] ∧ MixAt H a m n ∧ 0 ≤ k ∧ k < 2 ^ 200 ∧ ∀ H' b, Same H H' → H b = none → H' b = some (.tup [.int (firsts m n k), .int (k - firsts m n k)]) → Q (.ref b) H'
def spSortOf : Sp := fun vs H Q _ => ∃ (a : Addr) (m n k : Int), vs = [.ref a, .int k] ∧ MixAt H a m n ∧ 0 ≤ k ∧ k < 2 ^ 199 ∧ ∀ H', Same H H' → Q (.int (sortAt m n k)) H'
def spRight29 : Sp := fun vs H Q _ => ∃ (a : Addr) (m n k : Int), vs = [.ref a, .int k] ∧ MixAt H a m n ∧ 0 ≤ k ∧ k < 2 ^ 199 ∧ ∀ H', Same H H' → Q (.bl true) H'
theorem firsts_bounds {m n k : Int} (h0 : 0 ≤ m) (h1 : 0 < m + n) (h2 : 0 ≤ k) : 0 ≤ firsts m n k ∧ 0 ≤ k * m - firsts m n k * (m + n) ∧ k * m - firsts m n k * (m + n) < m + n := by
  unfold firsts
  have e := Int.mul_ediv_add_emod (k * m) (m + n)
  have a1 := Int.emod_nonneg (k * m) (Int.ne_of_gt h1)
  have a2 := Int.emod_lt_of_pos (k * m) h1
  rw [Int.mul_comm (m + n)] at e
  exact ⟨Int.ediv_nonneg (Int.mul_nonneg h2 h0) (Int.le_of_lt h1), by omega, by omega⟩
theorem firsts_le {m n k : Int} (h0 : 0 ≤ m) (hn : 0 ≤ n) (h1 : 0 < m + n) (h2 : 0 ≤ k) : firsts m n k ≤ k := by
  obtain ⟨a, b, c⟩ := firsts_bounds h0 h1 h2
  have e : k * m ≤ k * (m + n) := Int.mul_le_mul_of_nonneg_left (by omega) h2
  have e2 : firsts m n k * (m + n) ≤ k * (m + n) := by omega
  exact Int.le_of_mul_le_mul_right e2 h1
theorem firsts_succ {m n k : Int} (h0 : 0 ≤ m) (hn : 0 ≤ n) (h1 : 0 < m + n) (h2 : 0 ≤ k) : firsts m n (k + 1) = firsts m n k ∨ firsts m n (k + 1) = firsts m n k + 1 := by
  obtain ⟨a, b, c⟩ := firsts_bounds h0 h1 h2
  obtain ⟨a', b', c'⟩ := firsts_bounds (k := k + 1) h0 h1 (by omega)
  have e : (k + 1) * m = k * m + m := by rw [Int.add_mul, Int.one_mul]
  rw [e] at b' c'
  generalize firsts m n (k + 1) = q' at *
  generalize firsts m n k = q at *
  have h3 : m ≤ m + n := by omega
  generalize m + n = W at *
  by_cases g1 : q' < q
  · have : (q' + 1) * W ≤ q * W := Int.mul_le_mul_of_nonneg_right (by omega) (by omega)
    rw [Int.add_mul, Int.one_mul] at this
    omega
  · by_cases g2 : q + 1 < q'
    · have : (q + 2) * W ≤ q' * W := Int.mul_le_mul_of_nonneg_right (by omega) (by omega)
      rw [Int.add_mul] at this
      omega
    · omega
theorem firsts_sort {m n k : Int} (h0 : 0 ≤ m) (hn : 0 ≤ n) (h1 : 0 < m + n) (h2 : 0 ≤ k) : firsts m n (k + 1) = firsts m n k + 1 - sortAt m n k ∧ (sortAt m n k = 0 ∨ sortAt m n k = 1) := by
  unfold sortAt
  rcases firsts_succ h0 hn h1 h2 with e | e
  · rw [e, if_neg (by omega)]
    exact ⟨by omega, .inr rfl⟩
  · rw [e, if_pos (by omega)]
    exact ⟨by omega, .inl rfl⟩
/-! ### mixtures of any kind -/
def intT : Th → Int
  | .int n => n
  | _ => 0
def isPt : Th → Bool
  | .tup [a, b, c] => whT a 0 && whT b 0 && whT c 0 && decide (0 < intT b + intT c)
  | _ => false
def headT : List Th → Int
  | t :: _ => firstT t
  | [] => 0
def areMx : Th → Bool
  | .tup ts => decide (1 ≤ ts.length) && decide (ts.length ≤ 8) && ts.all isPt && decide (headT ts = 0) && risesI (ts.map firstT)
  | _ => false
def goFrom : Int → List Th → Bool
  | _, [] => true
  | last, t :: r => isPt t && decide (last < firstT t) && (!decide (last = -1) || decide (firstT t = 0)) && goFrom (firstT t) r
theorem isPt_of {t : Th} (h : isPt t = true) : ∃ a b c, t = .tup [.int a, .int b, .int c] ∧ 0 ≤ a ∧ 0 ≤ b ∧ 0 ≤ c ∧ 0 < b + c := by
  cases t with
  | int m => cases h
  | bl b => cases h
  | oth => cases h
  | tup ts =>
    match ts, h with
    | [], h => cases h
    | [_], h => cases h
    | [_, _], h => cases h
    | [a, b, c], h =>
      obtain ⟨h, h4⟩ := Bool.and_eq_true_iff.mp (show (whT a 0 && whT b 0 && whT c 0 && decide (0 < intT b + intT c)) = true from h)
      obtain ⟨h, h3⟩ := Bool.and_eq_true_iff.mp h
      obtain ⟨h1, h2⟩ := Bool.and_eq_true_iff.mp h
      obtain ⟨m, rfl, m0⟩ := wh_of h1
      obtain ⟨l, rfl, l0⟩ := wh_of h2
      obtain ⟨k, rfl, k0⟩ := wh_of h3
      exact ⟨m, l, k, rfl, m0, l0, k0, of_decide_eq_true h4⟩
    | _ :: _ :: _ :: _ :: _, h => cases h
theorem go_rest : ∀ {ts : List Th} {last : Int}, 0 ≤ last → goFrom last ts = (ts.all isPt && risesI (last :: ts.map firstT))
  | [], last, h => rfl
  | t :: r, last, h => by
    show (isPt t && decide (last < firstT t) && (!decide (last = -1) || decide (firstT t = 0)) && goFrom (firstT t) r) = (isPt t && r.all isPt && (decide (last < firstT t) && risesI (firstT t :: r.map firstT)))
    rw [decide_eq_false (show ¬ last = -1 by omega)]
    cases hp : isPt t with
    | false => rfl
    | true =>
      obtain ⟨a, b, c, rfl, a0, _⟩ := isPt_of hp
      have := go_rest (ts := r) (last := a) a0
      show (true && decide (last < a) && (!false || decide (a = 0)) && goFrom a r) = _
      rw [this]
      show (true && decide (last < a) && true && _) = (true && _ && (decide (last < a) && _))
      cases decide (last < a) <;> cases r.all isPt <;> rfl
theorem go_all {ts : List Th} (h : 1 ≤ ts.length) : goFrom (-1) ts = (ts.all isPt && decide (headT ts = 0) && risesI (ts.map firstT)) := by
  match ts, h with
  | t :: r, _ =>
    show (isPt t && decide (-1 < firstT t) && (!decide ((-1 : Int) = -1) || decide (firstT t = 0)) && goFrom (firstT t) r) = (isPt t && r.all isPt && decide (firstT t = 0) && risesI (firstT t :: r.map firstT))
    cases hp : isPt t with
    | false => rfl
    | true =>
      obtain ⟨a, b, c, rfl, a0, _⟩ := isPt_of hp
      show (true && decide (-1 < a) && (!decide ((-1 : Int) = -1) || decide (a = 0)) && goFrom a r) = _
      rw [go_rest a0, decide_eq_true (show -1 < a by omega)]
      show (true && true && (false || decide (a = 0)) && (r.all isPt && _)) = (true && r.all isPt && decide (a = 0) && _)
      cases decide (a = 0) <;> cases r.all isPt <;> rfl
def spIsPart : Sp := fun vs H Q _ => ∃ (v : V) (t : Th), vs = [v] ∧ ThAt topB H v t ∧ ∀ H', Same H H' → Q (.bl (isPt t)) H'
def spAreMx : Sp := fun vs H Q _ => ∃ (v : V) (t : Th), vs = [v] ∧ ThAt topB H v t ∧ ∀ H', Same H H' → Q (.bl (areMx t)) H'
def spParts28 : Sp := fun vs H Q _ => ∃ (p : Addr) (T : Nat), vs = [.ref p] ∧ PotC H p T ∧ T < 2 ^ 36 ∧ ∀ H' o t, PotC H' p (T + 300) → Keep p p H H' → ThAt (2 ^ 200) H' (.ref o) t → IT t → t.deep < 3 → Q (.ref o) H'
def spOtherN : Sp := fun vs H Q _ => ∃ (B : Int) (p : Addr) (T : Nat) (v : V) (t : Th), vs = [.ref p, v] ∧ PotC H p T ∧ T < 2 ^ 36 ∧ ThAt B H v t ∧ IT t ∧ t.isT = false ∧ 2 ^ 100 ≤ B ∧ ∀ H' u s, PotC H' p (T + 1) → Keep p p H H' → ThAt (2 * B + 100) H' u s → Q u H'
def spOtherT : Sp := fun vs H Q _ => ∃ (B : Int) (p : Addr) (T : Nat) (v : V) (ts : List Th), vs = [.ref p, v] ∧ PotC H p T ∧ T < 2 ^ 36 ∧ ThAt B H v (.tup ts) ∧ IT (.tup ts) ∧ 2 ^ 100 ≤ B ∧ ∀ H' u s, PotC H' p (T + 3) → Keep p p H H' → ThAt (2 * B + 100) H' u s → Q u H'
def spOther (n : Nat) : Sp := fun vs H Q _ => ∃ (B : Int) (p : Addr) (T : Nat) (v : V) (t : Th), vs = [.ref p, v] ∧ PotC H p T ∧ T + 8 * n < 2 ^ 35 ∧ ThAt B H v t ∧ IT t ∧ t.deep < n ∧ n ≤ 10 ∧ 2 ^ 100 ≤ B ∧ ∀ H' u s, PotC H' p (T + 8 * n) → Keep p p H H' → ThAt (2 * B + 100) H' u s → Q u H'
/-! ### a tuple again and again, of none too -/
section
theorem tuple_mul0 (l : Addr) (items : Array Value) (n : Nat) (dd : Option Addr) (sl : Array (Option Value)) (x : Int) (u : Tok) (c0 : (decide (x < -(2 ^ 63)) || decide (x ≥ 2 ^ 63)) = false) (c1 : (items.isEmpty || x == 1) = true) :
    Meets (Builtin.«tuple.__mul__» ⟨[.ref l, .int x u], []⟩) (fun _ R s => s.heap.get? l = some { cls := .type "tuple", dict := dd, data := .seq items n, slots := sl } ∧ R (.ok (.ret (.ref l))) s) :=
  .of_wp fun prog w A R s h => by
    obtain ⟨hp, g, d, tk, os⟩ := s
    obtain ⟨hl, h⟩ := h
    have f1 := AutoSeq1.idx_int
    wp_walk using wpAny_loadPart' hl
    repeat (first
      | (refine wpAny_ite_false (decide_eq_false (by rw [c0]; exact Bool.false_ne_true)) ?_; wp_walk using wpAny_loadPart' hl)
      | (refine wpAny_ite_true (decide_eq_true c1) ?_; wp_walk using wpAny_loadPart' hl))
    all_goals first | exact ⟨_, rfl, h⟩ | skip
def rRepTA (K : PySem.W.Frag) : R2 := fun x y H Q => ∃ l k xs, x = .ref l ∧ y = .int k ∧ SqT K H l xs ∧ 2 ≤ k ∧ k ≤ 1000 ∧ xs.length ≤ 1000 ∧ (xs = [] → Q (.ref l) H) ∧ (xs ≠ [] → ∀ p, H p = none → Q (.ref p) (upd H p (.tup (List.replicate k.toNat xs).flatten)))
variable {X : Cx}
theorem op_repTA : OpR X (binaryOp .Mult) (rRepTA X.K) := by
  intro pins s σ H x y v u Q I rx ry h
  obtain ⟨l, k, xs, rfl, rfl, hT, h1, h2, hz, q0, q1⟩ := h
  by_cases hne : xs = []
  · subst hne
    cases rx
    obtain ⟨t, rfl⟩ := ry
    obtain ⟨its, r, ⟨⟨cls, dd, data, sl⟩, ho, hc, n, hd⟩, hs⟩ := I.tuple hT
    simp only at hc hd
    subst hc hd
    have hle : its.length = 0 := r.length.symm
    have hits : its = [] := List.eq_nil_of_length_eq_zero hle
    subst hits
    have c0 : (decide (k < -(2 ^ 63)) || decide (k ≥ 2 ^ 63)) = false := by
      rw [decide_eq_false (by omega), decide_eq_false (by omega)] <;> rfl
    refine wpAny_binaryOp_repeat_ref (T := "tuple") (U := "int") (by decide) ⟨_, ho, rfl⟩ (fun s' => typeIs_int s' k t) noFill_tuple_mul F.fills_int_mul F.slot_int_rmul repeat_tuple F.slot_int_index.lookup
      (call_meets F.slot_int_rmul (typeIs_int s k t) F.entry_int_rmul (F.args_int_rmul_2 _ _) (int_rmul_tuple k t l #[] n dd sl)
        ⟨ho, rfl, ⟨_, ho, rfl⟩, call_meets F.slot_tuple_mul ⟨_, ho, rfl⟩ F.entry_tuple_mul (F.args_tuple_mul_2 _ _) (tuple_mul0 l #[] n dd sl k t c0 rfl) ⟨ho, ?_⟩⟩)
    exact ⟨.ref l, H, I, rfl, q0 rfl⟩
  · exact op_repT pins s σ H _ _ v u Q I rx ry ⟨l, k, xs, rfl, rfl, hT, hne, h1, h2, hz, q1 hne⟩
def rNeE (K : PySem.W.Frag) : R2 := fun x y H Q => ∃ a b xs, x = .ref a ∧ y = .ref b ∧ SqT K H a xs ∧ SqT K H b [] ∧ Q (.bl (!xs.isEmpty)) H
theorem op_neE (hu : X.A.units + 64 < cLine) : OpR X (compareOp .NotEq) (rNeE X.K) := by
  intro pins s σ H x y v u Q I rx ry h
  obtain ⟨a, b, xs, rfl, rfl, hA, hB, q⟩ := h
  cases rx
  cases ry
  obtain ⟨its, r, hT, _⟩ := I.tuple hA
  obtain ⟨its2, r2, hT2, _⟩ := I.tuple hB
  cases r2
  have e : (!((List.range (min its.toArray.size ([] : List Value).toArray.size)).all (fun _ => true) && its.toArray.size == ([] : List Value).toArray.size)) = !xs.isEmpty := by
    cases r with
    | nil => rfl
    | cons _ _ =>
      show (!(_ && (_ + 1 == 0))) = true
      rw [show ((_ + 1 : Nat) == 0) = false from rfl, Bool.and_false]
      rfl
  refine PySem.SeqAt.RcNeAt.tuples (e := fun _ => true) hT hT2 (by omega) (fun j h1 h2 => absurd h2 (Nat.not_lt_zero _)) _ _ _ _ ⟨.bl (!xs.isEmpty), H, I, ?_, q⟩
  rw [e]
  rfl
end
/-! ### things of any kind, their texts told -/
inductive Tk where
  | int (n : Int)
  | bl (b : Bool)
  | str (z : Str)
  | oth
  | tup (ts : List Tk)
inductive TkAt (B : Int) (H : Hp) : V → Tk → Prop where
  | int (n : Int) (h1 : -B ≤ n) (h2 : n ≤ B) : TkAt B H (.int n) (.int n)
  | bl (b : Bool) : TkAt B H (.bl b) (.bl b)
  | non : TkAt B H .non .oth
  | str (z : Str) (h : z.length ≤ 1000) : TkAt B H (.str z) (.str z)
  | lst {a : Addr} {xs : List V} (e : H a = some (.lst xs)) : TkAt B H (.ref a) .oth
  | dic {a : Addr} {kvs : List (Key × V)} (e : H a = some (.dK kvs)) : TkAt B H (.ref a) .oth
  | tup {a : Addr} {vs : List V} {ts : List Tk} (e : H a = some (.tup vs)) (hl : vs.length = ts.length) (hb : vs.length ≤ 300) (h : ∀ (i : Nat) (v : V) (t : Tk), vs[i]? = some v → ts[i]? = some t → TkAt B H v t) : TkAt B H (.ref a) (.tup ts)
mutual
def Tk.th : Tk → Th
  | .int n => .int n
  | .bl b => .bl b
  | .str _ => .oth
  | .oth => .oth
  | .tup ts => .tup (Tk.ths ts)
def Tk.ths : List Tk → List Th
  | [] => []
  | t :: r => t.th :: Tk.ths r
end
theorem ths_length : ∀ ts : List Tk, (Tk.ths ts).length = ts.length
  | [] => rfl
  | _ :: r => congrArg (· + 1) (ths_length r)
theorem ths_get : ∀ (ts : List Tk) (i : Nat) (t : Th), (Tk.ths ts)[i]? = some t → ∃ d, ts[i]? = some d ∧ t = d.th
  | [], i, t, h => by cases h
  | d :: r, 0, t, h => ⟨d, rfl, (Option.some.inj h).symm⟩
  | d :: r, i + 1, t, h => ths_get r i t h
section
variable {B : Int} {H H' : Hp} {v : V} {t : Tk}
theorem TkAt.th (h : TkAt B H v t) : ThAt B H v t.th := by
  induction h with
  | int n h1 h2 => exact .int n h1 h2
  | bl b => exact .bl b
  | non => exact .non
  | str z h => exact .str z
  | lst e => exact .lst e
  | dic e => exact .dic e
  | tup e hl _ _ ih =>
    refine .tup e (hl.trans (ths_length _).symm) fun i v t e1 e2 => ?_
    obtain ⟨d, e3, rfl⟩ := ths_get _ i t e2
    exact ih i v d e1 e3
theorem TkAt.mono (k : Kinds H H') (h : TkAt B H v t) : TkAt B H' v t := by
  induction h with
  | int n h1 h2 => exact .int n h1 h2
  | bl b => exact .bl b
  | non => exact .non
  | str z h => exact .str z h
  | lst e =>
    obtain ⟨ys, e1⟩ := k.2.1 _ _ e
    exact .lst e1
  | dic e =>
    obtain ⟨ys, e1⟩ := k.2.2 _ _ e
    exact .dic e1
  | tup e hl hb _ ih => exact .tup (k.1 _ _ e) hl hb ih
theorem TkAt.up {B' : Int} (l : B ≤ B') (h : TkAt B H v t) : TkAt B' H v t := by
  induction h with
  | int n h1 h2 => exact .int n (by omega) (by omega)
  | bl b => exact .bl b
  | non => exact .non
  | str z h => exact .str z h
  | lst e => exact .lst e
  | dic e => exact .dic e
  | tup e hl hb _ ih => exact .tup e hl hb ih
theorem TkAt.tupE {ts : List Tk} (h : TkAt B H v (.tup ts)) : ∃ a vs, v = .ref a ∧ H a = some (.tup vs) ∧ vs.length = ts.length ∧ ∀ (i : Nat) (v : V) (t : Tk), vs[i]? = some v → ts[i]? = some t → TkAt B H v t := by
  cases h with
  | tup e hl hb h => exact ⟨_, _, rfl, e, hl, h⟩
theorem TkAt.tupB {ts : List Tk} (h : TkAt B H v (.tup ts)) : ts.length ≤ 300 := by
  cases h with
  | tup e hl hb h => omega
def Tk.isS : Tk → Bool
  | .str _ => true
  | _ => false
theorem isi_str {K : PySem.W.Frag} (h : TkAt B H v t) : ∃ T : String, TyX K H v (.type T) ∧ PySem.W.kitOne K (.type T) (.type "str") = some t.isS := by
  cases h with
  | int n h1 h2 => exact ⟨_, .base (.int n), kit_ty (show kitB "int" "str" = some false by decide +kernel)⟩
  | bl b => exact ⟨_, .base (.bl b), kit_ty (show kitB "bool" "str" = some false by decide +kernel)⟩
  | non => exact ⟨_, .base .non, kit_ty (show kitB "NoneType" "str" = some false by decide +kernel)⟩
  | str z h => exact ⟨_, .base (.str z), kit_ty (show kitB "str" "str" = some true by decide +kernel)⟩
  | lst e => exact ⟨_, .base (.lst e), kit_ty (show kitB "list" "str" = some false by decide +kernel)⟩
  | dic e => exact ⟨_, .base (.dK e), kit_ty (show kitB "dict" "str" = some false by decide +kernel)⟩
  | tup e hl hb h => exact ⟨_, .base (.tup e), kit_ty (show kitB "tuple" "str" = some false by decide +kernel)⟩
theorem TkAt.strE {z : Str} (h : TkAt B H v (.str z)) : v = .str z ∧ z.length ≤ 1000 := by
  cases h with
  | str z h => exact ⟨rfl, h⟩
end
/-! what a name, an entry, a page is -/
def letC (c : Nat) : Bool := decide (97 ≤ c) && decide (c ≤ 122)
def isNameZ (z : Str) : Bool := decide (1 ≤ z.length) && decide (z.length ≤ 8) && (cpl z).all letC
def isNameK : Tk → Bool
  | .str z => isNameZ z
  | _ => false
def whK (t : Tk) : Bool := whT t.th 0
def entryK (z : Str) (r : List Tk) : Bool := match r with
  | [a, b] => if z = "let" then isNameK a && whK b else if z = "snap" then whK a && whK b else false
  | [a, b, c] => if z = "lay" then isNameK a && isWispT b.th && whK c else false
  | _ => false
def isEntryK : Tk → Bool
  | .tup (.str z :: r) => entryK z r
  | _ => false
def isPageK : Tk → Bool
  | .tup [a, b, .tup es] => whK a && whK b && (decide (es.length ≤ 20) && es.all isEntryK)
  | _ => false
def spNameK : Sp := fun vs H Q _ => ∃ (B : Int) (v : V) (t : Tk), vs = [v] ∧ TkAt B H v t ∧ ∀ H', Same H H' → Q (.bl (isNameK t)) H'
def spEntryK : Sp := fun vs H Q _ => ∃ (v : V) (t : Tk), vs = [v] ∧ TkAt topB H v t ∧ ∀ H', Same H H' → Q (.bl (isEntryK t)) H'
def spPageK : Sp := fun vs H Q _ => ∃ (v : V) (t : Tk), vs = [v] ∧ TkAt topB H v t ∧ ∀ H', Same H H' → Q (.bl (isPageK t)) H'
def spCountK : Sp := fun vs H Q _ => ∃ (v : V) (t : Tk), vs = [v] ∧ TkAt topB H v t ∧ Q (.bl (whK t)) H
def spRight54 : Sp := fun vs H Q _ => ∃ (v : V) (t : Tk), vs = [v] ∧ TkAt topB H v t ∧ ∀ H', Same H H' → Q (.bl true) H'
theorem small_line {n : Nat} (h : n ≤ 100000) : n ≤ sizeLine := Nat.le_trans h (by decide)
theorem pe_stripC {X : Cx} {o e : Expr} {to te : TE} {apos pos : Pos} (ho : PE X o to) (he : PE X e te) (hs : starEach [e] X.env = [(false, eval e X.env)] := by rfl)
    (hbase : attributeBase o "strip" X.env (eval o X.env) = eval o X.env := by rfl) (hline : (apos.endLine == pos.line) = true := by rfl) : PE X (.Call (.Attribute o "strip" apos) [e] [] pos) (tM1 (fun x xs H Q => ∃ a b, x = .str a ∧ xs = [.str b] ∧ a.length ≤ sizeLine ∧ Q (.str (Txt.stripChars a b)) H) to te) :=
  pe_m1 F.slot_str_strip F.type_str_strip mt_stripChars ho he hs hbase hline
theorem contains_let (c : Nat) : (Str.ofString "abcdefghijklmnopqrstuvwxyz").cps.contains c = letC c := by
  have e : (Str.ofString "abcdefghijklmnopqrstuvwxyz").cps.contains c = decide (c ∈ (Str.ofString "abcdefghijklmnopqrstuvwxyz").cps.toList) := by
    rw [Array.contains_eq_mem]
    exact decide_eq_decide.mpr Array.mem_toList_iff.symm
  rw [e]
  have e : (Str.ofString "abcdefghijklmnopqrstuvwxyz").cps.toList = [97, 98, 99, 100, 101, 102, 103, 104, 105, 106, 107, 108, 109, 110, 111, 112, 113, 114, 115, 116, 117, 118, 119, 120, 121, 122] := rfl
  rw [e]
  unfold letC
  rw [← Bool.decide_and]
  refine decide_eq_decide.mpr ?_
  simp only [List.mem_cons, List.not_mem_nil, or_false]
  omega
theorem strip_let (z : Str) : decide (V.str (Txt.stripChars z (Str.ofString "abcdefghijklmnopqrstuvwxyz")) = V.str (Str.ofString "")) = (cpl z).all letC := by
  unfold Txt.stripChars
  rw [show ((Str.ofString "abcdefghijklmnopqrstuvwxyz").cps.contains : Nat → Bool) = letC from funext contains_let, stripBy_eq]
  obtain ⟨l1, l2, l3⟩ := lo_facts letC z
  obtain ⟨h1, h2, h3, h4⟩ := hi_facts letC z _ l1
  generalize stripLo letC true z = lo at *
  generalize stripHi letC true z lo = hi at *
  have hz : z.length = (cpl z).length := rfl
  have get : ∀ (k : Nat) (hk : k < (cpl z).length), z.cps.getD k 0 = (cpl z)[k] := fun k hk => by
    rw [← getD_list]
    show (cpl z).getD k 0 = _
    rw [List.getD, List.getElem?_eq_getElem hk]
    rfl
  have hlen : (Builtin.Str.strSub z lo hi).length = hi - lo := by
    show (z.cps.extract lo hi).size = _
    rw [Array.size_extract]
    have : z.cps.size = z.length := rfl
    omega
  rw [Bool.eq_iff_iff, decide_eq_true_iff, List.all_eq_true]
  constructor
  · intro e c hc
    have e := V.str.inj e
    have h0 : hi - lo = 0 := by
      rw [← hlen, e]
      rfl
    obtain ⟨k, hk, rfl⟩ := List.getElem_of_mem hc
    rw [← get k hk]
    by_cases q : k < lo
    · exact l2 k q
    · exact h3 k (by omega) (by omega)
  · intro h
    have hlo : lo = z.length := by
      rcases l3 with h | h3
      · exact h
      · by_cases q : lo < (cpl z).length
        · rw [get lo q, h _ (List.getElem_mem q)] at h3
          cases h3
        · omega
    have h0 : (Builtin.Str.strSub z lo hi).length = 0 := by omega
    generalize Builtin.Str.strSub z lo hi = y at h0
    obtain ⟨a⟩ := y
    have : a = #[] := Array.eq_empty_of_size_eq_zero h0
    rw [this]
    rfl
/-! ### many things of any kind -/
section
variable {B : Int}
theorem tk_take {H : Hp} {vs : List V} {ts : List Tk} (h : ∀ (i : Nat) (v : V) (t : Tk), vs[i]? = some v → ts[i]? = some t → TkAt B H v t) (n : Nat) : ∀ (i : Nat) (v : V) (t : Tk), (vs.take n)[i]? = some v → (ts.take n)[i]? = some t → TkAt B H v t := fun i v t h1 h2 => by
  rw [List.getElem?_take] at h1 h2
  split at h1
  · next c =>
    rw [if_pos c] at h2
    exact h i v t h1 h2
  · cases h1
theorem tk_drop {H : Hp} {vs : List V} {ts : List Tk} (h : ∀ (i : Nat) (v : V) (t : Tk), vs[i]? = some v → ts[i]? = some t → TkAt B H v t) (n : Nat) : ∀ (i : Nat) (v : V) (t : Tk), (vs.drop n)[i]? = some v → (ts.drop n)[i]? = some t → TkAt B H v t := fun i v t h1 h2 => by
  rw [List.getElem?_drop] at h1 h2
  exact h _ v t h1 h2
theorem tk_app {H : Hp} {vs ws : List V} {ts ss : List Tk} (hl : vs.length = ts.length) (h : ∀ (i : Nat) (v : V) (t : Tk), vs[i]? = some v → ts[i]? = some t → TkAt B H v t) (g : ∀ (i : Nat) (v : V) (t : Tk), ws[i]? = some v → ss[i]? = some t → TkAt B H v t) : ∀ (i : Nat) (v : V) (t : Tk), (vs ++ ws)[i]? = some v → (ts ++ ss)[i]? = some t → TkAt B H v t := fun i v t h1 h2 => by
  by_cases c : i < vs.length
  · rw [List.getElem?_append_left c] at h1
    rw [List.getElem?_append_left (by omega)] at h2
    exact h i v t h1 h2
  · rw [List.getElem?_append_right (by omega)] at h1
    rw [List.getElem?_append_right (by omega), ← hl] at h2
    exact g _ v t h1 h2
/-- a tuple of things: its values and what they are -/
def TksAt (B : Int) (H : Hp) (vs : List V) : Prop := ∃ ts : List Tk, vs.length = ts.length ∧ ∀ (i : Nat) (v : V) (t : Tk), vs[i]? = some v → ts[i]? = some t → TkAt B H v t
theorem TksAt.app {H : Hp} {vs ws : List V} (a : TksAt B H vs) (b : TksAt B H ws) : TksAt B H (vs ++ ws) := by
  obtain ⟨ts, h1, h2⟩ := a
  obtain ⟨ss, g1, g2⟩ := b
  exact ⟨ts ++ ss, by rw [List.length_append, List.length_append, h1, g1], tk_app h1 h2 g2⟩
theorem TksAt.take {H : Hp} {vs : List V} (a : TksAt B H vs) (n : Nat) : TksAt B H (vs.take n) := by
  obtain ⟨ts, h1, h2⟩ := a
  exact ⟨ts.take n, by rw [List.length_take, List.length_take, h1], tk_take h2 n⟩
theorem TksAt.drop {H : Hp} {vs : List V} (a : TksAt B H vs) (n : Nat) : TksAt B H (vs.drop n) := by
  obtain ⟨ts, h1, h2⟩ := a
  exact ⟨ts.drop n, by rw [List.length_drop, List.length_drop, h1], tk_drop h2 n⟩
theorem TksAt.one {H : Hp} {v : V} {t : Tk} (h : TkAt B H v t) : TksAt B H [v] := ⟨[t], rfl, fun i u s h1 h2 => by
  cases i with
  | zero =>
    cases h1
    cases h2
    exact h
  | succ i => cases h1⟩
theorem TksAt.nil {H : Hp} : TksAt B H [] := ⟨[], rfl, fun i u s h1 h2 => by cases h1⟩
theorem TksAt.mono {H H' : Hp} {vs : List V} (a : TksAt B H vs) (k : Kinds H H') : TksAt B H' vs := by
  obtain ⟨ts, h1, h2⟩ := a
  exact ⟨ts, h1, fun i v t e1 e2 => (h2 i v t e1 e2).mono k⟩
theorem TksAt.rev {H : Hp} {vs : List V} (a : TksAt B H vs) : TksAt B H vs.reverse := by
  obtain ⟨ts, h1, h2⟩ := a
  refine ⟨ts.reverse, by rw [List.length_reverse, List.length_reverse, h1], fun i v t e1 e2 => ?_⟩
  have hi : i < vs.length := by
    have := (List.getElem?_eq_some_iff.mp e1).1
    simpa using this
  rw [List.getElem?_reverse hi] at e1
  rw [List.getElem?_reverse (by omega)] at e2
  exact h2 _ v t e1 (by rw [h1]; exact e2)
theorem TksAt.tup {H : Hp} {vs : List V} {a : Addr} (h : TksAt B H vs) (hb : vs.length ≤ 300) (e : H a = some (.tup vs)) : ∃ t, TkAt B H (.ref a) t := by
  obtain ⟨ts, h1, h2⟩ := h
  exact ⟨.tup ts, .tup e h1 hb h2⟩
theorem TksAt.mem {H : Hp} {vs : List V} (h : TksAt B H vs) {v : V} (hv : v ∈ vs) : ∃ t, TkAt B H v t := by
  obtain ⟨ts, h1, h2⟩ := h
  obtain ⟨i, hi, rfl⟩ := List.getElem_of_mem hv
  exact ⟨ts[i]'(by omega), h2 i _ _ (List.getElem?_eq_getElem hi) (List.getElem?_eq_getElem (by omega))⟩
def TkV (B : Int) (H : Hp) (v : V) : Prop := ∃ t, TkAt B H v t
theorem TkV.mono {H H' : Hp} {v : V} (h : TkV B H v) (k : Kinds H H') : TkV B H' v := by
  obtain ⟨t, h⟩ := h
  exact ⟨t, h.mono k⟩
theorem TksAt.of : ∀ {H : Hp} {vs : List V}, (∀ v ∈ vs, TkV B H v) → TksAt B H vs
  | H, [], _ => TksAt.nil
  | H, v :: r, h => by
    obtain ⟨t, ht⟩ := h v List.mem_cons_self
    exact (TksAt.one ht).app (TksAt.of fun u hu => h u (List.mem_cons_of_mem _ hu))
theorem TkV.tup {H : Hp} {a : Addr} {vs : List V} (hb : vs.length ≤ 300) (h : ∀ v ∈ vs, TkV B H v) (n : H a = none) : TkV B (upd H a (.tup vs)) (.ref a) :=
  ((TksAt.of h).mono (Kinds.same (same_new (Same.refl _) n))).tup hb upd_same
theorem TkV.lst {H : Hp} {a : Addr} {xs : List V} (e : H a = some (.lst xs)) : TkV B H (.ref a) := ⟨.oth, .lst e⟩
theorem TksAt.cut {H : Hp} {vs : List V} (a : TksAt B H vs) (lo hi : Option Int) : TksAt B H (cutV vs lo hi) := by
  unfold cutV
  exact (a.drop _).take _
theorem slK {K : PySem.W.Frag} {H : Hp} {a : Addr} {vs : List V} {lo hi : Option Int} {Q : VK} {N : Nat} (h : H a = some (.tup vs)) (t : TksAt B H vs) (hl : vs.length ≤ N) (q : ∀ H' p ws, Same H H' → H' p = some (.tup ws) → TksAt B H' ws → ws.length ≤ N → Q (.ref p) H') : rSlA K (.ref a) lo hi H Q :=
  slA h fun H' p s e => q H' p _ s e ((t.cut lo hi).mono (Kinds.same s)) (Nat.le_trans (cutV_length _ _ _) hl)
theorem catK {K : PySem.W.Frag} {H : Hp} {a b : Addr} {vs ws : List V} {Q : VK} (ha : H a = some (.tup vs)) (hb : H b = some (.tup ws)) (ta : TksAt B H vs) (tb : TksAt B H ws) (hz : vs.length + ws.length ≤ 1000) (q : ∀ H' p, Same H H' → H' p = some (.tup (vs ++ ws)) → TksAt B H' (vs ++ ws) → Q (.ref p) H') : rCatA K (.ref a) (.ref b) H Q :=
  catA ha hb (Nat.le_of_lt (small1000 hz)) fun H' p s e => q H' p s e ((ta.app tb).mono (Kinds.same s))
theorem TksAt.up {B B' : Int} {H : Hp} {vs : List V} (l : B ≤ B') (h : TksAt B H vs) : TksAt B' H vs := by
  obtain ⟨ts, h1, h2⟩ := h
  exact ⟨ts, h1, fun i v t e1 e2 => (h2 i v t e1 e2).up l⟩
end
inductive Ik : Tk → Prop where
  | int {n : Int} (h1 : -2 ^ 250 ≤ n) (h2 : n ≤ 2 ^ 250) : Ik (.int n)
  | str {z : Str} (h : z.length ≤ 40) : Ik (.str z)
  | tup {ts : List Tk} (hl : ts.length ≤ 60) (h : ∀ t ∈ ts, Ik t) : Ik (.tup ts)
mutual
def Tk.deep : Tk → Nat
  | .tup ts => Tk.deepAll ts + 1
  | _ => 0
def Tk.deepAll : List Tk → Nat
  | [] => 0
  | t :: r => max t.deep (Tk.deepAll r)
end
theorem deepK_mem : ∀ {ts : List Tk} {t : Tk}, t ∈ ts → t.deep ≤ Tk.deepAll ts
  | x :: r, t, h => by
    show t.deep ≤ max x.deep (Tk.deepAll r)
    rcases List.mem_cons.mp h with rfl | h
    · exact Nat.le_max_left _ _
    · have := deepK_mem h
      omega
theorem deepK_all {n : Nat} : ∀ {ts : List Tk}, (∀ t ∈ ts, t.deep ≤ n) → Tk.deepAll ts ≤ n
  | [], _ => Nat.zero_le _
  | t :: r, h => by
    have h1 := h t List.mem_cons_self
    have h2 := deepK_all (ts := r) fun x hx => h x (List.mem_cons_of_mem _ hx)
    show max t.deep (Tk.deepAll r) ≤ n
    omega
def Tk.isT : Tk → Bool
  | .tup _ => true
  | _ => false
/-- a good thing, as it is drawn -/
def DrawnK (H : Hp) (v : V) (n : Nat) : Prop := ∃ t, TkAt (2 ^ 200) H v t ∧ Ik t ∧ t.deep ≤ n
theorem DrawnK.mono {H H' : Hp} {v : V} {n : Nat} (h : DrawnK H v n) (k : Kinds H H') : DrawnK H' v n := by
  obtain ⟨t, h1, h2⟩ := h
  exact ⟨t, h1.mono k, h2⟩
theorem DrawnK.int {H : Hp} {m : Int} {n : Nat} (h : NumC m) : DrawnK H (.int m) n := ⟨.int m, .int m (by have := h.1; omega) (by have := h.2; omega), .int (by have := h.1; omega) (by have := h.2; omega), Nat.zero_le _⟩
theorem DrawnK.str {H : Hp} {z : Str} {n : Nat} (h : z.length ≤ 40) : DrawnK H (.str z) n := ⟨.str z, .str z (by omega), .str h, Nat.zero_le _⟩
theorem DrawnK.tup {H : Hp} {a : Addr} {vs : List V} {n : Nat} (e : H a = some (.tup vs)) (hl : vs.length ≤ 60) (h : ∀ v ∈ vs, DrawnK H v n) : DrawnK H (.ref a) (n + 1) := by
  have key : ∀ vs : List V, (∀ v ∈ vs, DrawnK H v n) → ∃ ts : List Tk, vs.length = ts.length ∧ (∀ (i : Nat) (v : V) (t : Tk), vs[i]? = some v → ts[i]? = some t → TkAt (2 ^ 200) H v t) ∧ ∀ t ∈ ts, Ik t ∧ t.deep ≤ n := by
    intro vs
    induction vs with
    | nil => exact fun _ => ⟨[], rfl, fun i v t e => by simp at e, fun t ht => by cases ht⟩
    | cons v r ih =>
      intro h
      obtain ⟨ts, h1, h2, h3⟩ := ih fun u hu => h u (List.mem_cons_of_mem _ hu)
      obtain ⟨t, g1, g2, g3⟩ := h v List.mem_cons_self
      refine ⟨t :: ts, congrArg (· + 1) h1, fun i u s e1 e2 => ?_, fun s hs => ?_⟩
      · cases i with
        | zero =>
          obtain rfl := Option.some.inj e1
          obtain rfl := Option.some.inj e2
          exact g1
        | succ i => exact h2 i u s e1 e2
      · rcases List.mem_cons.mp hs with rfl | hs
        · exact ⟨g2, g3⟩
        · exact h3 s hs
  obtain ⟨ts, h1, h2, h3⟩ := key vs h
  refine ⟨.tup ts, .tup e h1 (by omega) h2, .tup (by omega) fun t ht => (h3 t ht).1, ?_⟩
  have := deepK_all fun t ht => (h3 t ht).2
  exact Nat.succ_le_succ this
def spSign54 : Sp := fun vs H Q _ => ∃ (p : Addr) (T : Nat), vs = [.ref p] ∧ PotC H p T ∧ T < 2 ^ 39 ∧ ∀ H' c, PotC H' p (T + 1) → Keep p p H H' → Q (.str ⟨#[c]⟩) H'
def spName54 : Sp := fun vs H Q _ => ∃ (p : Addr) (T : Nat), vs = [.ref p] ∧ PotC H p T ∧ T < 2 ^ 38 ∧ ∀ H' z, z.length ≤ 9 → PotC H' p (T + 12) → Keep p p H H' → Q (.str z) H'
def spWisp54 : Sp := fun vs H Q _ => ∃ (p : Addr) (T : Nat), vs = [.ref p] ∧ PotC H p T ∧ T < 2 ^ 37 ∧ ∀ H' a, DrawnK H' (.ref a) 3 → PotC H' p (T + 300) → Keep p p H H' → Q (.ref a) H'
def spEntry54 : Sp := fun vs H Q _ => ∃ (p : Addr) (T : Nat), vs = [.ref p] ∧ PotC H p T ∧ T < 2 ^ 36 ∧ ∀ H' a, DrawnK H' (.ref a) 4 → PotC H' p (T + 400) → Keep p p H H' → Q (.ref a) H'
def spOtherN54 : Sp := fun vs H Q _ => ∃ (B : Int) (p : Addr) (T : Nat) (m : Int), vs = [.ref p, .int m] ∧ PotC H p T ∧ T < 2 ^ 36 ∧ -B ≤ m ∧ m ≤ B ∧ -2 ^ 250 ≤ m ∧ m ≤ 2 ^ 250 ∧ 2 ^ 100 ≤ B ∧ ∀ H' u, PotC H' p (T + 1) → Keep p p H H' → TkV (2 * B + 100) H' u → Q u H'
def spOtherS54 : Sp := fun vs H Q _ => ∃ (B : Int) (p : Addr) (T : Nat) (z : Str), vs = [.ref p, .str z] ∧ PotC H p T ∧ T < 2 ^ 36 ∧ z.length ≤ 40 ∧ 2 ^ 100 ≤ B ∧ ∀ H' u, PotC H' p (T + 5) → Keep p p H H' → TkV (2 * B + 100) H' u → Q u H'
def spOtherT54 : Sp := fun vs H Q _ => ∃ (B : Int) (p : Addr) (T : Nat) (v : V) (ts : List Tk), vs = [.ref p, v] ∧ PotC H p T ∧ T < 2 ^ 36 ∧ TkAt B H v (.tup ts) ∧ ts.length ≤ 60 ∧ 2 ^ 100 ≤ B ∧ ∀ H' u, PotC H' p (T + 3) → Keep p p H H' → TkV (2 * B + 100) H' u → Q u H'
def spOther54 (n : Nat) : Sp := fun vs H Q _ => ∃ (B : Int) (p : Addr) (T : Nat) (v : V) (t : Tk), vs = [.ref p, v] ∧ PotC H p T ∧ T + 8 * n < 2 ^ 35 ∧ TkAt B H v t ∧ Ik t ∧ t.deep < n ∧ n ≤ 10 ∧ 2 ^ 100 ≤ B ∧ ∀ H' u, PotC H' p (T + 8 * n) → Keep p p H H' → TkV (2 * B + 100) H' u → Q u H'
section
variable {P : Program} {w : World} {K : PySem.W.Frag} {mg : Str → Option Value} {base : Heap}
theorem ok_is_whole {f : Addr} {fd : FuncData} {k : Nat} (F : Fun K "is_whole" "is_whole" s_is_whole f fd) (bi : Bi mg) : FnOk P w K mg base CX0 (k + 1) f fd P_is_whole spWholeT := by
  refine F.ok sc_is_whole (fun vs H Q E h => ?_) (fun cdv A outer s H vs Q E hr h => ?_)
  · obtain ⟨v, t, n, rfl, _⟩ := h
    rfl
  · obtain ⟨v, t, n, rfl, hv, q⟩ := h
    refine ⟨_, (pss_one (ps_ret (pe_and (pe_callB call_isi (by rfl) bi.m_isinstance (by decide +kernel) (pa_cons (pv 0) (pa_cons (pe_bltn (v := .ty "int") (by rfl) bi.m_int (by decide +kernel) rfl) pa_nil))) (pe_and (pe_not (pe_callB call_isi (by rfl) bi.m_isinstance (by decide +kernel) (pa_cons (pv 0) (pa_cons (pe_bltn (v := .ty "bool") (by rfl) bi.m_bool (by decide +kernel) rfl) pa_nil)))) (pe_one (pe_cmpR op_ge (pv 0) (pv 1) (nomark _))))))), ?_⟩
    obtain ⟨Tint, hint, kint⟩ := isi_int (K := K) hv
    refine ⟨_, rfl, _, _, _, _, _, rfl, ClsV.ty "int", hint, kint, _, rfl, ?_⟩
    cases t with
    | int m =>
      refine iteT ?_
      obtain ⟨Tbl, hbl, kbl⟩ := isi_bl (K := K) hv
      refine ⟨_, rfl, _, _, _, _, _, rfl, ClsV.ty "bool", hbl, kbl, _, rfl, _, rfl, ?_⟩
      refine iteT ?_
      cases hv
      exact ⟨_, rfl, _, rfl, _, _, rfl, rfl, q⟩
    | bl b =>
      refine iteT ?_
      obtain ⟨Tbl, hbl, kbl⟩ := isi_bl (K := K) hv
      refine ⟨_, rfl, _, _, _, _, _, rfl, ClsV.ty "bool", hbl, kbl, _, rfl, _, rfl, ?_⟩
      exact iteF q
    | oth => exact iteF q
    | tup ts => exact iteF q
theorem ok_is_tuple {f : Addr} {fd : FuncData} {k : Nat} (F : Fun K "is_tuple" "is_tuple" s_is_tuple f fd) (bi : Bi mg) : FnOk P w K mg base CX0 (k + 1) f fd P_is_tuple spTupleT := by
  refine F.ok sc_is_tuple (fun vs H Q E h => ?_) (fun cdv A outer s H vs Q E hr h => ?_)
  · obtain ⟨v, t, m, n, rfl, _⟩ := h
    rfl
  · obtain ⟨v, t, m, n, rfl, hv, q⟩ := h
    refine ⟨_, (pss_one (ps_ret (pe_and (pe_callB call_isi (by rfl) bi.m_isinstance (by decide +kernel) (pa_cons (pv 0) (pa_cons (pe_bltn (v := .ty "tuple") (by rfl) bi.m_tuple (by decide +kernel) rfl) pa_nil))) (pe_one (pe_chain op_le op_le (pv 1) (pe_callB call_len_seq (by rfl) bi.m_len (by decide +kernel) (pa_cons (pv 0) pa_nil)) (pv 2)))))), ?_⟩
    obtain ⟨Ttup, htup, ktup⟩ := isi_tup (K := K) hv
    refine ⟨_, rfl, _, _, _, _, _, rfl, ClsV.ty "tuple", htup, ktup, _, rfl, ?_⟩
    cases t with
    | int m => exact iteF q
    | bl b => exact iteF q
    | oth => exact iteF q
    | tup ts =>
      refine iteT ?_
      obtain ⟨a, vs, rfl, ea, hl, hh⟩ := hv.tupE
      have q : Q (.bl (decide (m ≤ (ts.length : Int)) && decide ((ts.length : Int) ≤ n))) H := q
      rw [← hl] at q
      refine ⟨_, rfl, _, rfl, a, vs, rfl, .inr (SqT.of ea), _, _, rfl, rfl, _, rfl, ite2 (fun e => ?_) (fun e => ?_)⟩
      · rw [e, Bool.true_and] at q
        exact ⟨_, rfl, _, _, rfl, rfl, q⟩
      · rw [Bool.eq_false_iff.mpr e, Bool.false_and] at q
        exact q
theorem ok_is_step {fT fW f : Addr} {fdT fdW fd : FuncData} (F : Fun K "is_step" "is_step" s_is_step f fd) (bi : Bi mg) (C_is_tuple : Cal P w K mg base "is_tuple" P_is_tuple 1 spTupleT fT fdT) (C_is_whole : Cal P w K mg base "is_whole" P_is_whole 1 spWholeT fW fdW) : FnOk P w K mg base CX0 2 f fd P_is_step spStepT := by
  refine F.ok sc_is_step (fun vs H Q E h => ?_) (fun cdv A outer s H vs Q E hr h => ?_)
  · obtain ⟨v, t, rfl, _⟩ := h
    rfl
  · obtain ⟨v, t, rfl, hv, q⟩ := h
    refine ⟨_, (pss_one (ps_ret (pe_and (pe_call (C_is_tuple.G.mono (by decide)) hr (by rfl) C_is_tuple.g C_is_tuple.kp C_is_tuple.b .nil pass0 (pa_cons (pv 0) (pa_cons pe_int (pa_cons pe_int pa_nil)))) (pe_and (pe_call (C_is_whole.G.mono (by decide)) hr (by rfl) C_is_whole.g C_is_whole.kp C_is_whole.b .nil pass0 (pa_cons (pe_ix ix_tup (pv 0) pe_int (fun _ _ => rfl)) (pa_cons pe_int pa_nil))) (pe_one (pe_call (C_is_whole.G.mono (by decide)) hr (by rfl) C_is_whole.g C_is_whole.kp C_is_whole.b .nil pass0 (pa_cons (pe_ix ix_tup (pv 0) pe_int (fun _ _ => rfl)) (pa_cons pe_int pa_nil)))))))), ?_⟩
    refine ⟨_, rfl, v, t, 2, 2, rfl, hv, _, rfl, ?_⟩
    cases t with
    | int m => exact iteF q
    | bl b => exact iteF q
    | oth => exact iteF q
    | tup ts =>
      match ts, hv, q with
      | [], hv, q => exact iteF q
      | [_], hv, q => exact iteF q
      | [x, y], hv, q =>
        refine iteT ?_
        obtain ⟨a, vs, rfl, ea, hl, hh⟩ := hv.tupE
        match vs, ea, hl, hh with
        | [u, v], ea, _, hh =>
          have q : Q (.bl (whT x 1 && whT y 1)) H := q
          refine ⟨_, rfl, a, _, 0, _, rfl, rfl, SqT.of ea, atI_nat (j := 0) rfl, u, x, 1, rfl, hh 0 u x rfl rfl, _, rfl, ite2 (fun e => ?_) (fun e => ?_)⟩
          · rw [e, Bool.true_and] at q
            exact ⟨_, rfl, a, _, 1, _, rfl, rfl, SqT.of ea, atI_nat (j := 1) rfl, v, y, 1, rfl, hh 1 v y rfl rfl, q⟩
          · rw [Bool.eq_false_iff.mpr e, Bool.false_and] at q
            exact q
      | x :: y :: z :: r, hv, q =>
        have hln : lenIn (.tup (x :: y :: z :: r)) 2 2 = false := by
          show (decide ((2 : Int) ≤ ((r.length + 1 + 1 + 1 : Nat) : Int)) && decide (((r.length + 1 + 1 + 1 : Nat) : Int) ≤ 2)) = false
          rw [decide_eq_false (show ¬ ((r.length + 1 + 1 + 1 : Nat) : Int) ≤ 2 by omega), Bool.and_false]
        rw [hln]
        exact iteF q
theorem ok_are_steps {fT fS f : Addr} {fdT fdS fd : FuncData} {tk_MOST_STEPS : Tok} (F : Fun K "are_steps" "are_steps" s_are_steps f fd) (bi : Bi mg) (g_MOST_STEPS : mg "MOST_STEPS" = some (.int 8 tk_MOST_STEPS)) (C_is_tuple : Cal P w K mg base "is_tuple" P_is_tuple 1 spTupleT fT fdT) (C_is_step : Cal P w K mg base "is_step" P_is_step 2 spStepT fS fdS) : FnOk P w K mg base CX0 3 f fd P_are_steps spStepsT := by
  refine F.ok sc_are_steps (fun vs H Q E h => ?_) (fun cdv A outer s H vs Q E hr h => ?_)
  · obtain ⟨v, t, rfl, _⟩ := h
    rfl
  · obtain ⟨v, t, rfl, hv, q⟩ := h
    refine ⟨_, (pss_cons (ps_if (pw_or (pt_not (pt_val (pe_call (C_is_tuple.G.mono (by decide)) hr (by rfl) C_is_tuple.g C_is_tuple.kp C_is_tuple.b .nil pass0 (pa_cons (pv 0) (pa_cons pe_int (pa_cons (pe_glob (v := .int 8) (by rfl) g_MOST_STEPS ⟨_, rfl⟩) pa_nil)))))) (pw_or1 (pt_not (pt_val (pe_callB (cr_all rfl) (by rfl) bi.m_all (by decide +kernel) (pa_cons (pe_lc (own := [("step", 2)]) (g := (gName 2)) (tt := tYes) rfl sc_are_steps.nd (pi_tup (pv 0)) (blkOk_by (N := N_are_steps) (sc := defScope s_are_steps) (by decide +kernel)) (fun _ _ _ _ _ => (pg_name (i := 2) sc_are_steps.nd rfl (.inl rfl) (.inr rfl))) (fun _ _ _ _ _ => pts_nil) (fun _ _ _ _ _ => (pe_call (C_is_step.G.mono (by decide)) hr (by rfl) C_is_step.g C_is_step.kp C_is_step.b .nil pass0 (pa_cons (pv 2) pa_nil)))) pa_nil)))))).pt
      (pss_one (ps_ret pe_bl))
      pss_nil)
    (pss_one (ps_ret (pe_callB (cr_all rfl) (by rfl) bi.m_all (by decide +kernel) (pa_cons (pe_lc (own := [("ahead", 1), ("step", 2)]) (g := (gTup K 2 (gCons (gName 1) (gCons (gName 2) gNil)))) (tt := tYes) (te := (tOp (rI0 fun i j => V.bl (decide (j < i))) (tOp (rIxT K) (tVar 1) (tC (.int 0))) (tOp (rIxT K) (tVar 2) (tC (.int 0))))) rfl sc_are_steps.nd (RZ.pi_zipA (by rfl) bi.m_zip (pa_cons (pv 0) (pa_cons (pe_slice sl_tupA (pv 0) (po_some pe_int) po_none) pa_nil))) (blkOk_by (N := N_are_steps) (sc := defScope s_are_steps) (by decide +kernel)) (fun _ _ _ _ _ => (pg_tup rfl (pgs_cons (pg_name (i := 1) sc_are_steps.nd rfl (.inl rfl) (.inr rfl)) (pgs_cons (pg_name (i := 2) sc_are_steps.nd rfl (.inl rfl) (.inr rfl)) pgs_nil)))) (fun _ _ _ _ _ => pts_nil) (fun _ _ _ _ _ => (pe_cmpR op_gt (pe_ix ix_tup (pv 1) pe_int (fun _ _ => rfl)) (pe_ix ix_tup (pv 2) pe_int (fun _ _ => rfl)) (nomark _)))) pa_nil))))), ?_⟩
    refine ⟨_, rfl, v, t, 1, 8, rfl, hv, _, rfl, ?_⟩
    cases t with
    | int m => exact iteNF (q _ (Same.refl _))
    | bl b => exact iteNF (q _ (Same.refl _))
    | oth => exact iteNF (q _ (Same.refl _))
    | tup ts =>
      have hq : lenIn (.tup ts) 1 8 = (decide (1 ≤ ts.length) && decide (ts.length ≤ 8)) := by
        show (decide ((1 : Int) ≤ (ts.length : Int)) && decide ((ts.length : Int) ≤ 8)) = (decide (1 ≤ ts.length) && decide (ts.length ≤ 8))
        rw [decide_eq_decide.mpr (show (1 : Int) ≤ (ts.length : Int) ↔ 1 ≤ ts.length by omega), decide_eq_decide.mpr (show (ts.length : Int) ≤ 8 ↔ ts.length ≤ 8 by omega)]
      rw [hq]
      have q : ∀ H', Same H H' → Q (.bl (decide (1 ≤ ts.length) && decide (ts.length ≤ 8) && ts.all isStep && fallsT (ts.map firstT))) H' := q
      cases hc : (decide (1 ≤ ts.length) && decide (ts.length ≤ 8)) with
      | false =>
        rw [hc] at q
        exact iteNF (q _ (Same.refl _))
      | true =>
        rw [hc, Bool.true_and] at q
        refine iteNT ?_
        obtain ⟨c1, c8⟩ := Bool.and_eq_true_iff.mp hc
        have c1 := of_decide_eq_true c1
        have c8 := of_decide_eq_true c8
        obtain ⟨a, vs, rfl, ea, hl, hh⟩ := hv.tupE
        refine ⟨_, rfl, a, rfl, ⟨_, SqT.of ea⟩, fun D nD => ?_⟩
        refine lc_tup (xs := vs) (fun i H' => Same H H' ∧ H' D = some (.lst (((ts.take i).map isStep).map V.bl))) ⟨same_new (Same.refl _) nD, upd_same⟩ (fun i H' hi hm => SqT.of (hm.1 _ _ ea)) (fun i x H' hx hm => ?_) (fun H' hm => ?_)
        · obtain ⟨sm, eD⟩ := hm
          have hi : i < vs.length := (List.getElem?_eq_some_iff.mp hx).1
          have et : ts[i]? = some (ts[i]'(by omega)) := List.getElem?_eq_getElem (by omega)
          generalize ts[i]'(by omega) = t at et
          refine ⟨rfl, yesIte ?_⟩
          refine ⟨_, rfl, x, t, rfl, (hh i x t hx et).mono (Kinds.same sm), _, eD, ?_, same_mine sm nD, ?_⟩
          · rw [List.length_map, List.length_map, List.length_take]
            exact small1000 (by omega)
          · rw [upd_same, List.take_add_one, et]
            show _ = some (HO.lst (((ts.take i ++ [t]).map isStep).map V.bl))
            rw [List.map_append, List.map_append]
            rfl
        obtain ⟨s1, eD⟩ := hm
        rw [hl, List.take_length] at eD
        refine ⟨D, _, rfl, SqL.of eD, _, rfl, ?_⟩
        have ea1 := s1 _ _ ea
        have eall : (ts.map isStep).all id = ts.all isStep := by
          rw [List.all_map]
          rfl
        rw [eall]
        cases hb : ts.all isStep with
        | false =>
          rw [hb] at q
          exact iteNF (q _ s1)
        | true =>
          rw [hb, Bool.true_and] at q
          refine iteNT ?_
          have ab := List.all_eq_true.mp hb
          have get : ∀ (i : Nat) (x : V), vs[i]? = some x → ∃ (b : Addr) (m l : Int), x = .ref b ∧ H b = some (.tup [.int m, .int l]) ∧ (ts.map firstT)[i]? = some m := fun i x hx => by
            have hi : i < vs.length := (List.getElem?_eq_some_iff.mp hx).1
            have et : ts[i]? = some (ts[i]'(by omega)) := List.getElem?_eq_getElem (by omega)
            generalize ts[i]'(by omega) = t at et
            obtain ⟨m, l, rfl, _⟩ := isStep_of (ab _ (List.mem_of_getElem? et))
            obtain ⟨b, ws, rfl, eb, hwl, hw⟩ := (hh i x _ hx et).tupE
            match ws, eb, hwl, hw with
            | [u, v], eb, _, hw =>
              have e1 := (hw 0 u _ rfl rfl).intE
              have e2 := (hw 1 v _ rfl rfl).intE
              subst e1
              subst e2
              exact ⟨b, m, l, rfl, eb, by rw [List.getElem?_map, et]; rfl⟩
          refine ⟨_, rfl, _, rfl, _, rfl, a, _, rfl, SqT.of ea1, ?_, ?_⟩
          · intro hz
            exfalso
            have := hz.1
            have h1 : HT.sIx vs.length 0 (some 1) = min 1 vs.length := HT.sIx_nat _ _ 1
            rw [h1] at this
            omega
          · intro _ Z nZ
            rw [cut_tail]
            have sZ : Same H' (upd H' Z (.tup (vs.drop 1))) := same_new (Same.refl _) nZ
            have eZ : upd H' Z (.tup (vs.drop 1)) Z = some (.tup (vs.drop 1)) := upd_same
            generalize upd H' Z (.tup (vs.drop 1)) = H2 at sZ eZ
            refine ⟨a, Z, _, _, rfl, .inr ⟨SqT.of (sZ _ _ ea1), SqT.of eZ, fun D2 nD2 => ?_⟩⟩
            rw [falls_pairs] at q
            have hzl : (List.zip (ts.map firstT) ((ts.map firstT).drop 1)).length = (vs.drop 1).length := by
              rw [List.length_zip, List.length_drop, List.length_drop, List.length_map]
              omega
            refine lcZipS (xs := vs) (ys := vs.drop 1) (by rw [List.length_drop]; omega) (fun i H3 => Same H2 H3 ∧ H3 D2 = some (.lst ((((List.zip (ts.map firstT) ((ts.map firstT).drop 1)).take i).map fallB).map V.bl))) ⟨same_new (Same.refl _) nD2, upd_same⟩ (fun i H3 hm => ⟨SqT.of (hm.1 _ _ (sZ _ _ ea1)), SqT.of (hm.1 _ _ eZ)⟩) (fun i x y T H3 hx hy nT hm => ?_) (fun H3 hm => ?_)
            · obtain ⟨sm2, eD2⟩ := hm
              rw [List.getElem?_drop] at hy
              obtain ⟨b1, m1, l1, rfl, eb1, em1⟩ := get i x hx
              obtain ⟨b2, m2, l2, rfl, eb2, em2⟩ := get (1 + i) y hy
              have sT : Same H2 (upd H3 T (.tup [.ref b1, .ref b2])) := same_new sm2 nT
              have eDT := (upd_ne (o := .tup [.ref b1, .ref b2]) (ne_of_none eD2 nT)).trans eD2
              refine ⟨T, _, rfl, SqT.of upd_same, rfl, _, _, rfl, _, _, rfl, rfl, rfl, yesIte ?_⟩
              generalize upd H3 T (.tup [.ref b1, .ref b2]) = H4 at sT eDT
              have s3 := (s1.trans sZ).trans sT
              have ez : (List.zip (ts.map firstT) ((ts.map firstT).drop 1))[i]? = some (m1, m2) := by
                rw [List.getElem?_zip_eq_some]
                exact ⟨em1, by rw [List.getElem?_drop]; exact em2⟩
              have hi : i < vs.length := (List.getElem?_eq_some_iff.mp hx).1
              refine ⟨_, rfl, b1, _, 0, _, rfl, rfl, SqT.of (s3 _ _ eb1), atI_nat (j := 0) rfl, _, rfl, b2, _, 0, _, rfl, rfl, SqT.of (s3 _ _ eb2), atI_nat (j := 0) rfl, _, _, rfl, rfl, ?_⟩
              refine ⟨_, eDT, ?_, same_mine sT nD2, ?_⟩
              · rw [List.length_map, List.length_map, List.length_take]
                exact small1000 (by omega)
              · rw [upd_same, List.take_add_one, ez]
                show _ = some (HO.lst ((((List.zip (ts.map firstT) ((ts.map firstT).drop 1)).take i ++ [(m1, m2)]).map fallB).map V.bl))
                rw [List.map_append, List.map_append]
                rfl
            · obtain ⟨sm2, eD2⟩ := hm
              rw [← hzl, List.take_length] at eD2
              refine ⟨D2, _, rfl, SqL.of eD2, ?_⟩
              exact q _ ((s1.trans sZ).trans sm2)
theorem ok_is_wisp {fT fW fS f : Addr} {fdT fdW fdS fd : FuncData} (F : Fun K "is_wisp" "is_wisp" s_is_wisp f fd) (bi : Bi mg) (C_is_tuple : Cal P w K mg base "is_tuple" P_is_tuple 1 spTupleT fT fdT) (C_is_whole : Cal P w K mg base "is_whole" P_is_whole 1 spWholeT fW fdW) (C_are_steps : Cal P w K mg base "are_steps" P_are_steps 3 spStepsT fS fdS) : FnOk P w K mg base CX0 4 f fd P_is_wisp spWispT := by
  refine F.ok sc_is_wisp (fun vs H Q E h => ?_) (fun cdv A outer s H vs Q E hr h => ?_)
  · obtain ⟨v, t, rfl, _⟩ := h
    rfl
  · obtain ⟨v, t, rfl, hv, q⟩ := h
    refine ⟨_, (pss_cons (ps_if (pt_not (pt_val (pe_call (C_is_tuple.G.mono (by decide)) hr (by rfl) C_is_tuple.g C_is_tuple.kp C_is_tuple.b .nil pass0 (pa_cons (pv 0) (pa_cons pe_int (pa_cons pe_int pa_nil))))))
      (pss_one (ps_ret pe_bl))
      pss_nil)
    (pss_cons (ps_asg (pv 0) (pg_tup rfl (pgs_cons (pg_name (i := 1) sc_is_wisp.nd rfl (.inl rfl)) (pgs_cons (pg_name (i := 2) sc_is_wisp.nd rfl (.inl rfl)) pgs_nil))))
    (pss_one (ps_ret (pe_and (pe_call (C_is_whole.G.mono (by decide)) hr (by rfl) C_is_whole.g C_is_whole.kp C_is_whole.b .nil pass0 (pa_cons (pv 1) (pa_cons pe_int pa_nil))) (pe_and (pe_cmpR op_le (pv 1) pe_int (nomark _)) (pe_one (pe_call (C_are_steps.G.mono (by decide)) hr (by rfl) C_are_steps.g C_are_steps.kp C_are_steps.b .nil pass0 (pa_cons (pv 2) pa_nil))))))))), ?_⟩
    refine ⟨_, rfl, v, t, 2, 2, rfl, hv, _, rfl, ?_⟩
    cases t with
    | int m => exact iteNF (q _ (Same.refl _))
    | bl b => exact iteNF (q _ (Same.refl _))
    | oth => exact iteNF (q _ (Same.refl _))
    | tup ts =>
      match ts, hv, q with
      | [], hv, q => exact iteNF (q _ (Same.refl _))
      | [_], hv, q => exact iteNF (q _ (Same.refl _))
      | [x, y], hv, q =>
        refine iteNT ?_
        obtain ⟨a, vs, rfl, ea, hl, hh⟩ := hv.tupE
        match vs, ea, hl, hh with
        | [u, v], ea, _, hh =>
          have q : ∀ H', Same H H' → Q (.bl (whT x 0 && decide (numT x ≤ 1) && areSteps y)) H' := q
          refine ⟨_, rfl, a, _, rfl, SqT.of ea, rfl, _, _, rfl, _, _, rfl, rfl, ?_⟩
          refine ⟨_, rfl, u, x, 0, rfl, hh 0 u x rfl rfl, _, rfl, ite2 (fun e => ?_) (fun e => ?_)⟩
          · rw [e, Bool.true_and] at q
            obtain ⟨m, rfl, m0⟩ := wh_of e
            have e1 := (hh 0 u _ rfl rfl).intE
            subst e1
            have q : ∀ H', Same H H' → Q (.bl (decide (m ≤ 1) && areSteps y)) H' := q
            refine ⟨_, rfl, _, _, rfl, rfl, _, rfl, ite2 (fun e => ?_) (fun e => ?_)⟩
            · rw [e, Bool.true_and] at q
              exact ⟨_, rfl, v, y, rfl, hh 1 v y rfl rfl, q⟩
            · rw [Bool.eq_false_iff.mpr e, Bool.false_and] at q
              exact q _ (Same.refl _)
          · rw [Bool.eq_false_iff.mpr e, Bool.false_and] at q
            exact q _ (Same.refl _)
      | x :: y :: z :: r, hv, q =>
        have hln : lenIn (.tup (x :: y :: z :: r)) 2 2 = false := by
          show (decide ((2 : Int) ≤ ((r.length + 1 + 1 + 1 : Nat) : Int)) && decide (((r.length + 1 + 1 + 1 : Nat) : Int) ≤ 2)) = false
          rw [decide_eq_false (show ¬ ((r.length + 1 + 1 + 1 : Nat) : Int) ≤ 2 by omega), Bool.and_false]
        rw [hln]
        exact iteNF (q _ (Same.refl _))
theorem letC_mem (c : Nat) : decide (c ∈ (Str.ofString "abcdefghijklmnopqrstuvwxyz").cps.toList) = letC c := by
  have e : (Str.ofString "abcdefghijklmnopqrstuvwxyz").cps.toList = [97, 98, 99, 100, 101, 102, 103, 104, 105, 106, 107, 108, 109, 110, 111, 112, 113, 114, 115, 116, 117, 118, 119, 120, 121, 122] := rfl
  rw [e]
  unfold letC
  rw [← Bool.decide_and]
  refine decide_eq_decide.mpr ?_
  simp only [List.mem_cons, List.not_mem_nil, or_false]
  omega
theorem ok_is_name {f : Addr} {fd : FuncData} {k : Nat} {tk_LETTERS tk_MOST_LETTERS : Tok} (F : Fun K "is_name" "is_name" s_is_name f fd) (bi : Bi mg) (g_LETTERS : mg "LETTERS" = some (.str "abcdefghijklmnopqrstuvwxyz" tk_LETTERS)) (g_MOST_LETTERS : mg "MOST_LETTERS" = some (.int 8 tk_MOST_LETTERS)) : FnOk P w K mg base CX0 (k + 1) f fd P_is_name spNameK := by
  refine F.ok sc_is_name (fun vs H Q E h => ?_) (fun cdv A outer s H vs Q E hr h => ?_)
  · obtain ⟨B, v, t, rfl, _⟩ := h
    rfl
  · obtain ⟨B, v, t, rfl, hv, q⟩ := h
    refine ⟨_, (pss_cons (ps_if (pw_or (pt_not (pt_val (pe_callB call_isi (by rfl) bi.m_isinstance (by decide +kernel) (pa_cons (pv 0) (pa_cons (pe_bltn (v := .ty "str") (by rfl) bi.m_str (by decide +kernel) rfl) pa_nil))))) (pw_or1 (pt_not (pt_chain op_le op_le pe_int (pe_callB call_len_str (by rfl) bi.m_len (by decide +kernel) (pa_cons (pv 0) pa_nil)) (pe_glob (v := .int 8) (by rfl) g_MOST_LETTERS ⟨_, rfl⟩))))).pt
      (pss_one (ps_ret pe_bl))
      pss_nil)
    (pss_one (ps_ret (pe_callB (cr_all rfl) (by rfl) bi.m_all (by decide +kernel) (pa_cons (pe_lc (own := [("sign", 1)]) (g := (gName 1)) (tt := tYes) rfl sc_is_name.nd (pi_str (pv 0)) (blkOk_by (N := N_is_name) (sc := defScope s_is_name) (by decide +kernel)) (fun _ _ _ _ _ => (pg_name (i := 1) sc_is_name.nd rfl (.inl rfl) (.inr rfl))) (fun _ _ _ _ _ => pts_nil) (fun _ _ _ _ _ => (pe_cmpR op_in_sign (pv 1) (pe_glob (v := .str "abcdefghijklmnopqrstuvwxyz") (by rfl) g_LETTERS ⟨_, rfl⟩) (by rfl)))) pa_nil))))), ?_⟩
    obtain ⟨T, hT, kT⟩ := isi_str (K := K) hv
    refine ⟨_, rfl, _, _, _, _, _, rfl, ClsV.ty "str", hT, kT, _, rfl, ?_⟩
    cases t with
    | int n => exact iteNF (q _ (Same.refl _))
    | bl b => exact iteNF (q _ (Same.refl _))
    | oth => exact iteNF (q _ (Same.refl _))
    | tup ts => exact iteNF (q _ (Same.refl _))
    | str z =>
    obtain ⟨rfl, hz⟩ := hv.strE
    refine iteNT ?_
    have q : ∀ H', Same H H' → Q (.bl (decide (1 ≤ z.length) && decide (z.length ≤ 8) && (cpl z).all letC)) H' := q
    have hl : z.length = (cpl z).length := rfl
    refine ⟨_, rfl, _, rfl, small_line (by omega), _, _, rfl, rfl, _, rfl, ?_⟩
    by_cases c1 : 1 ≤ z.length
    rotate_left
    · rw [decide_eq_false c1] at q
      rw [decide_eq_false (show ¬ (1 : Int) ≤ (z.length : Int) by omega)]
      exact iteF ⟨_, rfl, iteNF (q _ (Same.refl _))⟩
    rw [decide_eq_true (show (1 : Int) ≤ (z.length : Int) by omega)]
    refine iteT ?_
    refine ⟨_, _, rfl, rfl, _, rfl, ?_⟩
    rw [decide_eq_true c1, Bool.true_and] at q
    by_cases c8 : z.length ≤ 8
    rotate_left
    · rw [decide_eq_false c8] at q
      rw [decide_eq_false (show ¬ (z.length : Int) ≤ 8 by omega)]
      exact iteNF (q _ (Same.refl _))
    rw [decide_eq_true c8, Bool.true_and] at q
    rw [decide_eq_true (show (z.length : Int) ≤ 8 by omega)]
    refine iteNT ?_
    refine ⟨_, rfl, _, rfl, fun D nD => ?_⟩
    refine lc_it walk_str (fun i H' => Same H H' ∧ H' D = some (.lst ((((cpl z).take i).map letC).map V.bl)) ∧ i ≤ 8) ⟨same_new (Same.refl _) nD, upd_same, Nat.zero_le _⟩ (fun i H' hi hm => trivial) (fun i x H1 H2 hi hm hy => ?_) (fun H' hm => ?_)
    · obtain ⟨rfl, c', e1, rfl⟩ := hy
      obtain ⟨sm, eD, _⟩ := hm
      have hi40 : i < 8 := by
        have : z.cps.size = z.length := rfl
        omega
      have e2 : (cpl z)[i]? = some c' := by
        rw [← e1]
        exact Array.getElem?_toList
      refine ⟨rfl, yesIte ?_⟩
      refine ⟨_, rfl, _, _, rfl, rfl, _, eD, ?_, same_mine sm nD, ?_, hi40⟩
      · rw [List.length_map, List.length_map, List.length_take]
        exact small1000 (by omega)
      · rw [upd_same, letC_mem, List.take_add_one, e2]
        show _ = some (HO.lst ((((cpl z).take i ++ [c']).map letC).map V.bl))
        rw [List.map_append, List.map_append]
        rfl
    obtain ⟨sm, eD, _⟩ := hm
    rw [show z.cps.size = (cpl z).length from rfl, List.take_length] at eD
    refine ⟨D, _, rfl, SqL.of eD, ?_⟩
    have eall : ((cpl z).map letC).all id = (cpl z).all letC := by
      rw [List.all_map]
      rfl
    rw [eall]
    exact q _ sm
theorem ok_is_entry {fT fN fW fH f : Addr} {fdT fdN fdW fdH fd : FuncData} (F : Fun K "is_entry" "is_entry" s_is_entry f fd) (bi : Bi mg) (C_is_tuple : Cal P w K mg base "is_tuple" P_is_tuple 1 spTupleT fT fdT) (C_is_name : Cal P w K mg base "is_name" P_is_name 1 spNameK fN fdN) (C_is_wisp : Cal P w K mg base "is_wisp" P_is_wisp 4 spWispT fW fdW) (C_is_whole : Cal P w K mg base "is_whole" P_is_whole 1 spWholeT fH fdH) : FnOk P w K mg base CX0 5 f fd P_is_entry spEntryK := by
  refine F.ok sc_is_entry (fun vs H Q E h => ?_) (fun cdv A outer s H vs Q E hr h => ?_)
  · obtain ⟨v, t, rfl, _⟩ := h
    rfl
  · obtain ⟨v, t, rfl, hv, q⟩ := h
    refine ⟨_, (pss_cons (ps_if (pw_or (pt_not (pt_val (pe_call (C_is_tuple.G.mono (by decide)) hr (by rfl) C_is_tuple.g C_is_tuple.kp C_is_tuple.b .nil pass0 (pa_cons (pv 0) (pa_cons pe_int (pa_cons pe_int pa_nil)))))) (pw_or1 (pt_not (pt_val (pe_callB call_isi (by rfl) bi.m_isinstance (by decide +kernel) (pa_cons (pe_ix ix_tup (pv 0) pe_int (fun _ _ => rfl)) (pa_cons (pe_bltn (v := .ty "str") (by rfl) bi.m_str (by decide +kernel) rfl) pa_nil))))))).pt
      (pss_one (ps_ret pe_bl))
      pss_nil)
    (pss_cons (ps_if (pw_and (pt_cmpR op_eq (pe_ix ix_tup (pv 0) pe_int (fun _ _ => rfl)) pe_str (nomark _)) (pw_and1 (pt_cmpR op_eq (pe_callB call_len_seq (by rfl) bi.m_len (by decide +kernel) (pa_cons (pv 0) pa_nil)) pe_int (nomark _)))).pt
      (pss_one (ps_ret (pe_and (pe_call (C_is_name.G.mono (by decide)) hr (by rfl) C_is_name.g C_is_name.kp C_is_name.b .nil pass0 (pa_cons (pe_ix ix_tup (pv 0) pe_int (fun _ _ => rfl)) pa_nil)) (pe_and (pe_call (C_is_wisp.G.mono (by decide)) hr (by rfl) C_is_wisp.g C_is_wisp.kp C_is_wisp.b .nil pass0 (pa_cons (pe_ix ix_tup (pv 0) pe_int (fun _ _ => rfl)) pa_nil)) (pe_one (pe_call (C_is_whole.G.mono (by decide)) hr (by rfl) C_is_whole.g C_is_whole.kp C_is_whole.b .nil pass0 (pa_cons (pe_ix ix_tup (pv 0) pe_int (fun _ _ => rfl)) (pa_cons pe_int pa_nil))))))))
      pss_nil)
    (pss_cons (ps_if (pw_and (pt_cmpR op_eq (pe_ix ix_tup (pv 0) pe_int (fun _ _ => rfl)) pe_str (nomark _)) (pw_and1 (pt_cmpR op_eq (pe_callB call_len_seq (by rfl) bi.m_len (by decide +kernel) (pa_cons (pv 0) pa_nil)) pe_int (nomark _)))).pt
      (pss_one (ps_ret (pe_and (pe_call (C_is_name.G.mono (by decide)) hr (by rfl) C_is_name.g C_is_name.kp C_is_name.b .nil pass0 (pa_cons (pe_ix ix_tup (pv 0) pe_int (fun _ _ => rfl)) pa_nil)) (pe_one (pe_call (C_is_whole.G.mono (by decide)) hr (by rfl) C_is_whole.g C_is_whole.kp C_is_whole.b .nil pass0 (pa_cons (pe_ix ix_tup (pv 0) pe_int (fun _ _ => rfl)) (pa_cons pe_int pa_nil)))))))
      pss_nil)
    (pss_one (ps_ret (pe_and (pe_cmpR op_eq (pe_ix ix_tup (pv 0) pe_int (fun _ _ => rfl)) pe_str (nomark _)) (pe_and (pe_cmpR op_eq (pe_callB call_len_seq (by rfl) bi.m_len (by decide +kernel) (pa_cons (pv 0) pa_nil)) pe_int (nomark _)) (pe_and (pe_call (C_is_whole.G.mono (by decide)) hr (by rfl) C_is_whole.g C_is_whole.kp C_is_whole.b .nil pass0 (pa_cons (pe_ix ix_tup (pv 0) pe_int (fun _ _ => rfl)) (pa_cons pe_int pa_nil))) (pe_one (pe_call (C_is_whole.G.mono (by decide)) hr (by rfl) C_is_whole.g C_is_whole.kp C_is_whole.b .nil pass0 (pa_cons (pe_ix ix_tup (pv 0) pe_int (fun _ _ => rfl)) (pa_cons pe_int pa_nil)))))))))))), ?_⟩
    refine ⟨_, rfl, v, t.th, 3, 4, rfl, hv.th, _, rfl, ?_⟩
    cases t with
    | int n => exact iteNF (q _ (Same.refl _))
    | bl b => exact iteNF (q _ (Same.refl _))
    | oth => exact iteNF (q _ (Same.refl _))
    | str z => exact iteNF (q _ (Same.refl _))
    | tup ts =>
    match ts, hv, q with
    | [], hv, q => exact iteNF (q _ (Same.refl _))
    | [x0], hv, q => exact iteNF ((show isEntryK (.tup [x0]) = false by cases x0 <;> rfl) ▸ q _ (Same.refl _))
    | [x0, x1], hv, q => exact iteNF ((show isEntryK (.tup [x0, x1]) = false by cases x0 <;> rfl) ▸ q _ (Same.refl _))
    | x0 :: x1 :: x2 :: x3 :: x4 :: r, hv, q =>
      have hln : lenIn (Tk.th (.tup (x0 :: x1 :: x2 :: x3 :: x4 :: r))) 3 4 = false := by
        show (decide ((3 : Int) ≤ ((Tk.ths r).length + 5 : Nat)) && decide ((((Tk.ths r).length + 5 : Nat) : Int) ≤ 4)) = false
        rw [decide_eq_false (show ¬ (((Tk.ths r).length + 5 : Nat) : Int) ≤ 4 by omega), Bool.and_false]
      rw [hln]
      exact iteNF ((show isEntryK (.tup (x0 :: x1 :: x2 :: x3 :: x4 :: r)) = false by cases x0 <;> rfl) ▸ q _ (Same.refl _))
    | [x0, a, b], hv, q =>
      refine iteNT ?_
      obtain ⟨o, vs, rfl, eo, hl, hh⟩ := hv.tupE
      match vs, eo, hl, hh with
      | [u0, u1, u2], eo, _, hh =>
      have h0 := hh 0 u0 x0 rfl rfl
      have h1 := hh 1 u1 a rfl rfl
      have h2 := hh 2 u2 b rfl rfl
      obtain ⟨T, hT, kT⟩ := isi_str (K := K) h0
      refine ⟨_, rfl, o, _, 0, _, rfl, rfl, SqT.of eo, atI_nat (j := 0) rfl, _, _, _, _, _, rfl, ClsV.ty "str", hT, kT, _, rfl, ?_⟩
      cases x0 with
      | int n => exact iteNF (q _ (Same.refl _))
      | bl b => exact iteNF (q _ (Same.refl _))
      | oth => exact iteNF (q _ (Same.refl _))
      | tup ts => exact iteNF (q _ (Same.refl _))
      | str z =>
      obtain ⟨rfl, hz⟩ := h0.strE
      refine iteNT ?_
      refine ⟨_, rfl, o, _, 0, _, rfl, rfl, SqT.of eo, atI_nat (j := 0) rfl, rfl, _, rfl, ite2 (fun _ => ⟨_, rfl, o, _, rfl, .inr (SqT.of eo), rfl, _, rfl, ite2 (fun e => by simp at e) (fun _ => ?_)⟩) (fun _ => ?_)⟩
      all_goals
        have q : ∀ H', Same H H' → Q (.bl (if z = "let" then isNameK a && whK b else if z = "snap" then whK a && whK b else false)) H' := q
        refine ⟨_, rfl, o, _, 0, _, rfl, rfl, SqT.of eo, atI_nat (j := 0) rfl, rfl, _, rfl, ite2 (fun e => ⟨_, rfl, o, _, rfl, .inr (SqT.of eo), rfl, _, rfl, ite2 (fun _ => ?_) (fun e => absurd (decide_eq_true rfl) e)⟩) (fun e => ?_)⟩
        · rw [if_pos (V.str.inj (of_decide_eq_true e))] at q
          refine ⟨_, rfl, o, _, 1, _, rfl, rfl, SqT.of eo, atI_nat (j := 1) rfl, topB, u1, a, rfl, h1, fun H1 s1 => ⟨_, rfl, ite2 (fun e => ?_) (fun e => ?_)⟩⟩
          · rw [e, Bool.true_and] at q
            exact ⟨_, rfl, o, _, 2, _, rfl, rfl, SqT.of (s1 _ _ eo), atI_nat (j := 2) rfl, u2, b.th, 0, rfl, (h2.mono (Kinds.same s1)).th, q _ s1⟩
          · rw [Bool.eq_false_iff.mpr e, Bool.false_and] at q
            exact q _ s1
        · rw [if_neg (fun h => e (decide_eq_true (congrArg V.str h)))] at q
          refine ⟨_, rfl, o, _, 0, _, rfl, rfl, SqT.of eo, atI_nat (j := 0) rfl, rfl, _, rfl, ite2 (fun e => ?_) (fun e => ?_)⟩
          · rw [if_pos (V.str.inj (of_decide_eq_true e))] at q
            refine ⟨_, rfl, o, _, rfl, .inr (SqT.of eo), rfl, _, rfl, ite2 (fun _ => ?_) (fun e => absurd (decide_eq_true rfl) e)⟩
            refine ⟨_, rfl, o, _, 1, _, rfl, rfl, SqT.of eo, atI_nat (j := 1) rfl, u1, a.th, 0, rfl, h1.th, _, rfl, ite2 (fun e => ?_) (fun e => ?_)⟩
            · rw [show whK a = true from e, Bool.true_and] at q
              exact ⟨_, rfl, o, _, 2, _, rfl, rfl, SqT.of eo, atI_nat (j := 2) rfl, u2, b.th, 0, rfl, h2.th, q _ (Same.refl _)⟩
            · rw [show whK a = false from Bool.eq_false_iff.mpr e, Bool.false_and] at q
              exact q _ (Same.refl _)
          · rw [if_neg (fun h => e (decide_eq_true (congrArg V.str h)))] at q
            exact q _ (Same.refl _)
    | [x0, a, b, c], hv, q =>
      refine iteNT ?_
      obtain ⟨o, vs, rfl, eo, hl, hh⟩ := hv.tupE
      match vs, eo, hl, hh with
      | [u0, u1, u2, u3], eo, _, hh =>
      have h0 := hh 0 u0 x0 rfl rfl
      have h1 := hh 1 u1 a rfl rfl
      have h2 := hh 2 u2 b rfl rfl
      have h3 := hh 3 u3 c rfl rfl
      obtain ⟨T, hT, kT⟩ := isi_str (K := K) h0
      refine ⟨_, rfl, o, _, 0, _, rfl, rfl, SqT.of eo, atI_nat (j := 0) rfl, _, _, _, _, _, rfl, ClsV.ty "str", hT, kT, _, rfl, ?_⟩
      cases x0 with
      | int n => exact iteNF (q _ (Same.refl _))
      | bl b => exact iteNF (q _ (Same.refl _))
      | oth => exact iteNF (q _ (Same.refl _))
      | tup ts => exact iteNF (q _ (Same.refl _))
      | str z =>
      obtain ⟨rfl, hz⟩ := h0.strE
      refine iteNT ?_
      have q : ∀ H', Same H H' → Q (.bl (if z = "lay" then isNameK a && isWispT b.th && whK c else false)) H' := q
      refine ⟨_, rfl, o, _, 0, _, rfl, rfl, SqT.of eo, atI_nat (j := 0) rfl, rfl, _, rfl, ite2 (fun e => ⟨_, rfl, o, _, rfl, .inr (SqT.of eo), rfl, _, rfl, ite2 (fun _ => ?_) (fun e => absurd (decide_eq_true rfl) e)⟩) (fun e => ?_)⟩
      · rw [if_pos (V.str.inj (of_decide_eq_true e))] at q
        refine ⟨_, rfl, o, _, 1, _, rfl, rfl, SqT.of eo, atI_nat (j := 1) rfl, topB, u1, a, rfl, h1, fun H1 s1 => ⟨_, rfl, ite2 (fun e => ?_) (fun e => ?_)⟩⟩
        · rw [e, Bool.true_and] at q
          refine ⟨_, rfl, o, _, 2, _, rfl, rfl, SqT.of (s1 _ _ eo), atI_nat (j := 2) rfl, u2, b.th, rfl, (h2.mono (Kinds.same s1)).th, fun H2 s2 => ⟨_, rfl, ite2 (fun e => ?_) (fun e => ?_)⟩⟩
          · rw [e, Bool.true_and] at q
            have s12 := s1.trans s2
            exact ⟨_, rfl, o, _, 3, _, rfl, rfl, SqT.of (s12 _ _ eo), atI_nat (j := 3) rfl, u3, c.th, 0, rfl, (h3.mono (Kinds.same s12)).th, q _ s12⟩
          · rw [Bool.eq_false_iff.mpr e, Bool.false_and] at q
            exact q _ (s1.trans s2)
        · rw [Bool.eq_false_iff.mpr e, Bool.false_and, Bool.false_and] at q
          exact q _ s1
      · rw [if_neg (fun h => e (decide_eq_true (congrArg V.str h)))] at q
        refine ⟨_, rfl, o, _, 0, _, rfl, rfl, SqT.of eo, atI_nat (j := 0) rfl, rfl, _, rfl, ite2 (fun _ => ⟨_, rfl, o, _, rfl, .inr (SqT.of eo), rfl, _, rfl, ite2 (fun e => by simp at e) (fun _ => ?_)⟩) (fun _ => ?_)⟩
        all_goals
          refine ⟨_, rfl, o, _, 0, _, rfl, rfl, SqT.of eo, atI_nat (j := 0) rfl, rfl, _, rfl, ite2 (fun _ => ⟨_, rfl, o, _, rfl, .inr (SqT.of eo), rfl, _, rfl, ite2 (fun e => by simp at e) (fun e => ?_)⟩) (fun e => ?_)⟩
          · exact q _ (Same.refl _)
          · exact q _ (Same.refl _)
theorem page_no {ts : List Tk} (h : ts.length ≠ 3) : isPageK (.tup ts) = false := by
  match ts, h with
  | [], _ => rfl
  | [_], _ => rfl
  | [_, _], _ => rfl
  | [_, _, _], h => exact absurd rfl h
  | _ :: _ :: .tup _ :: _ :: _, _ => rfl
  | _ :: _ :: .int _ :: _ :: _, _ => rfl
  | _ :: _ :: .bl _ :: _ :: _, _ => rfl
  | _ :: _ :: .str _ :: _ :: _, _ => rfl
  | _ :: _ :: .oth :: _ :: _, _ => rfl
theorem lenIn_k {ts : List Tk} {m n : Nat} : lenIn (Tk.th (.tup ts)) m n = (decide (m ≤ ts.length) && decide (ts.length ≤ n)) := by
  show (decide ((m : Int) ≤ ((Tk.ths ts).length : Int)) && decide (((Tk.ths ts).length : Int) ≤ (n : Int))) = _
  rw [ths_length, decide_eq_decide.mpr (show (m : Int) ≤ (ts.length : Int) ↔ m ≤ ts.length by omega), decide_eq_decide.mpr (show (ts.length : Int) ≤ (n : Int) ↔ ts.length ≤ n by omega)]
theorem isPageK_eq {a b c : Tk} : isPageK (.tup [a, b, c]) = (whK a && (whK b && (match c with
    | .tup es => decide (es.length ≤ 20) && es.all isEntryK
    | _ => false))) := by
  cases c with
  | tup es => exact Bool.and_assoc _ _ _
  | int n => show false = (whK a && (whK b && false)); rw [Bool.and_false, Bool.and_false]
  | bl n => show false = (whK a && (whK b && false)); rw [Bool.and_false, Bool.and_false]
  | str n => show false = (whK a && (whK b && false)); rw [Bool.and_false, Bool.and_false]
  | oth => show false = (whK a && (whK b && false)); rw [Bool.and_false, Bool.and_false]
theorem ok_is_page {fT fN fH f : Addr} {fdT fdN fdH fd : FuncData} {tk_MOST_ENTRIES : Tok} (F : Fun K "is_page" "is_page" s_is_page f fd) (bi : Bi mg) (g_MOST_ENTRIES : mg "MOST_ENTRIES" = some (.int 20 tk_MOST_ENTRIES)) (C_is_tuple : Cal P w K mg base "is_tuple" P_is_tuple 1 spTupleT fT fdT) (C_is_entry : Cal P w K mg base "is_entry" P_is_entry 5 spEntryK fN fdN) (C_is_whole : Cal P w K mg base "is_whole" P_is_whole 1 spWholeT fH fdH) : FnOk P w K mg base CX0 6 f fd P_is_page spPageK := by
  refine F.ok sc_is_page (fun vs H Q E h => ?_) (fun cdv A outer s H vs Q E hr h => ?_)
  · obtain ⟨v, t, rfl, _⟩ := h
    rfl
  · obtain ⟨v, t, rfl, hv, q⟩ := h
    refine ⟨_, (pss_cons (ps_if (pw_or (pt_not (pt_val (pe_call (C_is_tuple.G.mono (by decide)) hr (by rfl) C_is_tuple.g C_is_tuple.kp C_is_tuple.b .nil pass0 (pa_cons (pv 0) (pa_cons pe_int (pa_cons pe_int pa_nil)))))) (pw_or (pt_not (pt_val (pe_call (C_is_whole.G.mono (by decide)) hr (by rfl) C_is_whole.g C_is_whole.kp C_is_whole.b .nil pass0 (pa_cons (pe_ix ix_tup (pv 0) pe_int (fun _ _ => rfl)) (pa_cons pe_int pa_nil))))) (pw_or1 (pt_not (pt_val (pe_call (C_is_whole.G.mono (by decide)) hr (by rfl) C_is_whole.g C_is_whole.kp C_is_whole.b .nil pass0 (pa_cons (pe_ix ix_tup (pv 0) pe_int (fun _ _ => rfl)) (pa_cons pe_int pa_nil)))))))).pt
      (pss_one (ps_ret pe_bl))
      pss_nil)
    (pss_one (ps_ret (pe_and (pe_call (C_is_tuple.G.mono (by decide)) hr (by rfl) C_is_tuple.g C_is_tuple.kp C_is_tuple.b .nil pass0 (pa_cons (pe_ix ix_tup (pv 0) pe_int (fun _ _ => rfl)) (pa_cons pe_int (pa_cons (pe_glob (v := .int 20) (by rfl) g_MOST_ENTRIES ⟨_, rfl⟩) pa_nil)))) (pe_one (pe_callB (cr_all rfl) (by rfl) bi.m_all (by decide +kernel) (pa_cons (pe_lc (own := [("entry", 1)]) (g := (gName 1)) (tt := tYes) rfl sc_is_page.nd (pi_tup (pe_ix ix_tup (pv 0) pe_int (fun _ _ => rfl))) (blkOk_by (N := N_is_page) (sc := defScope s_is_page) (by decide +kernel)) (fun _ _ _ _ _ => (pg_name (i := 1) sc_is_page.nd rfl (.inl rfl) (.inr rfl))) (fun _ _ _ _ _ => pts_nil) (fun _ _ _ _ _ => (pe_call (C_is_entry.G.mono (by decide)) hr (by rfl) C_is_entry.g C_is_entry.kp C_is_entry.b .nil pass0 (pa_cons (pv 1) pa_nil)))) pa_nil))))))), ?_⟩
    refine ⟨_, rfl, v, t.th, 3, 3, rfl, hv.th, _, rfl, ?_⟩
    cases t with
    | int n => exact iteNF (q _ (Same.refl _))
    | bl b => exact iteNF (q _ (Same.refl _))
    | oth => exact iteNF (q _ (Same.refl _))
    | str z => exact iteNF (q _ (Same.refl _))
    | tup ts =>
    rw [show lenIn (Tk.th (.tup ts)) 3 3 = _ from lenIn_k (m := 3) (n := 3)]
    by_cases hc : ts.length = 3
    rotate_left
    · rw [page_no hc] at q
      rw [show (decide (3 ≤ ts.length) && decide (ts.length ≤ 3)) = false by
        by_cases h : 3 ≤ ts.length
        · rw [decide_eq_false (show ¬ ts.length ≤ 3 by omega), Bool.and_false]
        · rw [decide_eq_false h, Bool.false_and]]
      exact iteNF (q _ (Same.refl _))
    rw [hc]
    refine iteNT ?_
    obtain ⟨o, vs, rfl, eo, hl, hh⟩ := hv.tupE
    match ts, vs, hc, hl, hh, eo, q with
    | [a, b, c], [u0, u1, u2], _, _, hh, eo, q =>
      have h0 := hh 0 u0 a rfl rfl
      have h1 := hh 1 u1 b rfl rfl
      have h2 := hh 2 u2 c rfl rfl
      rw [isPageK_eq] at q
      refine ⟨_, rfl, o, _, 0, _, rfl, rfl, SqT.of eo, atI_nat (j := 0) rfl, u0, a.th, 0, rfl, h0.th, _, rfl, ?_⟩
      cases ea : whK a with
      | false =>
        rw [ea, Bool.false_and] at q
        rw [show whT a.th 0 = false from ea]
        exact iteNF (q _ (Same.refl _))
      | true =>
      rw [ea, Bool.true_and] at q
      rw [show whT a.th 0 = true from ea]
      refine iteNT ?_
      refine ⟨_, rfl, o, _, 1, _, rfl, rfl, SqT.of eo, atI_nat (j := 1) rfl, u1, b.th, 0, rfl, h1.th, _, rfl, ?_⟩
      cases eb : whK b with
      | false =>
        rw [eb, Bool.false_and] at q
        rw [show whT b.th 0 = false from eb]
        exact iteNF (q _ (Same.refl _))
      | true =>
      rw [eb, Bool.true_and] at q
      rw [show whT b.th 0 = true from eb]
      refine iteNT ?_
      refine ⟨_, rfl, o, _, 2, _, rfl, rfl, SqT.of eo, atI_nat (j := 2) rfl, u2, c.th, 0, 20, rfl, h2.th, _, rfl, ?_⟩
      cases c with
      | int n => exact iteF (q _ (Same.refl _))
      | bl b => exact iteF (q _ (Same.refl _))
      | oth => exact iteF (q _ (Same.refl _))
      | str z => exact iteF (q _ (Same.refl _))
      | tup es =>
      rw [show lenIn (Tk.th (.tup es)) 0 20 = _ from lenIn_k (m := 0) (n := 20), decide_eq_true (Nat.zero_le _), Bool.true_and]
      have q : ∀ H', Same H H' → Q (.bl (decide (es.length ≤ 20) && es.all isEntryK)) H' := q
      by_cases c : es.length ≤ 20
      rotate_left
      · rw [decide_eq_false c] at q ⊢
        exact iteF (q _ (Same.refl _))
      rw [decide_eq_true c] at q ⊢
      rw [Bool.true_and] at q
      refine iteT ?_
      obtain ⟨e, ws, rfl, ee, hel, he⟩ := h2.tupE
      refine ⟨_, rfl, o, _, 2, _, rfl, rfl, SqT.of eo, atI_nat (j := 2) rfl, e, rfl, ⟨_, SqT.of ee⟩, fun D nD => ?_⟩
      refine lc_tup (xs := ws) (fun i H' => Same H H' ∧ H' D = some (.lst (((es.take i).map isEntryK).map V.bl))) ⟨same_new (Same.refl _) nD, upd_same⟩ (fun i H' hi hm => SqT.of (hm.1 _ _ ee)) (fun i x H' hx hm => ?_) (fun H' hm => ?_)
      · obtain ⟨sm, eD⟩ := hm
        have hi : i < ws.length := (List.getElem?_eq_some_iff.mp hx).1
        have et : es[i]? = some (es[i]'(by omega)) := List.getElem?_eq_getElem (by omega)
        generalize es[i]'(by omega) = t at et
        refine ⟨rfl, yesIte ?_⟩
        refine ⟨_, rfl, x, t, rfl, (he i x t hx et).mono (Kinds.same sm), fun H2 s2 => ⟨_, s2 _ _ eD, ?_, same_mine (sm.trans s2) nD, ?_⟩⟩
        · rw [List.length_map, List.length_map, List.length_take]
          exact small1000 (by omega)
        · rw [upd_same, List.take_add_one, et]
          show _ = some (HO.lst (((es.take i ++ [t]).map isEntryK).map V.bl))
          rw [List.map_append, List.map_append]
          rfl
      obtain ⟨s1, eD⟩ := hm
      rw [hel, List.take_length] at eD
      refine ⟨D, _, rfl, SqL.of eD, ?_⟩
      have eall : (es.map isEntryK).all id = es.all isEntryK := by
        rw [List.all_map]
        rfl
      rw [eall]
      exact q _ s1
theorem ok__law_is_count {f : Addr} {fd : FuncData} {k : Nat} (F : Fun K "_law_is_count" "_law_is_count" s__law_is_count f fd) (bi : Bi mg) : FnOk P w K mg base CX0 (k + 1) f fd P__law_is_count spWhole1 := by
  refine F.ok sc__law_is_count (fun vs H Q E h => ?_) (fun cdv A outer s H vs Q E hr h => ?_)
  · obtain ⟨v, t, rfl, _⟩ := h
    rfl
  · obtain ⟨v, t, rfl, hv, q⟩ := h
    refine ⟨_, (pss_one (ps_ret (pe_and (pe_callB call_isi (by rfl) bi.m_isinstance (by decide +kernel) (pa_cons (pv 0) (pa_cons (pe_bltn (v := .ty "int") (by rfl) bi.m_int (by decide +kernel) rfl) pa_nil))) (pe_and (pe_not (pe_callB call_isi (by rfl) bi.m_isinstance (by decide +kernel) (pa_cons (pv 0) (pa_cons (pe_bltn (v := .ty "bool") (by rfl) bi.m_bool (by decide +kernel) rfl) pa_nil)))) (pe_one (pe_cmpR op_ge (pv 0) pe_int (nomark _))))))), ?_⟩
    obtain ⟨Tint, hint, kint⟩ := isi_int (K := K) hv
    refine ⟨_, rfl, _, _, _, _, _, rfl, ClsV.ty "int", hint, kint, _, rfl, ?_⟩
    cases t with
    | int m =>
      refine iteT ?_
      obtain ⟨Tbl, hbl, kbl⟩ := isi_bl (K := K) hv
      refine ⟨_, rfl, _, _, _, _, _, rfl, ClsV.ty "bool", hbl, kbl, _, rfl, _, rfl, ?_⟩
      refine iteT ?_
      cases hv
      exact ⟨_, rfl, _, _, rfl, rfl, q⟩
    | bl b =>
      refine iteT ?_
      obtain ⟨Tbl, hbl, kbl⟩ := isi_bl (K := K) hv
      refine ⟨_, rfl, _, _, _, _, _, rfl, ClsV.ty "bool", hbl, kbl, _, rfl, _, rfl, ?_⟩
      exact iteF q
    | oth => exact iteF q
    | tup ts => exact iteF q
theorem ok__law_is_wisp {fW f : Addr} {fdW fd : FuncData} (F : Fun K "_law_is_wisp" "_law_is_wisp" s__law_is_wisp f fd) (bi : Bi mg) (C__law_is_count : Cal P w K mg base "_law_is_count" P__law_is_count 1 spWhole1 fW fdW) : FnOk P w K mg base CX0 2 f fd P__law_is_wisp spWispT := by
  refine F.ok sc__law_is_wisp (fun vs H Q E h => ?_) (fun cdv A outer s H vs Q E hr h => ?_)
  · obtain ⟨v, t, rfl, _⟩ := h
    rfl
  · obtain ⟨v, t, rfl, hv, q⟩ := h
    refine ⟨_, (pss_cons (ps_if (pw_or (pt_not (pt_val (pe_callB call_isi (by rfl) bi.m_isinstance (by decide +kernel) (pa_cons (pv 0) (pa_cons (pe_bltn (v := .ty "tuple") (by rfl) bi.m_tuple (by decide +kernel) rfl) pa_nil))))) (pw_or (pt_cmpR op_ne (pe_callB call_len_seq (by rfl) bi.m_len (by decide +kernel) (pa_cons (pv 0) pa_nil)) pe_int (nomark _)) (pw_or (pt_not (pt_val (pe_call (C__law_is_count.G.mono (by decide)) hr (by rfl) C__law_is_count.g C__law_is_count.kp C__law_is_count.b .nil pass0 (pa_cons (pe_ix ix_tup (pv 0) pe_int (fun _ _ => rfl)) pa_nil)))) (pw_or1 (pt_cmpR op_gt (pe_ix ix_tup (pv 0) pe_int (fun _ _ => rfl)) pe_int (nomark _)))))).pt
      (pss_one (ps_ret pe_bl))
      pss_nil)
    (pss_cons (ps_if (pw_or (pt_not (pt_val (pe_callB call_isi (by rfl) bi.m_isinstance (by decide +kernel) (pa_cons (pe_ix ix_tup (pv 0) pe_int (fun _ _ => rfl)) (pa_cons (pe_bltn (v := .ty "tuple") (by rfl) bi.m_tuple (by decide +kernel) rfl) pa_nil))))) (pw_or1 (pt_not (pt_chain op_le op_le pe_int (pe_callB call_len_seq (by rfl) bi.m_len (by decide +kernel) (pa_cons (pe_ix ix_tup (pv 0) pe_int (fun _ _ => rfl)) pa_nil)) pe_int)))).pt
      (pss_one (ps_ret pe_bl))
      pss_nil)
    (pss_cons (ps_set (i := 1) sc__law_is_wisp.nd rfl (.inl rfl) pe_non)
    (pss_cons (ps_for PassesOwn.never rfl (pi_tup (pe_ix ix_tup (pv 0) pe_int (fun _ _ => rfl))) (pg_name (i := 2) sc__law_is_wisp.nd rfl (.inl rfl))
      (pss_cons (ps_if (pw_or (pt_not (pt_val (pe_callB call_isi (by rfl) bi.m_isinstance (by decide +kernel) (pa_cons (pv 2) (pa_cons (pe_bltn (v := .ty "tuple") (by rfl) bi.m_tuple (by decide +kernel) rfl) pa_nil))))) (pw_or (pt_cmpR op_ne (pe_callB call_len_seq (by rfl) bi.m_len (by decide +kernel) (pa_cons (pv 2) pa_nil)) pe_int (nomark _)) (pw_or1 (pt_not (pt_val (pe_callB (cr_all rfl) (by rfl) bi.m_all (by decide +kernel) (pa_cons (pe_lc (own := [("_law_one", 3)]) (g := (gName 3)) (tt := tYes) rfl sc__law_is_wisp.nd (pi_tup (pv 2)) (blkOk_by (N := N__law_is_wisp) (sc := defScope s__law_is_wisp) (by decide +kernel)) (fun _ _ _ _ _ => (pg_name (i := 3) sc__law_is_wisp.nd rfl (.inl rfl) (.inr rfl))) (fun _ _ _ _ _ => pts_nil) (fun _ _ _ _ _ => (pe_and (pe_call (C__law_is_count.G.mono (by decide)) hr (by rfl) C__law_is_count.g C__law_is_count.kp C__law_is_count.b .nil pass0 (pa_cons (pv 3) pa_nil)) (pe_one (pe_cmpR op_gt (pv 3) pe_int (nomark _)))))) pa_nil))))))).pt
          (pss_one (ps_ret pe_bl))
          pss_nil)
        (pss_cons (ps_if (pw_and (pt_cmpR op_notN (pv 1) pe_non (nomark _)) (pw_and1 (pt_cmpR op_ge (pe_ix ix_tup (pv 2) pe_int (fun _ _ => rfl)) (pv 1) (nomark _)))).pt
          (pss_one (ps_ret pe_bl))
          pss_nil)
        (pss_one (ps_set (i := 1) sc__law_is_wisp.nd rfl (.inl rfl) (pe_ix ix_tup (pv 2) pe_int (fun _ _ => rfl)))))))
    (pss_one (ps_ret pe_bl)))))), ?_⟩
    obtain ⟨Ttup, htup, ktup⟩ := isi_tup (K := K) hv
    refine ⟨_, rfl, _, _, _, _, _, rfl, ClsV.ty "tuple", htup, ktup, _, rfl, ?_⟩
    cases t with
    | int m => exact iteNF (q _ (Same.refl _))
    | bl b => exact iteNF (q _ (Same.refl _))
    | oth => exact iteNF (q _ (Same.refl _))
    | tup us =>
      refine iteNT ?_
      obtain ⟨b, ws, rfl, eb, hwl, hw⟩ := hv.tupE
      refine ⟨_, rfl, b, ws, rfl, .inr (SqT.of eb), rfl, _, rfl, ?_⟩
      match us, ws, eb, hwl, hw, q with
      | [], [], eb, _, hw, q => exact ite2 (fun _ => q _ (Same.refl _)) (fun e => by simp at e)
      | [_], [_], eb, _, hw, q => exact ite2 (fun _ => q _ (Same.refl _)) (fun e => by simp at e)
      | [x, y], [u, v], eb, _, hw, q =>
        refine ite2 (fun e => by simp at e) (fun _ => ?_)
        have q : ∀ H', Same H H' → Q (.bl (whT x 0 && decide (numT x ≤ 1) && areSteps y)) H' := q
        refine ⟨_, rfl, b, _, 0, _, rfl, rfl, SqT.of eb, atI_nat (j := 0) rfl, u, x, rfl, hw 0 u x rfl rfl, _, rfl, ?_⟩
        cases h1 : whT x 0 with
        | false =>
          rw [h1] at q
          exact iteNF (q _ (Same.refl _))
        | true =>
          rw [h1, Bool.true_and] at q
          refine iteNT ?_
          obtain ⟨m, rfl, m0⟩ := wh_of h1
          have e1 := (hw 0 u _ rfl rfl).intE
          subst e1
          have q : ∀ H', Same H H' → Q (.bl (decide (m ≤ 1) && areSteps y)) H' := q
          refine ⟨_, rfl, b, _, 0, _, rfl, rfl, SqT.of eb, atI_nat (j := 0) rfl, _, _, rfl, rfl, _, rfl, ite2 (fun e => ?_) (fun e => ?_)⟩
          · have e := of_decide_eq_true e
            rw [decide_eq_false (show ¬ m ≤ 1 by omega)] at q
            exact q _ (Same.refl _)
          have e : ¬ 1 < m := of_decide_eq_false (Bool.eq_false_iff.mpr e)
          rw [decide_eq_true (show m ≤ 1 by omega), Bool.true_and] at q
          have hy := hw 1 v y rfl rfl
          obtain ⟨T2, h2, k2⟩ := isi_tup (K := K) hy
          refine ⟨_, rfl, b, _, 1, _, rfl, rfl, SqT.of eb, atI_nat (j := 1) rfl, _, _, _, _, _, rfl, ClsV.ty "tuple", h2, k2, _, rfl, ?_⟩
          cases y with
          | int m => exact iteNF (q _ (Same.refl _))
          | bl b => exact iteNF (q _ (Same.refl _))
          | oth => exact iteNF (q _ (Same.refl _))
          | tup ts =>
            refine iteNT ?_
            obtain ⟨a, vs, rfl, ea, hl, hh⟩ := hy.tupE
            have q : ∀ H', Same H H' → Q (.bl (decide (1 ≤ ts.length) && decide (ts.length ≤ 8) && ts.all isStep && fallsT (ts.map firstT))) H' := q
            refine ⟨_, rfl, b, _, 1, _, rfl, rfl, SqT.of eb, atI_nat (j := 1) rfl, a, vs, rfl, .inr (SqT.of ea), _, _, rfl, rfl, _, rfl, ?_⟩
            by_cases c1 : 1 ≤ ts.length
            rotate_left
            · rw [decide_eq_false c1] at q
              rw [decide_eq_false (show ¬ (1 : Int) ≤ (vs.length : Int) by omega)]
              exact iteF ⟨_, rfl, iteNF (q _ (Same.refl _))⟩
            rw [decide_eq_true c1, Bool.true_and] at q
            rw [decide_eq_true (show (1 : Int) ≤ (vs.length : Int) by omega)]
            refine iteT ?_
            refine ⟨_, _, rfl, rfl, _, rfl, ?_⟩
            by_cases c8 : ts.length ≤ 8
            rotate_left
            · rw [decide_eq_false c8] at q
              rw [decide_eq_false (show ¬ (vs.length : Int) ≤ 8 by omega)]
              exact iteNF (q _ (Same.refl _))
            rw [decide_eq_true c8, Bool.true_and, ← fall_all] at q
            rw [decide_eq_true (show (vs.length : Int) ≤ 8 by omega)]
            refine iteNT ?_
            refine ⟨_, rfl, b, _, 1, _, rfl, rfl, SqT.of eb, atI_nat (j := 1) rfl, ?_⟩
            refine ⟨a, rfl, ⟨_, SqT.of ea⟩, for_tup (xs := vs) (fun i σ' H' => Same H H' ∧ ∃ (x2 x3 : Option V) (last : Option Int), σ' = [some (.ref b), some (lastV last), x2, x3] ∧ goFall none ts = goFall last (ts.drop i)) ⟨Same.refl _, _, _, none, rfl, rfl⟩ (fun i σ' H' hi hm => ?_) (fun i x σ' H' hx hm => ?_) (fun σ' H' hm => ?_)⟩
            · obtain ⟨sm, _⟩ := hm
              exact SqT.of (sm _ _ ea)
            · obtain ⟨sm, x2, x3, last, rfl, hg⟩ := hm
              have hi : i < vs.length := (List.getElem?_eq_some_iff.mp hx).1
              have hit : i < ts.length := by omega
              have et : ts[i]? = some (ts[i]'hit) := List.getElem?_eq_getElem hit
              rw [List.drop_eq_getElem_cons hit] at hg
              generalize ts[i]'hit = t at et hg
              have hxt := (hh i x t hx et).mono (Kinds.same sm)
              rw [hg] at q
              have hgo : goFall last (t :: ts.drop (i + 1)) = (isStep t && fitsT last (firstT t) && goFall (some (firstT t)) (ts.drop (i + 1))) := rfl
              rw [hgo] at q hg
              have no : isStep t = false → ∀ H2, Same H H2 → Q (.bl false) H2 := fun hf H2 s2 => by
                have q := q _ s2
                rw [hf] at q
                exact q
              obtain ⟨T3, h3, k3⟩ := isi_tup (K := K) hxt
              refine ⟨_, rfl, _, _, _, _, _, rfl, ClsV.ty "tuple", h3, k3, _, rfl, ?_⟩
              cases t with
              | int m => exact iteNF (no rfl _ sm)
              | bl b => exact iteNF (no rfl _ sm)
              | oth => exact iteNF (no rfl _ sm)
              | tup us =>
                refine iteNT ?_
                obtain ⟨c, ws, rfl, ec, hwl, hw'⟩ := hxt.tupE
                refine ⟨_, rfl, c, ws, rfl, .inr (SqT.of ec), rfl, _, rfl, ?_⟩
                match us, ws, ec, hwl, hw', no, q, hg with
                | [], [], ec, _, hw', no, q, hg => exact ite2 (fun _ => no rfl _ sm) (fun e => by simp at e)
                | [_], [_], ec, _, hw', no, q, hg => exact ite2 (fun _ => no rfl _ sm) (fun e => by simp at e)
                | [x, y], [u, v], ec, _, hw', no, q, hg =>
                  refine ite2 (fun e => by simp at e) (fun _ => ?_)
                  have nb : isStep (.tup [x, y]) = ([x, y].all fun t => whT t 1) := by
                    show (whT x 1 && whT y 1) = (whT x 1 && (whT y 1 && true))
                    rw [Bool.and_true]
                  rw [nb] at no q hg
                  refine ⟨_, rfl, c, rfl, ⟨_, SqT.of ec⟩, fun D nD => ?_⟩
                  refine lc_tup (xs := [u, v]) (fun j H2 => Same H' H2 ∧ H2 D = some (.lst ((([x, y].take j).map fun t => whT t 1).map V.bl))) ⟨same_new (Same.refl _) nD, upd_same⟩ (fun j H2 hj hm => SqT.of (hm.1 _ _ ec)) (fun j x1 H2 hx1 hm => ?_) (fun H2 hm => ?_)
                  · obtain ⟨s2, eD⟩ := hm
                    have hj : j < 2 := (List.getElem?_eq_some_iff.mp hx1).1
                    have et1 : [x, y][j]? = some ([x, y][j]'hj) := List.getElem?_eq_getElem hj
                    generalize [x, y][j]'hj = t1 at et1
                    have ht1 := (hw' j x1 t1 hx1 et1).mono (Kinds.same s2)
                    have fin : ∃ acc, H2 D = some (.lst acc) ∧ acc.length < sizeLine ∧ Same H' (upd H2 D (.lst (acc ++ [V.bl (whT t1 1)]))) ∧ upd H2 D (.lst (acc ++ [V.bl (whT t1 1)])) D = some (.lst ((([x, y].take (j + 1)).map fun t => whT t 1).map V.bl)) := by
                      refine ⟨_, eD, ?_, same_mine s2 nD, ?_⟩
                      · rw [List.length_map, List.length_map, List.length_take]
                        exact small1000 (by omega)
                      · rw [upd_same, List.take_add_one, et1]
                        show _ = some (HO.lst ((([x, y].take j ++ [t1]).map fun t => whT t 1).map V.bl))
                        rw [List.map_append, List.map_append]
                        rfl
                    refine ⟨rfl, yesIte ?_⟩
                    refine ⟨_, rfl, x1, t1, rfl, ht1, _, rfl, ?_⟩
                    cases h0 : whT t1 0 with
                    | false =>
                      have h1 : whT t1 1 = false := by
                        cases t1 with
                        | int m =>
                          have : ¬ 0 ≤ m := of_decide_eq_false h0
                          exact decide_eq_false (by omega)
                        | _ => rfl
                      rw [h1] at fin
                      exact iteF fin
                    | true =>
                      refine iteT ?_
                      obtain ⟨m, rfl, m0⟩ := wh_of h0
                      have e1 := ht1.intE
                      subst e1
                      refine ⟨_, rfl, _, _, rfl, rfl, ?_⟩
                      have h1 : whT (.int m) 1 = decide (0 < m) := decide_eq_decide.mpr (by omega)
                      rw [h1] at fin
                      exact fin
                  · obtain ⟨s2, eD⟩ := hm
                    have eD : H2 D = some (.lst (([x, y].map fun t => whT t 1).map V.bl)) := eD
                    refine ⟨D, _, rfl, SqL.of eD, _, rfl, ?_⟩
                    have eall : ([x, y].map fun t => whT t 1).all id = [x, y].all fun t => whT t 1 := by
                      rw [List.all_map]
                      rfl
                    rw [eall]
                    have sm2 := sm.trans s2
                    cases hb : [x, y].all fun t => whT t 1 with
                    | false => exact iteNF (no hb _ sm2)
                    | true =>
                      rw [hb, Bool.true_and] at q hg
                      refine iteNT ?_
                      have h1 : whT x 1 = true := List.all_eq_true.mp hb x (by simp)
                      obtain ⟨m, rfl, m1⟩ := wh_of h1
                      have e1 := (hw' 0 u _ rfl rfl).intE
                      subst e1
                      have ec := s2 _ _ ec
                      have fin : goFall none ts = goFall (some m) (ts.drop (i + 1)) → ∀ σ2 x3, σ2 = [some (.ref b), some (.int m), some (.ref c), x3] → Same H H2 ∧ ∃ (x2 x3 : Option V) (last : Option Int), σ2 = [some (.ref b), some (lastV last), x2, x3] ∧ goFall none ts = goFall last (ts.drop (i + 1)) := fun h σ2 x3 e => ⟨sm2, _, _, some m, e, h⟩
                      cases last with
                      | none =>
                        refine ⟨_, rfl, rfl, _, rfl, iteF ?_⟩
                        exact ⟨_, rfl, c, _, 0, _, rfl, rfl, SqT.of ec, atI_nat (j := 0) rfl, fin hg _ _ rfl⟩
                      | some l =>
                        have q : ∀ H1, Same H H1 → Q (.bl (decide (m < l) && goFall (some m) (ts.drop (i + 1)))) H1 := q
                        have hg : goFall none ts = (decide (m < l) && goFall (some m) (ts.drop (i + 1))) := hg
                        refine ⟨_, rfl, rfl, _, rfl, iteT ?_⟩
                        refine ⟨_, rfl, c, _, 0, _, rfl, rfl, SqT.of ec, atI_nat (j := 0) rfl, _, rfl, _, _, rfl, rfl, _, rfl, ite2 (fun e => ?_) (fun e => ?_)⟩
                        · have e := of_decide_eq_true e
                          rw [decide_eq_false (show ¬ m < l by omega)] at q
                          exact q _ sm2
                        · have e : ¬ l ≤ m := of_decide_eq_false (Bool.eq_false_iff.mpr e)
                          rw [decide_eq_true (show m < l by omega), Bool.true_and] at hg
                          exact ⟨_, rfl, c, _, 0, _, rfl, rfl, SqT.of ec, atI_nat (j := 0) rfl, fin hg _ _ rfl⟩
                | x :: y :: z :: r, u :: v :: w' :: r', ec, _, hw', no, q, hg =>
                  refine ite2 (fun _ => no rfl _ sm) (fun e => ?_)
                  refine absurd ?_ e
                  rw [decide_eq_false, Bool.not_false]
                  intro h
                  have := V.int.inj h
                  have h3 : ((r'.length + 1 + 1 + 1 : Nat) : Int) = 2 := this
                  omega
            · obtain ⟨sm, x2, x3, last, rfl, hg⟩ := hm
              rw [hl, List.drop_length] at hg
              rw [hg] at q
              exact q _ sm
      | x :: y :: z :: r, u :: v :: w' :: r', eb, _, hw, q =>
        refine ite2 (fun _ => q _ (Same.refl _)) (fun e => ?_)
        refine absurd ?_ e
        rw [decide_eq_false, Bool.not_false]
        intro h
        have := V.int.inj h
        have h3 : ((r'.length + 1 + 1 + 1 : Nat) : Int) = 2 := this
        omega
theorem ok__law_is_name {f : Addr} {fd : FuncData} {k : Nat} (F : Fun K "_law_is_name" "_law_is_name" s__law_is_name f fd) (bi : Bi mg) : FnOk P w K mg base CX0 (k + 1) f fd P__law_is_name spNameK := by
  refine F.ok sc__law_is_name (fun vs H Q E h => ?_) (fun cdv A outer s H vs Q E hr h => ?_)
  · obtain ⟨B, v, t, rfl, _⟩ := h
    rfl
  · obtain ⟨B, v, t, rfl, hv, q⟩ := h
    refine ⟨_, (pss_one (ps_ret (pe_and (pe_callB call_isi (by rfl) bi.m_isinstance (by decide +kernel) (pa_cons (pv 0) (pa_cons (pe_bltn (v := .ty "str") (by rfl) bi.m_str (by decide +kernel) rfl) pa_nil))) (pe_and (pe_chain op_le op_le pe_int (pe_callB call_len_str (by rfl) bi.m_len (by decide +kernel) (pa_cons (pv 0) pa_nil)) pe_int) (pe_one (pe_cmpR op_eq (pe_stripC (pv 0) pe_str) pe_str (nomark _))))))), ?_⟩
    obtain ⟨T, hT, kT⟩ := isi_str (K := K) hv
    refine ⟨_, rfl, _, _, _, _, _, rfl, ClsV.ty "str", hT, kT, _, rfl, ?_⟩
    cases t with
    | int n => exact iteF (q _ (Same.refl _))
    | bl b => exact iteF (q _ (Same.refl _))
    | oth => exact iteF (q _ (Same.refl _))
    | tup ts => exact iteF (q _ (Same.refl _))
    | str z =>
    obtain ⟨rfl, hz⟩ := hv.strE
    refine iteT ?_
    have q : Q (.bl (decide (1 ≤ z.length) && decide (z.length ≤ 8) && (cpl z).all letC)) H := q _ (Same.refl _)
    have hl : z.length = (cpl z).length := rfl
    refine ⟨_, rfl, _, rfl, small_line (by omega), _, _, rfl, rfl, _, rfl, ?_⟩
    by_cases c1 : 1 ≤ z.length
    rotate_left
    · rw [decide_eq_false c1] at q
      rw [decide_eq_false (show ¬ (1 : Int) ≤ (z.length : Int) by omega)]
      exact iteF ⟨_, rfl, iteF q⟩
    rw [decide_eq_true (show (1 : Int) ≤ (z.length : Int) by omega)]
    refine iteT ?_
    refine ⟨_, _, rfl, rfl, _, rfl, ?_⟩
    rw [decide_eq_true c1, Bool.true_and] at q
    by_cases c8 : z.length ≤ 8
    rotate_left
    · rw [decide_eq_false c8] at q
      rw [decide_eq_false (show ¬ (z.length : Int) ≤ 8 by omega)]
      exact iteF q
    rw [decide_eq_true c8, Bool.true_and] at q
    rw [decide_eq_true (show (z.length : Int) ≤ 8 by omega)]
    refine iteT ?_
    refine ⟨_, rfl, ⟨_, rfl⟩, _, _, rfl, rfl, small_line (by omega), rfl, ?_⟩
    rw [strip_let]
    exact q
theorem ok__law_is_entry {fN fW fH f : Addr} {fdN fdW fdH fd : FuncData} (F : Fun K "_law_is_entry" "_law_is_entry" s__law_is_entry f fd) (bi : Bi mg) (C__law_is_name : Cal P w K mg base "_law_is_name" P__law_is_name 1 spNameK fN fdN) (C__law_is_wisp : Cal P w K mg base "_law_is_wisp" P__law_is_wisp 2 spWispT fW fdW) (C__law_is_count : Cal P w K mg base "_law_is_count" P__law_is_count 1 spWhole1 fH fdH) : FnOk P w K mg base CX0 3 f fd P__law_is_entry spEntryK := by
  refine F.ok sc__law_is_entry (fun vs H Q E h => ?_) (fun cdv A outer s H vs Q E hr h => ?_)
  · obtain ⟨v, t, rfl, _⟩ := h
    rfl
  · obtain ⟨v, t, rfl, hv, q⟩ := h
    refine ⟨_, (pss_cons (ps_if (pw_or (pt_not (pt_val (pe_callB call_isi (by rfl) bi.m_isinstance (by decide +kernel) (pa_cons (pv 0) (pa_cons (pe_bltn (v := .ty "tuple") (by rfl) bi.m_tuple (by decide +kernel) rfl) pa_nil))))) (pw_or (pt_cmpR op_lt (pe_callB call_len_seq (by rfl) bi.m_len (by decide +kernel) (pa_cons (pv 0) pa_nil)) pe_int (nomark _)) (pw_or1 (pt_not (pt_val (pe_callB call_isi (by rfl) bi.m_isinstance (by decide +kernel) (pa_cons (pe_ix ix_tup (pv 0) pe_int (fun _ _ => rfl)) (pa_cons (pe_bltn (v := .ty "str") (by rfl) bi.m_str (by decide +kernel) rfl) pa_nil)))))))).pt
      (pss_one (ps_ret pe_bl))
      pss_nil)
    (pss_cons (ps_if (pw_and (pt_cmpR op_eq (pe_ix ix_tup (pv 0) pe_int (fun _ _ => rfl)) pe_str (nomark _)) (pw_and1 (pt_cmpR op_eq (pe_callB call_len_seq (by rfl) bi.m_len (by decide +kernel) (pa_cons (pv 0) pa_nil)) pe_int (nomark _)))).pt
      (pss_one (ps_ret (pe_and (pe_call (C__law_is_name.G.mono (by decide)) hr (by rfl) C__law_is_name.g C__law_is_name.kp C__law_is_name.b .nil pass0 (pa_cons (pe_ix ix_tup (pv 0) pe_int (fun _ _ => rfl)) pa_nil)) (pe_and (pe_call (C__law_is_wisp.G.mono (by decide)) hr (by rfl) C__law_is_wisp.g C__law_is_wisp.kp C__law_is_wisp.b .nil pass0 (pa_cons (pe_ix ix_tup (pv 0) pe_int (fun _ _ => rfl)) pa_nil)) (pe_one (pe_call (C__law_is_count.G.mono (by decide)) hr (by rfl) C__law_is_count.g C__law_is_count.kp C__law_is_count.b .nil pass0 (pa_cons (pe_ix ix_tup (pv 0) pe_int (fun _ _ => rfl)) pa_nil)))))))
      pss_nil)
    (pss_cons (ps_if (pw_and (pt_cmpR op_eq (pe_ix ix_tup (pv 0) pe_int (fun _ _ => rfl)) pe_str (nomark _)) (pw_and1 (pt_cmpR op_eq (pe_callB call_len_seq (by rfl) bi.m_len (by decide +kernel) (pa_cons (pv 0) pa_nil)) pe_int (nomark _)))).pt
      (pss_one (ps_ret (pe_and (pe_call (C__law_is_name.G.mono (by decide)) hr (by rfl) C__law_is_name.g C__law_is_name.kp C__law_is_name.b .nil pass0 (pa_cons (pe_ix ix_tup (pv 0) pe_int (fun _ _ => rfl)) pa_nil)) (pe_one (pe_call (C__law_is_count.G.mono (by decide)) hr (by rfl) C__law_is_count.g C__law_is_count.kp C__law_is_count.b .nil pass0 (pa_cons (pe_ix ix_tup (pv 0) pe_int (fun _ _ => rfl)) pa_nil))))))
      pss_nil)
    (pss_one (ps_ret (pe_and (pe_cmpR op_eq (pe_ix ix_tup (pv 0) pe_int (fun _ _ => rfl)) pe_str (nomark _)) (pe_and (pe_cmpR op_eq (pe_callB call_len_seq (by rfl) bi.m_len (by decide +kernel) (pa_cons (pv 0) pa_nil)) pe_int (nomark _)) (pe_and (pe_call (C__law_is_count.G.mono (by decide)) hr (by rfl) C__law_is_count.g C__law_is_count.kp C__law_is_count.b .nil pass0 (pa_cons (pe_ix ix_tup (pv 0) pe_int (fun _ _ => rfl)) pa_nil)) (pe_one (pe_call (C__law_is_count.G.mono (by decide)) hr (by rfl) C__law_is_count.g C__law_is_count.kp C__law_is_count.b .nil pass0 (pa_cons (pe_ix ix_tup (pv 0) pe_int (fun _ _ => rfl)) pa_nil))))))))))), ?_⟩
    obtain ⟨T1, hT1, kT1⟩ := isi_tup (K := K) hv.th
    refine ⟨_, rfl, _, _, _, _, _, rfl, ClsV.ty "tuple", hT1, kT1, _, rfl, ?_⟩
    cases t with
    | int n => exact iteNF (q _ (Same.refl _))
    | bl b => exact iteNF (q _ (Same.refl _))
    | oth => exact iteNF (q _ (Same.refl _))
    | str z => exact iteNF (q _ (Same.refl _))
    | tup ts =>
    refine iteNT ?_
    obtain ⟨o, vs, rfl, eo, hl, hh⟩ := hv.tupE
    refine ⟨_, rfl, o, vs, rfl, .inr (SqT.of eo), _, _, rfl, rfl, _, rfl, ?_⟩
    match ts, vs, eo, hl, hh, q with
    | [], [], eo, _, hh, q => exact ite2 (fun _ => q _ (Same.refl _)) (fun e => by simp at e)
    | [x0], [u0], eo, _, hh, q => exact ite2 (fun _ => (show isEntryK (.tup [x0]) = false by cases x0 <;> rfl) ▸ q _ (Same.refl _)) (fun e => by simp at e)
    | [x0, x1], [u0, u1], eo, _, hh, q => exact ite2 (fun _ => (show isEntryK (.tup [x0, x1]) = false by cases x0 <;> rfl) ▸ q _ (Same.refl _)) (fun e => by simp at e)
    | x0 :: x1 :: x2 :: r, u0 :: u1 :: u2 :: r', eo, hl, hh, q =>
      refine ite2 (fun e => absurd (of_decide_eq_true e) (by show ¬ ((r'.length + 1 + 1 + 1 : Nat) : Int) < 3; omega)) (fun _ => ?_)
      have hlr : r'.length = r.length := by simpa using hl
      have h0 := hh 0 u0 x0 rfl rfl
      have h1 := hh 1 u1 x1 rfl rfl
      have h2 := hh 2 u2 x2 rfl rfl
      obtain ⟨T, hT, kT⟩ := isi_str (K := K) h0
      refine ⟨_, rfl, o, _, 0, _, rfl, rfl, SqT.of eo, atI_nat (j := 0) rfl, _, _, _, _, _, rfl, ClsV.ty "str", hT, kT, _, rfl, ?_⟩
      cases x0 with
      | int n => exact iteNF (q _ (Same.refl _))
      | bl b => exact iteNF (q _ (Same.refl _))
      | oth => exact iteNF (q _ (Same.refl _))
      | tup ts => exact iteNF (q _ (Same.refl _))
      | str z =>
      obtain ⟨rfl, hz⟩ := h0.strE
      refine iteNT ?_
      match r, r', eo, hlr, hh, q with
      | [], [], eo, _, hh, q =>
        refine ⟨_, rfl, o, _, 0, _, rfl, rfl, SqT.of eo, atI_nat (j := 0) rfl, rfl, _, rfl, ite2 (fun _ => ⟨_, rfl, o, _, rfl, .inr (SqT.of eo), rfl, _, rfl, ite2 (fun e => by simp at e) (fun _ => ?_)⟩) (fun _ => ?_)⟩
        all_goals
          have q : ∀ H', Same H H' → Q (.bl (if z = "let" then isNameK x1 && whK x2 else if z = "snap" then whK x1 && whK x2 else false)) H' := q
          refine ⟨_, rfl, o, _, 0, _, rfl, rfl, SqT.of eo, atI_nat (j := 0) rfl, rfl, _, rfl, ite2 (fun e => ⟨_, rfl, o, _, rfl, .inr (SqT.of eo), rfl, _, rfl, ite2 (fun _ => ?_) (fun e => absurd (decide_eq_true rfl) e)⟩) (fun e => ?_)⟩
          · rw [if_pos (V.str.inj (of_decide_eq_true e))] at q
            refine ⟨_, rfl, o, _, 1, _, rfl, rfl, SqT.of eo, atI_nat (j := 1) rfl, topB, u1, x1, rfl, h1, fun H1 s1 => ⟨_, rfl, ite2 (fun e => ?_) (fun e => ?_)⟩⟩
            · rw [e, Bool.true_and] at q
              exact ⟨_, rfl, o, _, 2, _, rfl, rfl, SqT.of (s1 _ _ eo), atI_nat (j := 2) rfl, u2, x2.th, rfl, (h2.mono (Kinds.same s1)).th, q _ s1⟩
            · rw [Bool.eq_false_iff.mpr e, Bool.false_and] at q
              exact q _ s1
          · rw [if_neg (fun h => e (decide_eq_true (congrArg V.str h)))] at q
            refine ⟨_, rfl, o, _, 0, _, rfl, rfl, SqT.of eo, atI_nat (j := 0) rfl, rfl, _, rfl, ite2 (fun e => ?_) (fun e => ?_)⟩
            · rw [if_pos (V.str.inj (of_decide_eq_true e))] at q
              refine ⟨_, rfl, o, _, rfl, .inr (SqT.of eo), rfl, _, rfl, ite2 (fun _ => ?_) (fun e => absurd (decide_eq_true rfl) e)⟩
              refine ⟨_, rfl, o, _, 1, _, rfl, rfl, SqT.of eo, atI_nat (j := 1) rfl, u1, x1.th, rfl, h1.th, _, rfl, ite2 (fun e => ?_) (fun e => ?_)⟩
              · rw [show whK x1 = true from e, Bool.true_and] at q
                exact ⟨_, rfl, o, _, 2, _, rfl, rfl, SqT.of eo, atI_nat (j := 2) rfl, u2, x2.th, rfl, h2.th, q _ (Same.refl _)⟩
              · rw [show whK x1 = false from Bool.eq_false_iff.mpr e, Bool.false_and] at q
                exact q _ (Same.refl _)
            · rw [if_neg (fun h => e (decide_eq_true (congrArg V.str h)))] at q
              exact q _ (Same.refl _)
      | [x3], [u3], eo, _, hh, q =>
        have h3 := hh 3 u3 x3 rfl rfl
        have q : ∀ H', Same H H' → Q (.bl (if z = "lay" then isNameK x1 && isWispT x2.th && whK x3 else false)) H' := q
        refine ⟨_, rfl, o, _, 0, _, rfl, rfl, SqT.of eo, atI_nat (j := 0) rfl, rfl, _, rfl, ite2 (fun e => ⟨_, rfl, o, _, rfl, .inr (SqT.of eo), rfl, _, rfl, ite2 (fun _ => ?_) (fun e => absurd (decide_eq_true rfl) e)⟩) (fun e => ?_)⟩
        · rw [if_pos (V.str.inj (of_decide_eq_true e))] at q
          refine ⟨_, rfl, o, _, 1, _, rfl, rfl, SqT.of eo, atI_nat (j := 1) rfl, topB, u1, x1, rfl, h1, fun H1 s1 => ⟨_, rfl, ite2 (fun e => ?_) (fun e => ?_)⟩⟩
          · rw [e, Bool.true_and] at q
            refine ⟨_, rfl, o, _, 2, _, rfl, rfl, SqT.of (s1 _ _ eo), atI_nat (j := 2) rfl, u2, x2.th, rfl, (h2.mono (Kinds.same s1)).th, fun H2 s2 => ⟨_, rfl, ite2 (fun e => ?_) (fun e => ?_)⟩⟩
            · rw [e, Bool.true_and] at q
              have s12 := s1.trans s2
              exact ⟨_, rfl, o, _, 3, _, rfl, rfl, SqT.of (s12 _ _ eo), atI_nat (j := 3) rfl, u3, x3.th, rfl, (h3.mono (Kinds.same s12)).th, q _ s12⟩
            · rw [Bool.eq_false_iff.mpr e, Bool.false_and] at q
              exact q _ (s1.trans s2)
          · rw [Bool.eq_false_iff.mpr e, Bool.false_and, Bool.false_and] at q
            exact q _ s1
        · rw [if_neg (fun h => e (decide_eq_true (congrArg V.str h)))] at q
          refine ⟨_, rfl, o, _, 0, _, rfl, rfl, SqT.of eo, atI_nat (j := 0) rfl, rfl, _, rfl, ite2 (fun _ => ⟨_, rfl, o, _, rfl, .inr (SqT.of eo), rfl, _, rfl, ite2 (fun e => by simp at e) (fun _ => ?_)⟩) (fun _ => ?_)⟩
          all_goals
            exact ⟨_, rfl, o, _, 0, _, rfl, rfl, SqT.of eo, atI_nat (j := 0) rfl, rfl, _, rfl, ite2 (fun _ => ⟨_, rfl, o, _, rfl, .inr (SqT.of eo), rfl, _, rfl, ite2 (fun e => by simp at e) (fun e => q _ (Same.refl _))⟩) (fun e => q _ (Same.refl _))⟩
      | x3 :: x4 :: r, u3 :: u4 :: r', eo, _, hh, q =>
        have ln4 : ¬ decide (V.int (((V.str z :: u1 :: u2 :: u3 :: u4 :: r').length : Nat) : Int) = V.int 4) = true := fun h => by
          have h := V.int.inj (of_decide_eq_true h)
          have h : ((r'.length + 1 + 1 + 1 + 1 + 1 : Nat) : Int) = 4 := h
          omega
        have ln3 : ¬ decide (V.int (((V.str z :: u1 :: u2 :: u3 :: u4 :: r').length : Nat) : Int) = V.int 3) = true := fun h => by
          have h := V.int.inj (of_decide_eq_true h)
          have h : ((r'.length + 1 + 1 + 1 + 1 + 1 : Nat) : Int) = 3 := h
          omega
        refine ⟨_, rfl, o, _, 0, _, rfl, rfl, SqT.of eo, atI_nat (j := 0) rfl, rfl, _, rfl, ite2 (fun _ => ⟨_, rfl, o, _, rfl, .inr (SqT.of eo), rfl, _, rfl, ite2 (fun e => absurd e ln4) (fun _ => ?_)⟩) (fun _ => ?_)⟩
        all_goals
          refine ⟨_, rfl, o, _, 0, _, rfl, rfl, SqT.of eo, atI_nat (j := 0) rfl, rfl, _, rfl, ite2 (fun _ => ⟨_, rfl, o, _, rfl, .inr (SqT.of eo), rfl, _, rfl, ite2 (fun e => absurd e ln3) (fun _ => ?_)⟩) (fun _ => ?_)⟩
          all_goals
            exact ⟨_, rfl, o, _, 0, _, rfl, rfl, SqT.of eo, atI_nat (j := 0) rfl, rfl, _, rfl, ite2 (fun _ => ⟨_, rfl, o, _, rfl, .inr (SqT.of eo), rfl, _, rfl, ite2 (fun e => absurd e ln3) (fun e => q _ (Same.refl _))⟩) (fun e => q _ (Same.refl _))⟩
theorem ok__law_is_page {fN fH f : Addr} {fdN fdH fd : FuncData} (F : Fun K "_law_is_page" "_law_is_page" s__law_is_page f fd) (bi : Bi mg) (C__law_is_entry : Cal P w K mg base "_law_is_entry" P__law_is_entry 3 spEntryK fN fdN) (C__law_is_count : Cal P w K mg base "_law_is_count" P__law_is_count 1 spWhole1 fH fdH) : FnOk P w K mg base CX0 4 f fd P__law_is_page spPageK := by
  refine F.ok sc__law_is_page (fun vs H Q E h => ?_) (fun cdv A outer s H vs Q E hr h => ?_)
  · obtain ⟨v, t, rfl, _⟩ := h
    rfl
  · obtain ⟨v, t, rfl, hv, q⟩ := h
    refine ⟨_, (pss_cons (ps_if (pw_or (pt_not (pt_val (pe_callB call_isi (by rfl) bi.m_isinstance (by decide +kernel) (pa_cons (pv 0) (pa_cons (pe_bltn (v := .ty "tuple") (by rfl) bi.m_tuple (by decide +kernel) rfl) pa_nil))))) (pw_or (pt_cmpR op_ne (pe_callB call_len_seq (by rfl) bi.m_len (by decide +kernel) (pa_cons (pv 0) pa_nil)) pe_int (nomark _)) (pw_or (pt_not (pt_val (pe_call (C__law_is_count.G.mono (by decide)) hr (by rfl) C__law_is_count.g C__law_is_count.kp C__law_is_count.b .nil pass0 (pa_cons (pe_ix ix_tup (pv 0) pe_int (fun _ _ => rfl)) pa_nil)))) (pw_or1 (pt_not (pt_val (pe_call (C__law_is_count.G.mono (by decide)) hr (by rfl) C__law_is_count.g C__law_is_count.kp C__law_is_count.b .nil pass0 (pa_cons (pe_ix ix_tup (pv 0) pe_int (fun _ _ => rfl)) pa_nil)))))))).pt
      (pss_one (ps_ret pe_bl))
      pss_nil)
    (pss_one (ps_ret (pe_and (pe_callB call_isi (by rfl) bi.m_isinstance (by decide +kernel) (pa_cons (pe_ix ix_tup (pv 0) pe_int (fun _ _ => rfl)) (pa_cons (pe_bltn (v := .ty "tuple") (by rfl) bi.m_tuple (by decide +kernel) rfl) pa_nil))) (pe_and (pe_cmpR op_le (pe_callB call_len_seq (by rfl) bi.m_len (by decide +kernel) (pa_cons (pe_ix ix_tup (pv 0) pe_int (fun _ _ => rfl)) pa_nil)) pe_int (nomark _)) (pe_one (pe_callB (cr_all rfl) (by rfl) bi.m_all (by decide +kernel) (pa_cons (pe_lc (own := [("_law_one", 1)]) (g := (gName 1)) (tt := tYes) rfl sc__law_is_page.nd (pi_tup (pe_ix ix_tup (pv 0) pe_int (fun _ _ => rfl))) (blkOk_by (N := N__law_is_page) (sc := defScope s__law_is_page) (by decide +kernel)) (fun _ _ _ _ _ => (pg_name (i := 1) sc__law_is_page.nd rfl (.inl rfl) (.inr rfl))) (fun _ _ _ _ _ => pts_nil) (fun _ _ _ _ _ => (pe_call (C__law_is_entry.G.mono (by decide)) hr (by rfl) C__law_is_entry.g C__law_is_entry.kp C__law_is_entry.b .nil pass0 (pa_cons (pv 1) pa_nil)))) pa_nil)))))))), ?_⟩
    obtain ⟨T1, hT1, kT1⟩ := isi_tup (K := K) hv.th
    refine ⟨_, rfl, _, _, _, _, _, rfl, ClsV.ty "tuple", hT1, kT1, _, rfl, ?_⟩
    cases t with
    | int n => exact iteNF (q _ (Same.refl _))
    | bl b => exact iteNF (q _ (Same.refl _))
    | oth => exact iteNF (q _ (Same.refl _))
    | str z => exact iteNF (q _ (Same.refl _))
    | tup ts =>
    refine iteNT ?_
    obtain ⟨o, vs, rfl, eo, hl, hh⟩ := hv.tupE
    refine ⟨_, rfl, o, vs, rfl, .inr (SqT.of eo), rfl, _, rfl, ?_⟩
    by_cases hc : ts.length = 3
    rotate_left
    · rw [page_no hc] at q
      refine ite2 (fun _ => q _ (Same.refl _)) (fun e => ?_)
      exfalso
      rw [hl] at e
      apply e
      show (!decide (V.int (ts.length : Int) = V.int 3)) = true
      rw [decide_eq_false (fun h => hc (by injection h with h; omega))]
      rfl
    match ts, vs, hc, hl, hh, eo, q with
    | [a, b, c], [u0, u1, u2], _, _, hh, eo, q =>
      refine ite2 (fun e => by simp at e) (fun _ => ?_)
      have h0 := hh 0 u0 a rfl rfl
      have h1 := hh 1 u1 b rfl rfl
      have h2 := hh 2 u2 c rfl rfl
      rw [isPageK_eq] at q
      refine ⟨_, rfl, o, _, 0, _, rfl, rfl, SqT.of eo, atI_nat (j := 0) rfl, u0, a.th, rfl, h0.th, _, rfl, ?_⟩
      cases ea : whK a with
      | false =>
        rw [ea, Bool.false_and] at q
        rw [show whT a.th 0 = false from ea]
        exact iteNF (q _ (Same.refl _))
      | true =>
      rw [ea, Bool.true_and] at q
      rw [show whT a.th 0 = true from ea]
      refine iteNT ?_
      refine ⟨_, rfl, o, _, 1, _, rfl, rfl, SqT.of eo, atI_nat (j := 1) rfl, u1, b.th, rfl, h1.th, _, rfl, ?_⟩
      cases eb : whK b with
      | false =>
        rw [eb, Bool.false_and] at q
        rw [show whT b.th 0 = false from eb]
        exact iteNF (q _ (Same.refl _))
      | true =>
      rw [eb, Bool.true_and] at q
      rw [show whT b.th 0 = true from eb]
      refine iteNT ?_
      obtain ⟨T2, hT2, kT2⟩ := isi_tup (K := K) h2.th
      refine ⟨_, rfl, o, _, 2, _, rfl, rfl, SqT.of eo, atI_nat (j := 2) rfl, _, _, _, _, _, rfl, ClsV.ty "tuple", hT2, kT2, _, rfl, ?_⟩
      cases c with
      | int n => exact iteF (q _ (Same.refl _))
      | bl b => exact iteF (q _ (Same.refl _))
      | oth => exact iteF (q _ (Same.refl _))
      | str z => exact iteF (q _ (Same.refl _))
      | tup es =>
      refine iteT ?_
      have q : ∀ H', Same H H' → Q (.bl (decide (es.length ≤ 20) && es.all isEntryK)) H' := q
      obtain ⟨e, ws, rfl, ee, hel, he⟩ := h2.tupE
      refine ⟨_, rfl, o, _, 2, _, rfl, rfl, SqT.of eo, atI_nat (j := 2) rfl, e, ws, rfl, .inr (SqT.of ee), _, _, rfl, rfl, _, rfl, ?_⟩
      by_cases c : es.length ≤ 20
      rotate_left
      · rw [decide_eq_false c] at q
        rw [decide_eq_false (show ¬ (ws.length : Int) ≤ 20 by omega)]
        exact iteF (q _ (Same.refl _))
      rw [decide_eq_true c, Bool.true_and] at q
      rw [decide_eq_true (show (ws.length : Int) ≤ 20 by omega)]
      refine iteT ?_
      refine ⟨_, rfl, o, _, 2, _, rfl, rfl, SqT.of eo, atI_nat (j := 2) rfl, e, rfl, ⟨_, SqT.of ee⟩, fun D nD => ?_⟩
      refine lc_tup (xs := ws) (fun i H' => Same H H' ∧ H' D = some (.lst (((es.take i).map isEntryK).map V.bl))) ⟨same_new (Same.refl _) nD, upd_same⟩ (fun i H' hi hm => SqT.of (hm.1 _ _ ee)) (fun i x H' hx hm => ?_) (fun H' hm => ?_)
      · obtain ⟨sm, eD⟩ := hm
        have hi : i < ws.length := (List.getElem?_eq_some_iff.mp hx).1
        have et : es[i]? = some (es[i]'(by omega)) := List.getElem?_eq_getElem (by omega)
        generalize es[i]'(by omega) = t at et
        refine ⟨rfl, yesIte ?_⟩
        refine ⟨_, rfl, x, t, rfl, (he i x t hx et).mono (Kinds.same sm), fun H2 s2 => ⟨_, s2 _ _ eD, ?_, same_mine (sm.trans s2) nD, ?_⟩⟩
        · rw [List.length_map, List.length_map, List.length_take]
          exact small1000 (by omega)
        · rw [upd_same, List.take_add_one, et]
          show _ = some (HO.lst (((es.take i ++ [t]).map isEntryK).map V.bl))
          rw [List.map_append, List.map_append]
          rfl
      obtain ⟨s1, eD⟩ := hm
      rw [hel, List.take_length] at eD
      refine ⟨D, _, rfl, SqL.of eD, ?_⟩
      have eall : (es.map isEntryK).all id = es.all isEntryK := by
        rw [List.all_map]
        rfl
      rw [eall]
      exact q _ s1
theorem bools_sh (bs : List Bool) : SeqAt.shaped (.list (bs.map PyData.bool)) = true := by
  refine Sh.shaped (.lst fun x hx => ?_) ?_
  · obtain ⟨b, _, rfl⟩ := List.mem_map.mp hx
    exact .bl b
  · have h := depth_all (n := 0) (xs := bs.map PyData.bool) fun x hx => by
      obtain ⟨b, _, rfl⟩ := List.mem_map.mp hx
      exact Nat.le_refl _
    show PyData.depthAll (bs.map PyData.bool) + 1 ≤ 64
    omega
theorem bools_dp {H : Hp} : ∀ bs : List Bool, DpAll K H (bs.map V.bl) (bs.map PyData.bool)
  | [] => .nil
  | b :: r => .cons (.bl b) (bools_dp r)
theorem ok__law_right {fP fL fE fM f : Addr} {fdP fdL fdE fdM fd : FuncData} (F : Fun K "_law_right" "_law_right" s__law_right f fd) (bi : Bi mg) (C_is_page : Cal P w K mg base "is_page" P_is_page 6 spPageK fP fdP) (C__law_is_page : Cal P w K mg base "_law_is_page" P__law_is_page 4 spPageK fL fdL) (C_is_entry : Cal P w K mg base "is_entry" P_is_entry 5 spEntryK fE fdE) (C__law_is_entry : Cal P w K mg base "_law_is_entry" P__law_is_entry 3 spEntryK fM fdM) : FnOk P w K mg base CX0 7 f fd P__law_right spRight54 := by
  refine F.ok sc__law_right (fun vs H Q E h => ?_) (fun cdv A outer s H vs Q E hr h => ?_)
  · obtain ⟨v, t, rfl, _⟩ := h
    rfl
  · obtain ⟨v, t, rfl, hv, q⟩ := h
    have hu64 := hr.units
    refine ⟨_, (pss_cons (ps_set (i := 1) sc__law_right.nd rfl (.inl rfl) (pe_call (C_is_page.G.mono (by decide)) hr (by rfl) C_is_page.g C_is_page.kp C_is_page.b .nil pass0 (pa_cons (pv 0) pa_nil)))
    (pss_cons (ps_if (pw_or (pt_not (pt_val (pe_callB call_isi (by rfl) bi.m_isinstance (by decide +kernel) (pa_cons (pv 1) (pa_cons (pe_bltn (v := .ty "bool") (by rfl) bi.m_bool (by decide +kernel) rfl) pa_nil))))) (pw_or1 (pt_cmpR op_ne (pv 1) (pe_call (C__law_is_page.G.mono (by decide)) hr (by rfl) C__law_is_page.g C__law_is_page.kp C__law_is_page.b .nil pass0 (pa_cons (pv 0) pa_nil)) (nomark _)))).pt
      (pss_one (ps_ret pe_bl))
      pss_nil)
    (pss_cons (ps_set (i := 2) sc__law_right.nd rfl (.inl rfl) (pe_lst (pa_cons (pv 0) pa_nil)))
    (C8.pss_cut (ps_if (pw_and (pt_val (pe_callB call_isi (by rfl) bi.m_isinstance (by decide +kernel) (pa_cons (pv 0) (pa_cons (pe_bltn (v := .ty "tuple") (by rfl) bi.m_tuple (by decide +kernel) rfl) pa_nil)))) (pw_and (pt_cmpR op_gt (pe_callB call_len_seq (by rfl) bi.m_len (by decide +kernel) (pa_cons (pv 0) pa_nil)) pe_int (nomark _)) (pw_and1 (pt_val (pe_callB call_isi (by rfl) bi.m_isinstance (by decide +kernel) (pa_cons (pe_ix ix_tup (pv 0) pe_int (fun _ _ => rfl)) (pa_cons (pe_bltn (v := .ty "tuple") (by rfl) bi.m_tuple (by decide +kernel) rfl) pa_nil))))))).pt
      (pss_one (ps_set (i := 2) sc__law_right.nd rfl (.inl rfl) (pe_op op_cat (pv 2) (pe_callTy call_list_of (by rfl) bi.m_list (by decide +kernel) (pa_cons (pe_ix ix_tup (pv 0) pe_int (fun _ _ => rfl)) pa_nil)))))
      pss_nil)
    (pss_cons (ps_setLc (i := 3) (own := [("_law_one", 4)]) (g := (gName 4)) (tt := tYes) rfl sc__law_right.nd rfl rfl (sw_true rfl rfl rfl (by decide +kernel)) (pi_list (pv 2)) (blkOk_by (N := N__law_right) (sc := defScope s__law_right) (by decide +kernel)) (fun _ _ _ _ _ => (pg_name (i := 4) sc__law_right.nd rfl (.inl rfl) (.inr rfl))) (fun _ _ _ _ _ => pts_nil) (fun _ _ _ _ _ => (pe_call (C_is_entry.G.mono (by decide)) hr (by rfl) C_is_entry.g C_is_entry.kp C_is_entry.b .nil pass0 (pa_cons (pv 4) pa_nil))))
    (pss_one (ps_ret (pe_and (pe_callB (cr_all rfl) (by rfl) bi.m_all (by decide +kernel) (pa_cons (pe_lc (own := [("_law_one", 4)]) (g := (gName 4)) (tt := tYes) (te := (tCB (rIsi K) (tCons (tVar 4) (tCons (tC (.ty "bool")) tNil)))) rfl sc__law_right.nd (pi_list (pv 3)) (blkOk_by (N := N__law_right) (sc := defScope s__law_right) (by decide +kernel)) (fun _ _ _ _ _ => (pg_name (i := 4) sc__law_right.nd rfl (.inl rfl) (.inr rfl))) (fun _ _ _ _ _ => pts_nil) (fun _ _ _ _ _ => (pe_callB call_isi (by rfl) bi.m_isinstance (by decide +kernel) (pa_cons (pv 4) (pa_cons (pe_bltn (v := .ty "bool") (by rfl) bi.m_bool (by decide +kernel) rfl) pa_nil))))) pa_nil)) (pe_one (pe_cmpR (op_eqD hu64) (pv 3) (pe_lc (own := [("_law_one", 4)]) (g := (gName 4)) (tt := tYes) rfl sc__law_right.nd (pi_list (pv 2)) (blkOk_by (N := N__law_right) (sc := defScope s__law_right) (by decide +kernel)) (fun _ _ _ _ _ => (pg_name (i := 4) sc__law_right.nd rfl (.inl rfl) (.inr rfl))) (fun _ _ _ _ _ => pts_nil) (fun _ _ _ _ _ => (pe_call (C__law_is_entry.G.mono (by decide)) hr (by rfl) C__law_is_entry.g C__law_is_entry.kp C__law_is_entry.b .nil pass0 (pa_cons (pv 4) pa_nil)))) (nomark _))))))))))), ?_⟩
    refine ⟨_, rfl, v, t, rfl, hv, fun H1 s1 => ?_⟩
    have kb := kit_ty (K := K) (show kitB "bool" "bool" = some true by decide +kernel)
    refine ⟨_, rfl, _, _, _, _, _, rfl, ClsV.ty "bool", .base (.bl _), kb, _, rfl, iteNT ?_⟩
    refine ⟨_, rfl, _, rfl, v, t, rfl, hv.mono (Kinds.same s1), fun H2 s2 => ?_⟩
    refine ⟨rfl, _, rfl, ?_⟩
    rw [show (!decide (V.bl (isPageK t) = V.bl (isPageK t))) = false by rw [decide_eq_true rfl]; rfl]
    refine iteF ?_
    have s2' := s1.trans s2
    refine ⟨_, rfl, (by show 1 ≤ sizeLine; decide), fun L nL => ?_⟩
    have sL : Same H (upd H2 L (.lst [v])) := same_new s2' nL
    have eL : upd H2 L (.lst [v]) L = some (.lst [v]) := upd_same
    generalize upd H2 L (.lst [v]) = H3 at sL eL
    refine ⟨fun σ' H' => ∃ (S : Addr) (ws : List V) (ts : List Tk) (x3 x4 : Option V), σ' = [some v, some (.bl (isPageK t)), some (.ref S), x3, x4] ∧ Same H H' ∧ H' S = some (.lst ws) ∧ ws.length = ts.length ∧ ws.length ≤ 301 ∧ ∀ (i : Nat) (v : V) (t : Tk), ws[i]? = some v → ts[i]? = some t → TkAt topB H v t, ?_, fun σ' H' hm => ?_⟩
    · have one : ∃ (S : Addr) (ws : List V) (ts : List Tk) (x3 x4 : Option V), [some v, some (.bl (isPageK t)), some (.ref L), none, none] = [some v, some (.bl (isPageK t)), some (.ref S), x3, x4] ∧ Same H H3 ∧ H3 S = some (.lst ws) ∧ ws.length = ts.length ∧ ws.length ≤ 301 ∧ ∀ (i : Nat) (v : V) (t : Tk), ws[i]? = some v → ts[i]? = some t → TkAt topB H v t := ⟨L, [v], [t], _, _, rfl, sL, eL, rfl, by show 1 ≤ 301; decide, fun i u s e1 e2 => by
        match i, e1, e2 with
        | 0, e1, e2 =>
          obtain rfl := Option.some.inj e1
          obtain rfl := Option.some.inj e2
          exact hv⟩
      obtain ⟨T1, hT1, kT1⟩ := isi_tup (K := K) (hv.mono (Kinds.same sL)).th
      refine ⟨_, rfl, _, _, _, _, _, rfl, ClsV.ty "tuple", hT1, kT1, _, rfl, ?_⟩
      cases t with
      | int n => exact iteF one
      | bl b => exact iteF one
      | oth => exact iteF one
      | str z => exact iteF one
      | tup ts =>
      refine iteT ?_
      obtain ⟨o, vs, rfl, eo, hl, hh⟩ := hv.tupE
      have eo3 := sL _ _ eo
      refine ⟨_, rfl, o, vs, rfl, .inr (SqT.of eo3), _, _, rfl, rfl, _, rfl, ite2 (fun e => ?_) (fun _ => one)⟩
      have e : (2 : Int) < (vs.length : Int) := of_decide_eq_true e
      have e2v : vs[2]? = some (vs[2]'(by omega)) := List.getElem?_eq_getElem (by omega)
      have e2t : ts[2]? = some (ts[2]'(by omega)) := List.getElem?_eq_getElem (by omega)
      generalize vs[2]'(by omega) = u at e2v
      generalize ts[2]'(by omega) = c at e2t
      have hc := hh 2 u c e2v e2t
      obtain ⟨T2, hT2, kT2⟩ := isi_tup (K := K) (hc.mono (Kinds.same sL)).th
      refine ⟨_, rfl, o, _, 2, _, rfl, rfl, SqT.of eo3, atI_nat (j := 2) e2v, _, _, _, _, _, rfl, ClsV.ty "tuple", hT2, kT2, _, rfl, ?_⟩
      cases c with
      | int n => exact iteF one
      | bl b => exact iteF one
      | oth => exact iteF one
      | str z => exact iteF one
      | tup es =>
      refine iteT ?_
      obtain ⟨a, ws, rfl, ea, hel, he⟩ := hc.tupE
      have hb := hc.tupB
      refine ⟨_, rfl, _, rfl, o, _, 2, _, rfl, rfl, SqT.of eo3, atI_nat (j := 2) e2v, a, ws, rfl, .inr (SqT.of (sL _ _ ea)), fun l nl => ?_⟩
      have sl : Same H (upd H3 l (.lst ws)) := same_new sL nl
      have el : upd H3 l (.lst ws) l = some (.lst ws) := upd_same
      have eL4 : upd H3 l (.lst ws) L = some (.lst [.ref o]) := (upd_ne (ne_of_none eL nl)).trans eL
      generalize upd H3 l (.lst ws) = H4 at sl el eL4
      refine ⟨L, l, _, _, rfl, rfl, eL4, el, Nat.le_of_lt (small1000 (by show 1 + ws.length ≤ 1000; omega)), fun S nS => ?_⟩
      refine ⟨S, .ref o :: ws, .tup ts :: es, _, _, rfl, same_new sl nS, upd_same, congrArg (· + 1) hel, by show ws.length + 1 ≤ 301; omega, fun i u s e1 e2 => ?_⟩
      match i, e1, e2 with
      | 0, e1, e2 =>
        obtain rfl := Option.some.inj e1
        obtain rfl := Option.some.inj e2
        exact hv
      | i + 1, e1, e2 => exact he i u s e1 e2
    · obtain ⟨S, ws, ts, x3, x4, rfl, sm, eS, hwl, hw1, hh⟩ := hm
      refine ⟨_, rfl, S, rfl, ⟨_, SqL.of eS⟩, fun D nD => ?_⟩
      refine lc_list (xs := ws) (fun i H5 => Same H' H5 ∧ H5 D = some (.lst (((ts.take i).map isEntryK).map V.bl))) ⟨same_new (Same.refl _) nD, upd_same⟩ (fun i H5 hi hm => SqL.of (hm.1 _ _ eS)) (fun i x H5 hx hm => ?_) (fun H5 hm => ?_)
      · obtain ⟨s5, eD⟩ := hm
        have hi : i < ws.length := (List.getElem?_eq_some_iff.mp hx).1
        have et : ts[i]? = some (ts[i]'(by omega)) := List.getElem?_eq_getElem (by omega)
        generalize ts[i]'(by omega) = t1 at et
        refine ⟨rfl, yesIte ?_⟩
        refine ⟨_, rfl, x, t1, rfl, ((hh i x t1 hx et).mono (Kinds.same sm)).mono (Kinds.same s5), fun H6 s6 => ⟨_, s6 _ _ eD, ?_, same_mine (s5.trans s6) nD, ?_⟩⟩
        · rw [List.length_map, List.length_map, List.length_take]
          exact small1000 (by omega)
        · rw [upd_same, List.take_add_one, et]
          show _ = some (HO.lst (((ts.take i ++ [t1]).map isEntryK).map V.bl))
          rw [List.map_append, List.map_append]
          rfl
      obtain ⟨s5, eD⟩ := hm
      rw [hwl, List.take_length] at eD
      refine ⟨_, rfl, D, rfl, ⟨_, SqL.of eD⟩, fun G nG => ?_⟩
      refine lc_list (xs := (ts.map isEntryK).map V.bl) (fun i H6 => Same H5 H6 ∧ H6 G = some (.lst ((List.replicate i true).map V.bl))) ⟨same_new (Same.refl _) nG, upd_same⟩ (fun i H6 hi hm => SqL.of (hm.1 _ _ eD)) (fun i x H6 hx hm => ?_) (fun H6 hm => ?_)
      · obtain ⟨s6, eG⟩ := hm
        have hi := (List.getElem?_eq_some_iff.mp hx).1
        rw [List.length_map, List.length_map] at hi
        rw [List.getElem?_map] at hx
        obtain ⟨b, _, rfl⟩ := Option.map_eq_some_iff.mp hx
        refine ⟨rfl, yesIte ?_⟩
        refine ⟨_, rfl, _, _, _, _, true, rfl, ClsV.ty "bool", .base (.bl _), kb, _, eG, ?_, same_mine s6 nG, ?_⟩
        · rw [List.length_map, List.length_replicate]
          exact small1000 (by omega)
        · rw [upd_same, List.replicate_succ', List.map_append]
          rfl
      obtain ⟨s6, eG⟩ := hm
      refine ⟨G, _, rfl, SqL.of eG, ?_⟩
      rw [show (List.replicate ((ts.map isEntryK).map V.bl).length true).all id = true by simp]
      refine ⟨_, rfl, iteT ?_⟩
      have s56 := s5.trans s6
      refine ⟨_, rfl, _, rfl, S, rfl, ⟨_, SqL.of (s56 _ _ eS)⟩, fun J nJ => ?_⟩
      refine lc_list (xs := ws) (fun i H7 => Same H6 H7 ∧ H7 J = some (.lst (((ts.take i).map isEntryK).map V.bl))) ⟨same_new (Same.refl _) nJ, upd_same⟩ (fun i H7 hi hm => SqL.of (hm.1 _ _ (s56 _ _ eS))) (fun i x H7 hx hm => ?_) (fun H7 hm => ?_)
      · obtain ⟨s7, eJ⟩ := hm
        have hi : i < ws.length := (List.getElem?_eq_some_iff.mp hx).1
        have et : ts[i]? = some (ts[i]'(by omega)) := List.getElem?_eq_getElem (by omega)
        generalize ts[i]'(by omega) = t1 at et
        refine ⟨rfl, yesIte ?_⟩
        refine ⟨_, rfl, x, t1, rfl, ((hh i x t1 hx et).mono (Kinds.same (sm.trans s56))).mono (Kinds.same s7), fun H8 s8 => ⟨_, s8 _ _ eJ, ?_, same_mine (s7.trans s8) nJ, ?_⟩⟩
        · rw [List.length_map, List.length_map, List.length_take]
          exact small1000 (by omega)
        · rw [upd_same, List.take_add_one, et]
          show _ = some (HO.lst (((ts.take i ++ [t1]).map isEntryK).map V.bl))
          rw [List.map_append, List.map_append]
          rfl
      obtain ⟨s7, eJ⟩ := hm
      rw [hwl, List.take_length] at eJ
      refine ⟨_, _, .lst (SqL.of ((s6.trans s7) _ _ eD)) (bools_dp _), .lst (SqL.of eJ) (bools_dp _), bools_sh _, bools_sh _, ?_⟩
      rw [SeqAt.eqv_refl _ (Bool.and_eq_true_iff.mp (bools_sh _)).1]
      exact q _ (sm.trans (s56.trans s7))
theorem ok__law_pot {f : Addr} {fd : FuncData} {k : Nat} (F : Fun K "_law_pot" "_law_pot" s__law_pot f fd) (bi : Bi mg) : FnOk P w K mg base CX0 (k + 1) f fd P__law_pot (spBeginC K) := by
  refine F.ok sc__law_pot (fun vs H Q E h => ?_) (fun cdv A outer s H vs Q E hr h => ?_)
  · obtain ⟨a, ns, i, rfl, _⟩ := h
    rfl
  · obtain ⟨a, ns, i, rfl, hS, hn, i0, i1, q⟩ := h
    refine ⟨_, (C8.pss_cut (ps_set (i := 2) sc__law_pot.nd rfl (.inl rfl) (pe_ifExp (pt_cmpR op_gt (pe_callB call_len_seq (by rfl) bi.m_len (by decide +kernel) (pa_cons (pv 0) pa_nil)) pe_int (nomark _)) (pe_ix ix_list (pv 0) (pe_op op_mod (pv 1) (pe_callB call_len_seq (by rfl) bi.m_len (by decide +kernel) (pa_cons (pv 0) pa_nil))) (fun _ _ => rfl)) pe_int))
    (pss_cons (ps_set (i := 3) sc__law_pot.nd rfl (.inl rfl) (pe_op op_mulW (pe_op op_mulW (pe_op op_mulW (pe_op op_mulW (pe_op op_mulW (pe_op op_pow pe_int pe_int) (pe_op op_pow pe_int pe_int)) (pe_op op_pow pe_int pe_int)) (pe_op op_pow pe_int pe_int)) (pe_op op_pow pe_int pe_int)) (pe_op op_pow pe_int pe_int)))
    (pss_cons (ps_set (i := 4) sc__law_pot.nd rfl (.inl rfl) (pe_op op_mod (pe_op op_mul (pe_op op_add (pe_op op_add (pe_op op_mod (pv 2) (pe_op op_pow pe_int pe_int)) (pe_op op_mul (pe_op op_mul pe_int (pv 1)) (pv 1))) pe_int) pe_int) pe_int))
    (pss_one (ps_ret (pe_lst (pa_cons (pe_op op_mul (pe_op op_mod (pv 2) (pv 3)) (pe_callTy call_int1 (by rfl) bi.m_int (by decide +kernel) (pa_cons (pe_cmpR op_ge (pv 2) (pe_op op_pow pe_int pe_int) (nomark _)) pa_nil))) (pa_cons (pv 4) (pa_cons pe_int pa_nil))))))))), ?_⟩
    refine ⟨fun σ' H' => ∃ c : Int, σ' = [some (.ref a), some (.int i), some (.int c), none, none] ∧ H' = H, ?_, fun σ' H' hm => ?_⟩
    · refine ⟨_, rfl, a, _, rfl, .inl hS, _, _, rfl, rfl, _, rfl, ite2 (fun e => ?_) (fun e => ?_)⟩
      · have e' : ((ns.map V.int).length : Int) > 0 := of_decide_eq_true e
        rw [List.length_map] at e'
        have h1 : 0 ≤ i % (ns.length : Int) := Int.emod_nonneg _ (by omega)
        have h2 : i % (ns.length : Int) < ns.length := Int.emod_lt_of_pos _ e'
        obtain ⟨j, hj⟩ : ∃ j : Nat, i % (ns.length : Int) = j := ⟨(i % (ns.length : Int)).toNat, by omega⟩
        have hjl : j < ns.length := by omega
        refine ⟨_, rfl, _, rfl, _, rfl, a, _, rfl, .inl hS, _, _, rfl, rfl, (by rw [List.length_map]; exact e'), a, _, _, .int ns[j], rfl, rfl, hS, ?_, _, rfl, rfl⟩
        rw [List.length_map, hj]
        refine atI_nat ?_
        rw [List.getElem?_map, List.getElem?_eq_getElem hjl]
        rfl
      · exact ⟨_, rfl, rfl⟩
    · obtain ⟨c, rfl, rfl⟩ := hm
      refine ⟨_, _, rfl, rfl, ⟨by decide, by decide, by decide⟩, _, _, rfl, rfl, ⟨by decide, by decide, by decide⟩, _, _, rfl, rfl, (by unfold CMulW; decide +kernel), _, _, rfl, rfl, ⟨by decide, by decide, by decide⟩, _, _, rfl, rfl, (by unfold CMulW; decide +kernel), _, _, rfl, rfl, ⟨by decide, by decide, by decide⟩, _, _, rfl, rfl, (by unfold CMulW; decide +kernel), _, _, rfl, rfl, ⟨by decide, by decide, by decide⟩, _, _, rfl, rfl, (by unfold CMulW; decide +kernel), _, _, rfl, rfl, ⟨by decide, by decide, by decide⟩, _, _, rfl, rfl, (by unfold CMulW; decide +kernel), ?_⟩
      refine ⟨_, rfl, _, _, rfl, rfl, ⟨by decide, by decide, by decide⟩, _, _, rfl, rfl, (by show (0 : Int) < 10 ^ (30 : Int).toNat; decide), _, rfl, _, _, rfl, rfl, .inl ⟨by decide, by decide⟩, _, rfl, _, _, rfl, rfl, .inr ⟨by omega, by omega⟩, _, _, rfl, rfl, _, _, rfl, rfl, _, _, rfl, rfl, .inr ⟨by decide, by decide⟩, _, _, rfl, rfl, (by show (0 : Int) < 2305843009213693951; decide), ?_⟩
      refine ⟨_, rfl, _, rfl, _, _, rfl, rfl, (by show (0 : Int) < 10 ^ (60 : Int).toNat * 10 ^ (60 : Int).toNat * 10 ^ (60 : Int).toNat * 10 ^ (60 : Int).toNat * 10 ^ (60 : Int).toNat * 10 ^ (60 : Int).toNat; decide +kernel), _, rfl, _, _, rfl, rfl, ⟨by decide, by decide, by decide⟩, _, _, rfl, rfl, .inr ⟨_, rfl, ?_⟩⟩
      generalize hb : (10 : Int) ^ (60 : Int).toNat * 10 ^ (60 : Int).toNat * 10 ^ (60 : Int).toNat * 10 ^ (60 : Int).toNat * 10 ^ (60 : Int).toNat * 10 ^ (60 : Int).toNat = B
      have B0 : 0 < B := by
        rw [← hb]
        decide +kernel
      have c0 := Int.emod_nonneg c (Int.ne_of_gt B0)
      generalize hd : (if decide (10 ^ Int.toNat 18 ≤ c) = true then (1 : Int) else 0) = d
      have d0 : 0 ≤ d ∧ d ≤ 1 := by
        rw [← hd]
        split <;> decide
      refine ⟨_, _, rfl, rfl, .inr ⟨by omega, by omega⟩, _, rfl, (by show 3 ≤ sizeLine; decide), fun p np => ?_⟩
      refine q _ p (same_new (Same.refl _) np) np ⟨_, _, 0, upd_same, Int.mul_nonneg c0 d0.1, Int.emod_nonneg _ (by decide), Int.lt_trans (Int.emod_lt_of_pos _ (by decide)) (by decide), Nat.le_refl _⟩
theorem ok__law_pick {f : Addr} {fd : FuncData} {k : Nat} (F : Fun K "_law_pick" "_law_pick" s__law_pick f fd) (bi : Bi mg) : FnOk P w K mg base CX0 (k + 1) f fd P__law_pick spTakeC := by
  refine F.ok sc__law_pick (fun vs H Q E h => ?_) (fun cdv A outer s H vs Q E hr h => ?_)
  · obtain ⟨p, T, many, rfl, _⟩ := h
    rfl
  · obtain ⟨p, T, many, rfl, hp, hT, m0, q⟩ := h
    refine ⟨_, (pss_cons (ps_if (pt_cmpR op_gt (pe_ix ix_list (pv 0) pe_int (fun _ _ => rfl)) pe_int (nomark _))
      (pss_cons (ps_set (i := 2) sc__law_pick.nd rfl (.inl rfl) (pe_op op_mod (pe_ix ix_list (pv 0) pe_int (fun _ _ => rfl)) (pv 1)))
        (pss_cons (ps_asg (pe_op op_fdivW (pe_ix ix_list (pv 0) pe_int (fun _ _ => rfl)) (pv 1)) (pg_sub (pv 0) pe_int set_list))
        (pss_one (ps_ret (pv 2)))))
      pss_nil)
    (pss_cons (ps_asg (pe_op op_add (pe_ix ix_list (pv 0) pe_int (fun _ _ => rfl)) pe_int) (pg_sub (pv 0) pe_int set_list))
    (pss_cons (ps_set (i := 3) sc__law_pick.nd rfl (.inl rfl) (pe_op op_add (pe_op op_mul pe_int (pe_ix ix_list (pv 0) pe_int (fun _ _ => rfl))) pe_int))
    (pss_cons (ps_asg (pe_op op_mod (pe_op op_add (pe_op op_mul (pe_ix ix_list (pv 0) pe_int (fun _ _ => rfl)) pe_int) (pv 3)) pe_int) (pg_sub (pv 0) pe_int set_list))
    (pss_cons (ps_set (i := 4) sc__law_pick.nd rfl (.inl rfl) (pe_op op_mod (pe_op op_mul (pe_ix ix_list (pv 0) pe_int (fun _ _ => rfl)) (pe_op op_add (pe_op op_mod (pe_ix ix_list (pv 0) pe_int (fun _ _ => rfl)) pe_int) (pe_op op_mul pe_int (pe_ix ix_list (pv 0) pe_int (fun _ _ => rfl))))) pe_int))
    (pss_one (ps_ret (pe_op op_mod (pe_op op_fdiv (pv 4) pe_int) (pv 1))))))))), ?_⟩
    obtain ⟨c, m, t, ep, c0, s0, s1, tT⟩ := hp
    refine ⟨_, rfl, p, _, 0, _, rfl, rfl, SqL.of ep, atI_nat (j := 0) rfl, _, _, rfl, rfl, _, rfl, ite2 (fun e => ?_) (fun e => ?_)⟩
    · refine ⟨_, rfl, p, _, 0, _, rfl, rfl, SqL.of ep, atI_nat (j := 0) rfl, _, rfl, _, _, rfl, rfl, m0.1, ?_⟩
      refine ⟨_, rfl, p, _, 0, _, rfl, rfl, SqL.of ep, atI_nat (j := 0) rfl, _, rfl, _, _, rfl, rfl, m0, _, rfl, p, _, 0, 0, rfl, rfl, ep, rfl, ?_⟩
      exact ⟨_, rfl, q _ _ (Int.emod_nonneg _ (Int.ne_of_gt m0.1)) (Int.emod_lt_of_pos _ m0.1) ⟨_, m, t, upd_same, Int.ediv_nonneg c0 (Int.le_of_lt m0.1), s0, s1, by omega⟩ Keep.refl.own⟩
    · -- pot[2] + 1
      refine ⟨_, rfl, p, _, 2, _, rfl, rfl, SqL.of ep, atI_nat (j := 2) rfl, _, _, rfl, rfl, _, rfl, p, _, 2, 2, rfl, rfl, ep, rfl, ?_⟩
      have ep1 : upd H p (.lst [.int c, .int m, .int ((t : Int) + 1)]) p = some (.lst [.int c, .int m, .int ((t : Int) + 1)]) := upd_same
      have k1 : Keep p p H (upd H p (.lst [.int c, .int m, .int ((t : Int) + 1)])) := Keep.refl.own
      show tSeq _ _ _ _ (upd H p (.lst [.int c, .int m, .int ((t : Int) + 1)]))
      generalize upd H p (.lst [.int c, .int m, .int ((t : Int) + 1)]) = H1 at ep1 k1
      -- step
      refine ⟨_, rfl, p, _, 2, _, rfl, rfl, SqL.of ep1, atI_nat (j := 2) rfl, _, _, rfl, rfl, .inl ⟨by decide, by decide⟩, _, _, rfl, rfl, ?_⟩
      -- the seed
      refine ⟨_, rfl, p, _, 1, _, rfl, rfl, SqL.of ep1, atI_nat (j := 1) rfl, _, _, rfl, rfl, .inr ⟨by decide, by decide⟩, _, rfl, _, _, rfl, rfl, _, _, rfl, rfl, (by show (0 : Int) < 2305843009213693951; decide), _, rfl, p, _, 1, 1, rfl, rfl, ep1, rfl, ?_⟩
      show tSeq _ _ _ _ (upd H1 p (.lst [.int c, .int ((m * 6364136223846793005 + (1442695040888963407 * ((t : Int) + 1) + 11)) % 2305843009213693951), .int ((t : Int) + 1)]))
      generalize hM : (m * 6364136223846793005 + (1442695040888963407 * ((t : Int) + 1) + 11)) % 2305843009213693951 = M
      have M0 : 0 ≤ M := by rw [← hM]; exact Int.emod_nonneg _ (by decide)
      have M1 : M < 2305843009213693951 := by rw [← hM]; exact Int.emod_lt_of_pos _ (by decide)
      have ep2 : upd H1 p (.lst [.int c, .int M, .int ((t : Int) + 1)]) p = some (.lst [.int c, .int M, .int ((t : Int) + 1)]) := upd_same
      have k2 : Keep p p H (upd H1 p (.lst [.int c, .int M, .int ((t : Int) + 1)])) := k1.own
      generalize upd H1 p (.lst [.int c, .int M, .int ((t : Int) + 1)]) = H2 at ep2 k2
      -- mixed
      refine ⟨_, rfl, p, _, 1, _, rfl, rfl, SqL.of ep2, atI_nat (j := 1) rfl, _, rfl, p, _, 1, _, rfl, rfl, SqL.of ep2, atI_nat (j := 1) rfl, _, _, rfl, rfl, (by show (0 : Int) < 1000003; decide), _, rfl, p, _, 2, _, rfl, rfl, SqL.of ep2, atI_nat (j := 2) rfl, _, _, rfl, rfl, .inl ⟨by decide, by decide⟩, _, _, rfl, rfl, _, _, rfl, rfl, .inl ⟨by omega, by omega⟩, _, _, rfl, rfl, (by show (0 : Int) < 2305843009213693921; decide), ?_⟩
      refine ⟨_, rfl, _, _, rfl, rfl, ⟨by decide, by decide⟩, _, rfl, _, _, rfl, rfl, m0.1, ?_⟩
      exact q _ _ (Int.emod_nonneg _ (Int.ne_of_gt m0.1)) (Int.emod_lt_of_pos _ m0.1) ⟨c, M, t + 1, ep2, c0, M0, by omega, by omega⟩ k2
theorem ok__law_great {f fB : Addr} {fd fdB : FuncData} (F : Fun K "_law_great" "_law_great" s__law_great f fd) (bi : Bi mg) (C__law_pick : Cal P w K mg base "_law_pick" P__law_pick 1 spTakeC fB fdB) : FnOk P w K mg base CX0 2 f fd P__law_great spGreatC := by
  refine F.ok sc__law_great (fun vs H Q E h => ?_) (fun cdv A outer s H vs Q E hr h => ?_)
  · obtain ⟨p, T, rfl, _⟩ := h
    rfl
  · obtain ⟨p, T, rfl, hp, hT, q⟩ := h
    refine ⟨_, (pss_one (ps_ret (pe_op op_add (pe_op op_add (pe_op op_mul (pe_call (C__law_pick.G.mono (by decide)) hr (by rfl) C__law_pick.g C__law_pick.kp C__law_pick.b .nil pass0 (pa_cons (pv 0) (pa_cons (pe_op op_pow pe_int pe_int) pa_nil))) (pe_op op_pow pe_int pe_int)) (pe_op op_mul (pe_call (C__law_pick.G.mono (by decide)) hr (by rfl) C__law_pick.g C__law_pick.kp C__law_pick.b .nil pass0 (pa_cons (pv 0) (pa_cons (pe_op op_pow pe_int pe_int) pa_nil))) (pe_op op_pow pe_int pe_int))) (pe_call (C__law_pick.G.mono (by decide)) hr (by rfl) C__law_pick.g C__law_pick.kp C__law_pick.b .nil pass0 (pa_cons (pv 0) (pa_cons (pe_op op_pow pe_int pe_int) pa_nil)))))), ?_⟩
    have e7 : ∀ d : Int, d < 10 ^ (7 : Int).toNat → d < 10000000 := fun d h => h
    refine ⟨_, rfl, _, _, rfl, rfl, ⟨by decide, by decide, by decide⟩, p, T, _, rfl, hp, by omega, ⟨by decide, by decide⟩, fun a H1 a0 a1 hp1 k1 => ?_⟩
    have a1 := e7 a a1
    refine ⟨_, _, rfl, rfl, ⟨by decide, by decide, by decide⟩, _, _, rfl, rfl, .inl ⟨by omega, by omega⟩, ?_⟩
    refine ⟨_, rfl, _, _, rfl, rfl, ⟨by decide, by decide, by decide⟩, p, T + 1, _, rfl, hp1, by omega, ⟨by decide, by decide⟩, fun b H2 b0 b1 hp2 k2 => ?_⟩
    have b1 := e7 b b1
    refine ⟨_, _, rfl, rfl, ⟨by decide, by decide, by decide⟩, _, _, rfl, rfl, .inl ⟨by omega, by omega⟩, _, _, rfl, rfl, ?_⟩
    refine ⟨_, rfl, _, _, rfl, rfl, ⟨by decide, by decide, by decide⟩, p, T + 2, _, rfl, hp2, by omega, ⟨by decide, by decide⟩, fun c H3 c0 c1 hp3 k3 => ?_⟩
    have c1 := e7 c c1
    refine ⟨_, _, rfl, rfl, q _ _ ?_ ?_ hp3 ((k1.trans k2).trans k3)⟩
    · show 0 ≤ a * 10 ^ 32 + b * 10 ^ 16 + c
      omega
    · show a * 10 ^ 32 + b * 10 ^ 16 + c < 2 ^ 135
      omega
def oneC (c : Nat) : Str := ⟨#[c]⟩
theorem one_join : ∀ cs : List Nat, cpl (Txt.join (Str.ofString "") (cs.map oneC)) = cs ∧ ((cs.map oneC).map (·.length)).sum + (cs.map oneC).length * 0 = cs.length
  | [] => ⟨rfl, rfl⟩
  | [c] => ⟨by
      rw [join_eq]
      show cpl (Str.join _ [oneC c]) = _
      rw [join_one]
      rfl, rfl⟩
  | c :: d :: r => by
    obtain ⟨h1, h2⟩ := one_join (d :: r)
    rw [join_eq] at h1 ⊢
    refine ⟨?_, ?_⟩
    · show cpl (Str.join _ (oneC c :: oneC d :: r.map oneC)) = _
      rw [join_cons_cons, cpl_app, cpl_app]
      have h1 : cpl (Str.join (Str.ofString "") (oneC d :: r.map oneC)) = d :: r := h1
      rw [h1]
      rfl
    · show 1 + (((d :: r).map oneC).map (·.length)).sum + _ * 0 = (d :: r).length + 1
      omega
theorem ok__law_sign {fB f : Addr} {fdB fd : FuncData} (F : Fun K "_law_sign" "_law_sign" s__law_sign f fd) (bi : Bi mg) (C__law_pick : Cal P w K mg base "_law_pick" P__law_pick 1 spTakeC fB fdB) : FnOk P w K mg base CX0 2 f fd P__law_sign spSign54 := by
  refine F.ok sc__law_sign (fun vs H Q E h => ?_) (fun cdv A outer s H vs Q E hr h => ?_)
  · obtain ⟨p, T, rfl, _⟩ := h
    rfl
  · obtain ⟨p, T, rfl, hp, hT, q⟩ := h
    refine ⟨_, (pss_cons (ps_set (i := 1) sc__law_sign.nd rfl (.inl rfl) (pe_op op_add_str (pe_op op_add_str pe_str pe_str) pe_str))
    (pss_one (ps_ret (pe_ix ix_str (pe_op op_add_str (pv 1) pe_str) (pe_call (C__law_pick.G.mono (by decide)) hr (by rfl) C__law_pick.g C__law_pick.kp C__law_pick.b .nil pass0 (pa_cons (pv 0) (pa_cons pe_int pa_nil))) (fun _ _ => rfl))))), ?_⟩
    refine ⟨_, _, rfl, rfl, (by decide +kernel), _, _, rfl, rfl, (by decide +kernel), ?_⟩
    refine ⟨_, rfl, _, _, rfl, rfl, (by decide +kernel), ?_⟩
    refine ⟨_, rfl, p, _, _, rfl, hp, by omega, ⟨by decide, by decide⟩, fun d H1 d0 d1 hp1 k1 => ?_⟩
    obtain ⟨j, rfl⟩ : ∃ j : Nat, d = j := ⟨d.toNat, by omega⟩
    exact ⟨_, _, _, rfl, rfl, (by decide +kernel), atI_nat (List.getElem?_eq_getElem (Nat.lt_of_lt_of_le (show j < 95 by omega) (by decide +kernel))), q _ _ hp1 k1⟩
theorem ok__law_number {f fB fG : Addr} {fd fdB fdG : FuncData} (F : Fun K "_law_number" "_law_number" s__law_number f fd) (bi : Bi mg) (C__law_pick : Cal P w K mg base "_law_pick" P__law_pick 1 spTakeC fB fdB) (C__law_great : Cal P w K mg base "_law_great" P__law_great 2 spGreatC fG fdG) : FnOk P w K mg base CX0 3 f fd P__law_number spNumC := by
  refine F.ok sc__law_number (fun vs H Q E h => ?_) (fun cdv A outer s H vs Q E hr h => ?_)
  · obtain ⟨p, T, rfl, _⟩ := h
    rfl
  · obtain ⟨p, T, rfl, hp, hT, q⟩ := h
    refine ⟨_, (pss_one (ps_ret (pe_ix ix_list (pe_lst (pa_cons (pe_call (C__law_pick.G.mono (by decide)) hr (by rfl) C__law_pick.g C__law_pick.kp C__law_pick.b .nil pass0 (pa_cons (pv 0) (pa_cons pe_int pa_nil))) (pa_cons (pe_call (C__law_pick.G.mono (by decide)) hr (by rfl) C__law_pick.g C__law_pick.kp C__law_pick.b .nil pass0 (pa_cons (pv 0) (pa_cons pe_int pa_nil))) (pa_cons (pe_call (C__law_great.G.mono (by decide)) hr (by rfl) C__law_great.g C__law_great.kp C__law_great.b .nil pass0 (pa_cons (pv 0) pa_nil)) (pa_cons pe_int pa_nil))))) (pe_call (C__law_pick.G.mono (by decide)) hr (by rfl) C__law_pick.g C__law_pick.kp C__law_pick.b .nil pass0 (pa_cons (pv 0) (pa_cons pe_int pa_nil))) (fun _ _ => rfl)))), ?_⟩
    refine ⟨_, rfl, p, _, _, rfl, hp, by omega, ⟨by decide, by decide⟩, fun a H1 a0 a1 hp1 k1 => ?_⟩
    refine ⟨_, rfl, p, _, _, rfl, hp1, by omega, ⟨by decide, by decide⟩, fun b H2 b0 b1 hp2 k2 => ?_⟩
    refine ⟨_, rfl, p, _, rfl, hp2, by omega, fun far H3 f0 f1 hp3 k3 => ?_⟩
    refine ⟨(by show 4 ≤ sizeLine; decide), fun z nz => ?_⟩
    refine ⟨_, rfl, p, _, _, rfl, hp3.new nz, by omega, ⟨by decide, by decide⟩, fun way H4 w0 w1 hp4 k4 => ?_⟩
    have nzp := hp3.fresh nz
    have a1 : a < 4 := a1
    have b1 : b < 20 := b1
    have w1 : way < 4 := w1
    have ix : ∃ n : Int, NumC n ∧ atI [V.int a, V.int b, V.int far, V.int 0] way = some (.int n) := by
      have hw : way = 0 ∨ way = 1 ∨ way = 2 ∨ way = 3 := by omega
      rcases hw with rfl | rfl | rfl | rfl
      · exact ⟨a, ⟨by omega, by omega⟩, rfl⟩
      · exact ⟨b, ⟨by omega, by omega⟩, rfl⟩
      · exact ⟨far, ⟨by omega, by omega⟩, rfl⟩
      · exact ⟨0, ⟨by omega, by omega⟩, rfl⟩
    obtain ⟨n, hn, en⟩ := ix
    refine ⟨z, _, way, _, rfl, rfl, SqL.of (k4.at nzp upd_same), en, ?_⟩
    exact q _ _ hn (hp4.mono (by omega)) ((((k1.trans k2).trans k3).new nz).trans k4)
theorem ok__law_name {fB f : Addr} {fdB fd : FuncData} (F : Fun K "_law_name" "_law_name" s__law_name f fd) (bi : Bi mg) (C__law_pick : Cal P w K mg base "_law_pick" P__law_pick 1 spTakeC fB fdB) : FnOk P w K mg base CX0 2 f fd P__law_name spName54 := by
  refine F.ok sc__law_name (fun vs H Q E h => ?_) (fun cdv A outer s H vs Q E hr h => ?_)
  · obtain ⟨p, T, rfl, _⟩ := h
    rfl
  · obtain ⟨p, T, rfl, hp, hT, q⟩ := h
    refine ⟨_, (pss_cons (ps_set (i := 1) sc__law_name.nd rfl (.inl rfl) (pe_ix ix_list (pe_lst (pa_cons pe_int (pa_cons pe_int (pa_cons pe_int (pa_cons pe_int pa_nil))))) (pe_call (C__law_pick.G.mono (by decide)) hr (by rfl) C__law_pick.g C__law_pick.kp C__law_pick.b .nil pass0 (pa_cons (pv 0) (pa_cons pe_int pa_nil))) (fun _ _ => rfl)))
    (pss_one (ps_ret (pe_join pe_str (pe_lc (own := [("_law_k", 2)]) (g := (gName 2)) (tt := tYes) rfl sc__law_name.nd (pi_range1 rfl bi.m_range (pa_cons (pv 1) pa_nil)) (blkOk_by (N := N__law_name) (sc := defScope s__law_name) (by decide +kernel)) (fun _ _ _ _ _ => (pg_name (i := 2) sc__law_name.nd rfl (.inl rfl) (.inr rfl))) (fun _ _ _ _ _ => pts_nil) (fun _ _ _ _ _ => (pe_ix ix_str pe_str (pe_call (C__law_pick.G.mono (by decide)) hr (by rfl) C__law_pick.g C__law_pick.kp C__law_pick.b .nil pass0 (pa_cons (pv 0) (pa_cons pe_int pa_nil))) (fun _ _ => rfl)))))))), ?_⟩
    refine ⟨(by show 4 ≤ sizeLine; decide), fun z nz => ?_⟩
    refine ⟨_, rfl, p, _, _, rfl, hp.new nz, by omega, ⟨by decide, by decide⟩, fun way H1 w0 w1 hp1 k1 => ?_⟩
    have nzp := hp.fresh nz
    have k01 := (Keep.refl.new nz).trans k1
    have w1 : way < 4 := w1
    obtain ⟨n, hn, en⟩ : ∃ n : Nat, n ≤ 9 ∧ atI [V.int 1, V.int 3, V.int 8, V.int 9] way = some (.int n) := by
      have hw : way = 0 ∨ way = 1 ∨ way = 2 ∨ way = 3 := by omega
      rcases hw with rfl | rfl | rfl | rfl
      · exact ⟨1, by omega, rfl⟩
      · exact ⟨3, by omega, rfl⟩
      · exact ⟨8, by omega, rfl⟩
      · exact ⟨9, by omega, rfl⟩
    refine ⟨z, _, way, _, rfl, rfl, SqL.of (k1.at nzp upd_same), en, ?_⟩
    refine ⟨⟨_, rfl⟩, _, rfl, _, rfl, by omega, by omega, fun D nD => ?_⟩
    rw [Int.toNat_natCast]
    have nDp := hp1.fresh nD
    refine lc_range (n := n) (fun i H7 => ∃ cs : List Nat, PotC H7 p (T + 1 + i) ∧ Keep p p H1 H7 ∧ H7 D = some (.lst ((cs.map oneC).map V.str)) ∧ cs.length = i) ⟨[], (hp1.new nD).mono (by omega), Keep.refl.new nD, upd_same, rfl⟩ (fun i H7 hi hm => ?_) (fun H7 hm => ?_)
    · obtain ⟨cs, hp7, k7, eD, hl⟩ := hm
      refine ⟨rfl, yesIte ?_⟩
      refine ⟨_, rfl, p, _, _, rfl, hp7, by omega, ⟨by decide, by decide⟩, fun d H8 d0 d1 hp8 k8 => ?_⟩
      obtain ⟨j, rfl⟩ : ∃ j : Nat, d = j := ⟨d.toNat, by omega⟩
      have hj : j < (cpl (Str.ofString "abcdefghijklmnopqrstuvwxyz")).length := by
        show j < 26
        omega
      have eD8 := k8.at nDp eD
      refine ⟨_, _, _, rfl, rfl, small_line (by show 26 ≤ 100000; decide), atI_nat (List.getElem?_eq_getElem hj), _, eD8, by rw [List.length_map, List.length_map]; exact small1000 (by omega), cs ++ [(cpl (Str.ofString "abcdefghijklmnopqrstuvwxyz"))[j]], (hp8.other nDp).mono (by omega), (k7.trans k8).mine nD, by rw [upd_same, List.map_append, List.map_append]; rfl, by rw [List.length_append, hl]; rfl⟩
    · obtain ⟨cs, hp7, k7, eD, hl⟩ := hm
      obtain ⟨j1, j2⟩ := one_join cs
      have hz : (Str.ofString "").length = 0 := rfl
      refine ⟨_, D, _, rfl, rfl, .inl (SqL.of eD), by rw [hz, j2]; omega, ?_⟩
      refine q _ _ ?_ (hp7.mono (by omega)) (k01.trans k7)
      rw [cpl_len, j1]
      omega
theorem DrawnK.nat {H : Hp} {m : Int} {n : Nat} (h0 : 0 ≤ m) (h1 : m < 2 ^ 199) : DrawnK H (.int m) n := ⟨.int m, .int m (by omega) (by omega), .int (by omega) (by omega), Nat.zero_le _⟩
theorem ok__law_wisp {fB fN f : Addr} {fdB fdN fd : FuncData} (F : Fun K "_law_wisp" "_law_wisp" s__law_wisp f fd) (bi : Bi mg) (C__law_pick : Cal P w K mg base "_law_pick" P__law_pick 1 spTakeC fB fdB) (C__law_number : Cal P w K mg base "_law_number" P__law_number 3 spNumC fN fdN) : FnOk P w K mg base CX0 4 f fd P__law_wisp spWisp54 := by
  refine F.ok sc__law_wisp (fun vs H Q E h => ?_) (fun cdv A outer s H vs Q E hr h => ?_)
  · obtain ⟨p, T, rfl, _⟩ := h
    rfl
  · obtain ⟨p, T, rfl, hp, hT, q⟩ := h
    refine ⟨_, (pss_cons (ps_par (i := 1) (j := 2) rfl sc__law_wisp.nd rfl rfl (by decide) rfl rfl (pa_cons (pe_lst pa_nil) (pa_cons pe_int pa_nil)) rfl)
    (pss_cons (ps_for PassesOwn.never rfl (pi_range1 rfl bi.m_range (pa_cons (pe_ix ix_list (pe_lst (pa_cons pe_int (pa_cons pe_int (pa_cons pe_int (pa_cons pe_int pa_nil))))) (pe_call (C__law_pick.G.mono (by decide)) hr (by rfl) C__law_pick.g C__law_pick.kp C__law_pick.b .nil pass0 (pa_cons (pv 0) (pa_cons pe_int pa_nil))) (fun _ _ => rfl)) pa_nil)) (pg_name (i := 3) sc__law_wisp.nd rfl (.inl rfl))
      (pss_cons (ps_set (i := 2) sc__law_wisp.nd rfl (.inl rfl) (pe_op op_add (pe_op op_add (pv 2) pe_int) (pe_op op_fdiv (pe_call (C__law_number.G.mono (by decide)) hr (by rfl) C__law_number.g C__law_number.kp C__law_number.b .nil pass0 (pa_cons (pv 0) pa_nil)) pe_int)))
        (pss_one (ps_expr (pe_bm PySem.F.plainAttrs_list PySem.F.slot_list_insert PySem.F.type_list_insert mt_insert (pv 1) (pa_cons pe_int (pa_cons (pe_tup (pa_cons (pv 2) (pa_cons (pe_op op_add pe_int (pe_call (C__law_number.G.mono (by decide)) hr (by rfl) C__law_number.g C__law_number.kp C__law_number.b .nil pass0 (pa_cons (pv 0) pa_nil))) pa_nil))) pa_nil)))))))
    (pss_one (ps_ret (pe_tup (pa_cons (pe_call (C__law_pick.G.mono (by decide)) hr (by rfl) C__law_pick.g C__law_pick.kp C__law_pick.b .nil pass0 (pa_cons (pv 0) (pa_cons pe_int pa_nil))) (pa_cons (pe_callTy call_tuple_of (by rfl) bi.m_tuple (by decide +kernel) (pa_cons (pv 1) pa_nil)) pa_nil))))))), ?_⟩
    refine ⟨Nat.zero_le _, fun L nL => ⟨_, _, rfl, ?_⟩⟩
    have kL := (Keep.refl (p := p) (l := p) (H := H)).new (o := .lst []) nL
    have hpL := hp.new (o := .lst []) nL
    have nLp := hp.fresh nL
    have eL : upd H L (.lst []) L = some (.lst (([] : List Addr).map V.ref)) := upd_same
    generalize upd H L (.lst []) = H1 at kL hpL eL
    refine ⟨(by show 4 ≤ sizeLine; decide), fun z nz => ?_⟩
    have nzp := hpL.fresh nz
    have nzL : z ≠ L := (ne_of_none eL nz).symm
    refine ⟨_, rfl, p, _, _, rfl, hpL.new nz, by omega, ⟨by decide, by decide⟩, fun way H2 w0 w1 hp2 k2 => ?_⟩
    have w1 : way < 4 := w1
    have eL2 : H2 L = some (.lst (([] : List Addr).map V.ref)) := k2.at nLp ((upd_ne nzL.symm).trans eL)
    obtain ⟨n, hn, en⟩ : ∃ n : Nat, n ≤ 9 ∧ atI [V.int 1, V.int 2, V.int 8, V.int 9] way = some (.int n) := by
      have hw : way = 0 ∨ way = 1 ∨ way = 2 ∨ way = 3 := by omega
      rcases hw with rfl | rfl | rfl | rfl
      · exact ⟨1, by omega, rfl⟩
      · exact ⟨2, by omega, rfl⟩
      · exact ⟨8, by omega, rfl⟩
      · exact ⟨9, by omega, rfl⟩
    refine ⟨z, _, way, _, rfl, rfl, SqL.of (k2.at nzp upd_same), en, _, rfl, by omega, by omega, ?_⟩
    rw [Int.toNat_natCast]
    have k02 := kL.trans ((Keep.refl.new nz).trans k2)
    refine for_range (n := n) (fun i σ' H' => ∃ (x3 : Option V) (m : Int) (as : List Addr), σ' = [some (.ref p), some (.ref L), some (.int m), x3] ∧ 0 ≤ m ∧ m ≤ i * 2 ^ 140 ∧ PotC H' p (T + 1 + 20 * i) ∧ Keep p p H H' ∧ H' L = some (.lst (as.map V.ref)) ∧ as.length = i ∧ ∀ a ∈ as, DrawnK H' (.ref a) 1) ⟨_, 0, [], rfl, by decide, by decide, hp2, k02, eL2, rfl, fun a ha => by cases ha⟩ (fun i σ' H' hi hm => ?_) (fun σ' H' hm => ?_)
    · obtain ⟨x3, m, as, rfl, m0, m1, hp3, k3, eL3, hal, hd⟩ := hm
      have hp3b : T + 1 + 20 * i < 2 ^ 38 := by omega
      refine ⟨_, rfl, _, _, rfl, rfl, _, rfl, p, _, rfl, hp3, hp3b, fun n1 H4 hn1 hp4 k4 => ⟨_, _, rfl, rfl, ⟨by decide, by decide⟩, _, _, rfl, rfl, ?_⟩⟩
      have eL4 := k4.at nLp eL3
      refine ⟨_, rfl, .inl ⟨rfl, _, SqL.of eL4⟩, _, rfl, _, rfl, p, _, rfl, hp4, by omega, fun n2 H5 hn2 hp5 k5 => ⟨_, _, rfl, rfl, (by show 2 ≤ sizeLine; decide), fun b nb => ?_⟩⟩
      have eL5 := k5.at nLp eL4
      have sb : Same H5 (upd H5 b (.tup [.int (m + 1 + n1 / 9), .int (1 + n2)])) := same_new (Same.refl _) nb
      have eb : upd H5 b (.tup [.int (m + 1 + n1 / 9), .int (1 + n2)]) b = some (.tup [.int (m + 1 + n1 / 9), .int (1 + n2)]) := upd_same
      have hp6 := hp5.same sb
      have eL6 := sb _ _ eL5
      have h1 := hn1.1
      have h2 := hn1.2
      have h3 := hn2.1
      have h4 := hn2.2
      have hi9 : (i : Int) ≤ 9 := by omega
      have kin : Kinds H' (upd H5 b (.tup [.int (m + 1 + n1 / 9), .int (1 + n2)])) := ((Kinds.keep k4 hp3 hp4).trans (Kinds.keep k5 hp4 hp5)).trans (Kinds.same sb)
      have kput : ∀ ys, Kinds (upd H5 b (.tup [.int (m + 1 + n1 / 9), .int (1 + n2)])) (upd (upd H5 b (.tup [.int (m + 1 + n1 / 9), .int (1 + n2)])) L (.lst ys)) := fun ys => Kinds.put eL6
      have kk := ((k3.trans k4).trans (k5.trans (Same.keep sb))).mine (o := .lst (.ref b :: as.map V.ref)) nL
      have all : ∀ a ∈ b :: as, DrawnK (upd (upd H5 b (.tup [.int (m + 1 + n1 / 9), .int (1 + n2)])) L (.lst (.ref b :: as.map V.ref))) (.ref a) 1 := fun a ha => by
        rcases List.mem_cons.mp ha with rfl | ha
        · refine (DrawnK.tup (n := 0) eb (by show 2 ≤ 60; decide) fun v hv => ?_).mono (kput _)
          simp only [List.mem_cons, List.not_mem_nil, or_false] at hv
          rcases hv with rfl | rfl
          · exact DrawnK.nat (by omega) (by omega)
          · exact DrawnK.nat (by omega) (by omega)
        · exact ((hd a ha).mono kin).mono (kput _)
      have hpL := (hp6.other (o := .lst (.ref b :: as.map V.ref)) nLp).mono (show T + 1 + 20 * i + 10 + 10 ≤ T + 1 + 20 * (i + 1) by omega)
      refine ⟨L, _, 0, _, rfl, rfl, eL6, by rw [List.length_map]; exact small1000 (by omega), by decide, by decide, ?_⟩
      refine ⟨_, m + 1 + n1 / 9, b :: as, rfl, by omega, ?_, hpL, kk, upd_same, congrArg (· + 1) hal, all⟩
      have e : ((i + 1 : Nat) : Int) * 2 ^ 140 = i * 2 ^ 140 + 2 ^ 140 := by rw [Int.natCast_add, Int.add_mul]; rfl
      rw [e]
      omega
    · obtain ⟨x3, m, as, rfl, m0, m1, hp3, k3, eL3, hal, hd⟩ := hm
      refine ⟨_, rfl, p, _, _, rfl, hp3, by omega, ⟨by decide, by decide⟩, fun so H4 s0 s1 hp4 k4 => ?_⟩
      have s1 : so < 2 := s1
      refine ⟨_, rfl, L, _, rfl, .inl ⟨SqL.of (k4.at nLp eL3), fun u nu => ?_⟩⟩
      refine ⟨(by show 2 ≤ sizeLine; decide), fun b nb => ?_⟩
      have su : Same H4 (upd H4 u (.tup (as.map V.ref))) := same_new (Same.refl _) nu
      have eu : upd H4 u (.tup (as.map V.ref)) u = some (.tup (as.map V.ref)) := upd_same
      generalize upd H4 u (.tup (as.map V.ref)) = H5 at su eu nb ⊢
      have du : DrawnK H5 (.ref u) 2 := DrawnK.tup (n := 1) eu (by rw [List.length_map]; omega) fun v hv => by
        obtain ⟨a, ha, rfl⟩ := List.mem_map.mp hv
        exact ((hd a ha).mono (Kinds.keep k4 hp3 hp4)).mono (Kinds.same su)
      have sb : Same H5 (upd H5 b (.tup [.int so, .ref u])) := same_new (Same.refl _) nb
      have db : DrawnK (upd H5 b (.tup [.int so, .ref u])) (.ref b) 3 := DrawnK.tup (n := 2) upd_same (by show 2 ≤ 60; decide) fun v hv => by
        simp only [List.mem_cons, List.not_mem_nil, or_false] at hv
        rcases hv with rfl | rfl
        · exact DrawnK.nat s0 (by omega)
        · exact du.mono (Kinds.same sb)
      exact q _ b db (((hp4.same su).same sb).mono (by omega)) ((k3.trans k4).trans (Same.keep (su.trans sb)))
theorem ok__law_entry {fB fN fW fA f : Addr} {fdB fdN fdW fdA fd : FuncData} (F : Fun K "_law_entry" "_law_entry" s__law_entry f fd) (bi : Bi mg) (C__law_pick : Cal P w K mg base "_law_pick" P__law_pick 1 spTakeC fB fdB) (C__law_number : Cal P w K mg base "_law_number" P__law_number 3 spNumC fN fdN) (C__law_wisp : Cal P w K mg base "_law_wisp" P__law_wisp 4 spWisp54 fW fdW) (C__law_name : Cal P w K mg base "_law_name" P__law_name 2 spName54 fA fdA) : FnOk P w K mg base CX0 5 f fd P__law_entry spEntry54 := by
  refine F.ok sc__law_entry (fun vs H Q E h => ?_) (fun cdv A outer s H vs Q E hr h => ?_)
  · obtain ⟨p, T, rfl, _⟩ := h
    rfl
  · obtain ⟨p, T, rfl, hp, hT, q⟩ := h
    refine ⟨_, (pss_cons (ps_set (i := 1) sc__law_entry.nd rfl (.inl rfl) (pe_call (C__law_pick.G.mono (by decide)) hr (by rfl) C__law_pick.g C__law_pick.kp C__law_pick.b .nil pass0 (pa_cons (pv 0) (pa_cons pe_int pa_nil))))
    (pss_cons (ps_if (pt_cmpR op_eq (pv 1) pe_int (nomark _))
      (pss_one (ps_ret (pe_tup (pa_cons pe_str (pa_cons (pe_call (C__law_name.G.mono (by decide)) hr (by rfl) C__law_name.g C__law_name.kp C__law_name.b .nil pass0 (pa_cons (pv 0) pa_nil)) (pa_cons (pe_call (C__law_wisp.G.mono (by decide)) hr (by rfl) C__law_wisp.g C__law_wisp.kp C__law_wisp.b .nil pass0 (pa_cons (pv 0) pa_nil)) (pa_cons (pe_call (C__law_number.G.mono (by decide)) hr (by rfl) C__law_number.g C__law_number.kp C__law_number.b .nil pass0 (pa_cons (pv 0) pa_nil)) pa_nil)))))))
      pss_nil)
    (pss_cons (ps_if (pt_cmpR op_eq (pv 1) pe_int (nomark _))
      (pss_one (ps_ret (pe_tup (pa_cons pe_str (pa_cons (pe_call (C__law_name.G.mono (by decide)) hr (by rfl) C__law_name.g C__law_name.kp C__law_name.b .nil pass0 (pa_cons (pv 0) pa_nil)) (pa_cons (pe_call (C__law_number.G.mono (by decide)) hr (by rfl) C__law_number.g C__law_number.kp C__law_number.b .nil pass0 (pa_cons (pv 0) pa_nil)) pa_nil))))))
      pss_nil)
    (pss_one (ps_ret (pe_tup (pa_cons pe_str (pa_cons (pe_call (C__law_number.G.mono (by decide)) hr (by rfl) C__law_number.g C__law_number.kp C__law_number.b .nil pass0 (pa_cons (pv 0) pa_nil)) (pa_cons (pe_call (C__law_number.G.mono (by decide)) hr (by rfl) C__law_number.g C__law_number.kp C__law_number.b .nil pass0 (pa_cons (pv 0) pa_nil)) pa_nil))))))))), ?_⟩
    refine ⟨_, rfl, p, _, _, rfl, hp, by omega, ⟨by decide, by decide⟩, fun way H1 w0 w1 hp1 k1 => ?_⟩
    refine ⟨_, rfl, rfl, _, rfl, ite2 (fun _ => ?_) (fun _ => ?_)⟩
    · refine ⟨_, rfl, p, _, rfl, hp1, by omega, fun H2 z hz hp2 k2 => ?_⟩
      refine ⟨_, rfl, p, _, rfl, hp2, by omega, fun H3 a ha hp3 k3 => ?_⟩
      refine ⟨_, rfl, p, _, rfl, hp3, by omega, fun n H4 hn hp4 k4 => ?_⟩
      refine ⟨(by show 4 ≤ sizeLine; decide), fun b nb => ?_⟩
      have sb : Same H4 (upd H4 b (.tup [.str "lay", .str z, .ref a, .int n])) := same_new (Same.refl _) nb
      refine q _ b (DrawnK.tup (n := 3) upd_same (by show 4 ≤ 60; decide) fun v hv => ?_) ((hp4.same sb).mono (by omega)) ((((k1.trans k2).trans k3).trans k4).trans (Same.keep sb))
      simp only [List.mem_cons, List.not_mem_nil, or_false] at hv
      rcases hv with rfl | rfl | rfl | rfl
      · exact DrawnK.str (by show 3 ≤ 40; decide)
      · exact DrawnK.str (by omega)
      · exact (ha.mono (Kinds.keep k4 hp3 hp4)).mono (Kinds.same sb)
      · exact DrawnK.int hn
    refine ⟨_, rfl, rfl, _, rfl, ite2 (fun _ => ?_) (fun _ => ?_)⟩
    · refine ⟨_, rfl, p, _, rfl, hp1, by omega, fun H2 z hz hp2 k2 => ?_⟩
      refine ⟨_, rfl, p, _, rfl, hp2, by omega, fun n H4 hn hp4 k4 => ?_⟩
      refine ⟨(by show 3 ≤ sizeLine; decide), fun b nb => ?_⟩
      have sb : Same H4 (upd H4 b (.tup [.str "let", .str z, .int n])) := same_new (Same.refl _) nb
      refine q _ b (DrawnK.tup (n := 3) upd_same (by show 3 ≤ 60; decide) fun v hv => ?_) ((hp4.same sb).mono (by omega)) (((k1.trans k2).trans k4).trans (Same.keep sb))
      simp only [List.mem_cons, List.not_mem_nil, or_false] at hv
      rcases hv with rfl | rfl | rfl
      · exact DrawnK.str (by show 3 ≤ 40; decide)
      · exact DrawnK.str (by omega)
      · exact DrawnK.int hn
    · refine ⟨_, rfl, p, _, rfl, hp1, by omega, fun m H2 hm hp2 k2 => ?_⟩
      refine ⟨_, rfl, p, _, rfl, hp2, by omega, fun n H4 hn hp4 k4 => ?_⟩
      refine ⟨(by show 3 ≤ sizeLine; decide), fun b nb => ?_⟩
      have sb : Same H4 (upd H4 b (.tup [.str "snap", .int m, .int n])) := same_new (Same.refl _) nb
      refine q _ b (DrawnK.tup (n := 3) upd_same (by show 3 ≤ 60; decide) fun v hv => ?_) ((hp4.same sb).mono (by omega)) (((k1.trans k2).trans k4).trans (Same.keep sb))
      simp only [List.mem_cons, List.not_mem_nil, or_false] at hv
      rcases hv with rfl | rfl | rfl
      · exact DrawnK.str (by show 4 ≤ 40; decide)
      · exact DrawnK.int hm
      · exact DrawnK.int hn
theorem ok__law_other_number {fB f : Addr} {fdB fd : FuncData} (F : Fun K "_law_other_number" "_law_other_number" s__law_other_number f fd) (bi : Bi mg) (C__law_pick : Cal P w K mg base "_law_pick" P__law_pick 1 spTakeC fB fdB) : FnOk P w K mg base CX0 2 f fd P__law_other_number spOtherN54 := by
  refine F.ok sc__law_other_number (fun vs H Q E h => ?_) (fun cdv A outer s H vs Q E hr h => ?_)
  · obtain ⟨B, p, T, m, rfl, _⟩ := h
    rfl
  · obtain ⟨B, p, T, m, rfl, hp, hT, mB0, mB1, m0, m1, hB0, q⟩ := h
    refine ⟨_, (pss_cons (ps_set (i := 2) sc__law_other_number.nd rfl (.inl rfl) (pe_lst (pa_cons (pe_op op_add (pv 1) pe_int) (pa_cons (pe_op op_sub (pv 1) pe_int) (pa_cons (pe_un un_neg pe_int) (pa_cons (pe_cmpR op_gt (pv 1) pe_int (nomark _)) (pa_cons (pe_callTy call_str_int (by rfl) bi.m_str (by decide +kernel) (pa_cons (pv 1) pa_nil)) (pa_cons pe_non (pa_cons (pe_lst (pa_cons (pv 1) pa_nil)) (pa_cons (pe_tup (pa_cons (pv 1) pa_nil)) (pa_cons pe_int (pa_cons (pe_cmpR op_eq (pv 1) pe_int (nomark _)) pa_nil))))))))))))
    (pss_one (ps_ret (pe_ix ix_list (pv 2) (pe_call (C__law_pick.G.mono (by decide)) hr (by rfl) C__law_pick.g C__law_pick.kp C__law_pick.b .nil pass0 (pa_cons (pv 0) (pa_cons pe_int pa_nil))) (fun _ _ => rfl))))), ?_⟩
    obtain ⟨B2, hB2⟩ : ∃ B2 : Int, B2 = 2 * B + 100 := ⟨_, rfl⟩
    rw [← hB2] at q
    have hlog := log_small m0 m1
    refine ⟨_, rfl, _, _, rfl, rfl, _, rfl, _, _, rfl, rfl, _, rfl, _, rfl, _, _, rfl, rfl, _, rfl, m, rfl, Nat.lt_trans hlog (by decide), _, rfl, (by show 1 ≤ sizeLine; decide), fun y ny => ?_⟩
    have vy : TkV B2 (upd H y (.lst [.int m])) (.ref y) := .lst upd_same
    have sy : Same H (upd H y (.lst [.int m])) := same_new (Same.refl _) ny
    generalize upd H y (.lst [.int m]) = H1 at vy sy
    refine ⟨_, rfl, (by show 1 ≤ sizeLine; decide), fun z nz => ?_⟩
    have vz : TkV B2 (upd H1 z (.tup [.int m])) (.ref z) := .tup (by show 1 ≤ 300; decide) (fun v hv => by rw [List.mem_singleton.mp hv]; exact ⟨_, .int m (by omega) (by omega)⟩) nz
    have sz : Same H1 (upd H1 z (.tup [.int m])) := same_new (Same.refl _) nz
    generalize upd H1 z (.tup [.int m]) = H2 at vz sz
    refine ⟨_, rfl, rfl, (by show 10 ≤ sizeLine; decide), fun Z nZ => ?_⟩
    have hp2 := hp.same (sy.trans sz)
    have hts : (Str.ofString (toString m)).length ≤ 1000 := by
      have := int_text_length_le (by decide) hlog
      rw [PySem.ofString_length]
      omega
    obtain ⟨xs, hxs⟩ : ∃ xs, xs = [V.int (m + 1), .int (m - 1), .int (-1), .bl (decide (0 < m)), .str (Str.ofString (toString m)), .non, .ref y, .ref z, .int 0, .bl (decide (V.int m = V.int 0))] := ⟨_, rfl⟩
    have eZ : upd H2 Z (.lst [V.int (m + 1), .int (m - 1), .int (-1), .bl (decide (0 < m)), .str (Str.ofString (toString m)), .non, .ref y, .ref z, .int 0, .bl (decide (V.int m = V.int 0))]) Z = some (.lst xs) := by
      rw [hxs]
      exact upd_same
    have kZ := (Keep.refl (p := p) (l := p) (H := H2)).new (o := .lst [V.int (m + 1), .int (m - 1), .int (-1), .bl (decide (0 < m)), .str (Str.ofString (toString m)), .non, .ref y, .ref z, .int 0, .bl (decide (V.int m = V.int 0))]) nZ
    have hpZ := hp2.new (o := .lst [V.int (m + 1), .int (m - 1), .int (-1), .bl (decide (0 < m)), .str (Str.ofString (toString m)), .non, .ref y, .ref z, .int 0, .bl (decide (V.int m = V.int 0))]) nZ
    have nZp := hp2.fresh nZ
    have all : ∀ x ∈ xs, TkV B2 H2 x := fun x hx => by
      rw [hxs] at hx
      simp only [List.mem_cons, List.not_mem_nil, or_false] at hx
      rcases hx with rfl | rfl | rfl | rfl | rfl | rfl | rfl | rfl | rfl | rfl
      · exact ⟨_, .int _ (by omega) (by omega)⟩
      · exact ⟨_, .int _ (by omega) (by omega)⟩
      · exact ⟨_, .int _ (by omega) (by omega)⟩
      · exact ⟨_, .bl _⟩
      · exact ⟨_, .str _ hts⟩
      · exact ⟨_, .non⟩
      · exact vy.mono (Kinds.same sz)
      · exact vz
      · exact ⟨_, .int _ (by omega) (by omega)⟩
      · exact ⟨_, .bl _⟩
    refine ⟨_, rfl, _, rfl, p, _, _, rfl, hpZ, by omega, ⟨by decide, by decide⟩, fun d H3 d0 d1 hp3 k3 => ?_⟩
    have eZ3 := k3.at nZp eZ
    have k13 : Keep p p H2 H3 := kZ.trans k3
    have hx9 : xs.length = 10 := by rw [hxs]; rfl
    obtain ⟨N, rfl⟩ : ∃ N : Nat, d = N := ⟨d.toNat, by omega⟩
    have ex : xs[N]? = some (xs[N]'(by omega)) := List.getElem?_eq_getElem (by omega)
    obtain ⟨s', hs'⟩ := all _ (List.mem_of_getElem? ex)
    exact ⟨Z, _, _, _, rfl, rfl, SqL.of eZ3, atI_nat ex, q _ _ (hp3.mono (by omega)) ((Same.keep (sy.trans sz)).trans k13) ⟨s', hs'.mono (Kinds.keep k13 hp2 hp3)⟩⟩
theorem ok__law_other_tuple {fB f : Addr} {fdB fd : FuncData} (F : Fun K "_law_other_tuple" "_law_other_tuple" s__law_other_tuple f fd) (bi : Bi mg) (C__law_pick : Cal P w K mg base "_law_pick" P__law_pick 1 spTakeC fB fdB) : FnOk P w K mg base CX0 2 f fd P__law_other_tuple spOtherT54 := by
  refine F.ok sc__law_other_tuple (fun vs H Q E h => ?_) (fun cdv A outer s H vs Q E hr h => ?_)
  · obtain ⟨B, p, T, v, ts, rfl, _⟩ := h
    rfl
  · obtain ⟨B, p, T, v, ts, rfl, hp, hT, hv, hl60, hB0, q⟩ := h
    refine ⟨_, (pss_cons (ps_par3 (i := 2) (j := 3) (l := 4) rfl sc__law_other_tuple.nd rfl rfl rfl (by decide) (by decide) (by decide) rfl rfl rfl (pa_cons (pe_call (C__law_pick.G.mono (by decide)) hr (by rfl) C__law_pick.g C__law_pick.kp C__law_pick.b .nil pass0 (pa_cons (pv 0) (pa_cons pe_int pa_nil))) (pa_cons (pe_call (C__law_pick.G.mono (by decide)) hr (by rfl) C__law_pick.g C__law_pick.kp C__law_pick.b .nil pass0 (pa_cons (pv 0) (pa_cons (pe_op op_add (pe_callB call_len_seq (by rfl) bi.m_len (by decide +kernel) (pa_cons (pv 1) pa_nil)) pe_int) pa_nil))) (pa_cons (pe_call (C__law_pick.G.mono (by decide)) hr (by rfl) C__law_pick.g C__law_pick.kp C__law_pick.b .nil pass0 (pa_cons (pv 0) (pa_cons pe_int pa_nil))) pa_nil))) rfl)
    (pss_cons (ps_if (pt_cmpR op_eq (pv 2) pe_int (nomark _))
      (pss_one (ps_ret (pe_op op_catA (pe_slice sl_tupA (pv 1) po_none (po_some (pv 3))) (pe_slice sl_tupA (pv 1) (po_some (pe_op op_add (pv 3) pe_int)) po_none))))
      pss_nil)
    (pss_cons (ps_if (pt_cmpR op_eq (pv 2) pe_int (nomark _))
      (pss_one (ps_ret (pe_op op_catA (pe_op op_catA (pe_slice sl_tupA (pv 1) po_none (po_some (pv 3))) (pe_slice sl_tupA (pv 1) (po_some (pv 3)) (po_some (pe_op op_add (pv 3) pe_int)))) (pe_slice sl_tupA (pv 1) (po_some (pv 3)) po_none))))
      pss_nil)
    (pss_cons (ps_if (pt_cmpR op_eq (pv 2) pe_int (nomark _))
      (pss_one (ps_ret (pe_op op_catA (pe_op op_catA (pe_slice sl_tupA (pv 1) po_none (po_some (pv 3))) (pe_revT (pe_slice sl_tupA (pv 1) (po_some (pv 3)) (po_some (pe_op op_add (pv 3) pe_int))))) (pe_slice sl_tupA (pv 1) (po_some (pe_op op_add (pv 3) pe_int)) po_none))))
      pss_nil)
    (pss_cons (ps_if (pt_cmpR op_eq (pv 2) pe_int (nomark _))
      (pss_one (ps_ret (pe_op op_catA (pe_op op_catA (pe_slice sl_tupA (pv 1) po_none (po_some (pv 3))) (pe_tup (pa_cons (pe_ix ix_list (pe_lst (pa_cons pe_int (pa_cons pe_int (pa_cons pe_str (pa_cons (pe_tup pa_nil) (pa_cons pe_non (pa_cons (pe_tup (pa_cons pe_int (pa_cons pe_int pa_nil))) (pa_cons pe_str pa_nil)))))))) (pv 4) (fun _ _ => rfl)) pa_nil))) (pe_slice sl_tupA (pv 1) (po_some (pv 3)) po_none))))
      pss_nil)
    (pss_one (ps_ret (pe_ix ix_list (pe_lst (pa_cons (pe_callTy call_list_of (by rfl) bi.m_list (by decide +kernel) (pa_cons (pv 1) pa_nil)) (pa_cons (pe_tup (pa_cons (pv 1) pa_nil)) (pa_cons pe_non (pa_cons pe_dnewK (pa_cons pe_str (pa_cons (pe_lst (pa_cons (pv 1) pa_nil)) (pa_cons pe_int pa_nil)))))))) (pv 4) (fun _ _ => rfl))))))))), ?_⟩
    obtain ⟨B2, hB2⟩ : ∃ B2 : Int, B2 = 2 * B + 100 := ⟨_, rfl⟩
    rw [← hB2] at q
    obtain ⟨a, vs, rfl, ea, hvl, hh⟩ := hv.tupE
    have tvs : TksAt B2 H vs := ⟨ts, hvl, fun i v t e1 e2 => (hh i v t e1 e2).up (by omega)⟩
    have fin : ∀ (U : Nat) (H' : Hp) (u : Addr) (ws : List V), PotC H' p U → U ≤ T + 3 → Keep p p H H' → H' u = some (.tup ws) → TksAt B2 H' ws → ws.length ≤ 300 → Q (.ref u) H' := fun U H' u ws h1 h2 h3 h4 h5 h6 => by
      exact q _ _ (h1.mono h2) h3 (h5.tup h6 h4)
    refine ⟨_, rfl, p, _, _, rfl, hp, by omega, ⟨by decide, by decide⟩, fun way H1 w0 w1 hp1 k1 => ?_⟩
    have w1 : way < 6 := w1
    have ea1 := k1.tupsC hp _ _ ea
    refine ⟨_, rfl, _, rfl, a, vs, rfl, .inr (SqT.of ea1), _, _, rfl, rfl, p, _, _, rfl, hp1, by omega, wdiv (by omega) (by omega), fun at' H2 at0 at1 hp2 k2 => ?_⟩
    refine ⟨_, rfl, p, _, _, rfl, hp2, by omega, ⟨by decide, by decide⟩, fun more H3 mo0 mo1 hp3 k3 => ⟨_, _, _, rfl, ?_⟩⟩
    have mo1 : more < 7 := mo1
    have k03 := (k1.trans k2).trans k3
    have kin3 : Kinds H H3 := Kinds.keep k03 hp hp3
    have ea3 := k03.tupsC hp _ _ ea
    have tv3 := tvs.mono kin3
    clear k1 k2 k3 hp1 hp2 ea1
    have hv60 : vs.length ≤ 60 := by omega
    obtain ⟨M, rfl⟩ : ∃ M : Nat, more = M := ⟨more.toNat, by omega⟩
    refine ⟨_, rfl, rfl, _, rfl, ite2 (fun e => ?_) (fun z0 => ?_)⟩
    · refine ⟨_, rfl, _, rfl, _, rfl, slK (N := 60) ea3 tv3 hv60 fun H4 x1 ws1 s4 ex1 tx1 hx1 => ?_⟩
      refine ⟨_, rfl, _, rfl, _, _, rfl, rfl, _, rfl, ?_⟩
      dsimp only [tNoPart]
      refine slK (N := 60) (s4 _ _ ea3) (tv3.mono (Kinds.same s4)) hv60 fun H5 x2 ws2 s5 ex2 tx2 hx2 => ?_
      refine catK (s5 _ _ ex1) ex2 (tx1.mono (Kinds.same s5)) tx2 (by omega) fun H6 x3 s6 ex3 tx3 => ?_
      exact fin _ H6 x3 _ (((hp3.same s4).same s5).same s6) (by omega) (k03.trans (Same.keep ((s4.trans s5).trans s6))) ex3 tx3 (by simp only [List.length_append, List.length_reverse, List.length_cons, List.length_nil]; omega)
    refine ⟨_, rfl, rfl, _, rfl, ite2 (fun e => ?_) (fun z1 => ?_)⟩
    · refine ⟨_, rfl, _, rfl, _, rfl, slK (N := 60) ea3 tv3 hv60 fun H4 x1 ws1 s4 ex1 tx1 hx1 => ?_⟩
      refine ⟨_, rfl, _, rfl, _, rfl, _, rfl, _, _, rfl, rfl, _, rfl, slK (N := 60) (s4 _ _ ea3) (tv3.mono (Kinds.same s4)) hv60 fun H5 x2 ws2 s5 ex2 tx2 hx2 => ?_⟩
      refine catK (s5 _ _ ex1) ex2 (tx1.mono (Kinds.same s5)) tx2 (by omega) fun H6 x3 s6 ex3 tx3 => ?_
      have s36 := (s4.trans s5).trans s6
      refine ⟨_, rfl, _, rfl, _, rfl, ?_⟩
      dsimp only [tNoPart]
      refine slK (N := 60) (s36 _ _ ea3) (tv3.mono (Kinds.same s36)) hv60 fun H7 x4 ws4 s7 ex4 tx4 hx4 => ?_
      refine catK (s7 _ _ ex3) ex4 (tx3.mono (Kinds.same s7)) tx4 (by rw [List.length_append]; omega) fun H8 x5 s8 ex5 tx5 => ?_
      have s38 := (s36.trans s7).trans s8
      exact fin _ H8 x5 _ (hp3.same s38) (by omega) (k03.trans (Same.keep s38)) ex5 tx5 (by simp only [List.length_append, List.length_reverse, List.length_cons, List.length_nil]; omega)
    refine ⟨_, rfl, rfl, _, rfl, ite2 (fun e => ?_) (fun z2 => ?_)⟩
    · refine ⟨_, rfl, _, rfl, _, rfl, slK (N := 60) ea3 tv3 hv60 fun H4 x1 ws1 s4 ex1 tx1 hx1 => ?_⟩
      refine ⟨_, rfl, _, rfl, _, rfl, _, rfl, _, _, rfl, rfl, _, rfl, slK (N := 60) (s4 _ _ ea3) (tv3.mono (Kinds.same s4)) hv60 fun H5 x2 ws2 s5 ex2 tx2 hx2 => ?_⟩
      refine ⟨x2, ws2, rfl, SqT.of ex2, fun y ny => ?_⟩
      have sy : Same H5 (upd H5 y (.tup ws2.reverse)) := same_new (Same.refl _) ny
      have ey : upd H5 y (.tup ws2.reverse) y = some (.tup ws2.reverse) := upd_same
      generalize upd H5 y (.tup ws2.reverse) = H6 at sy ey
      refine catK (sy _ _ (s5 _ _ ex1)) ey (tx1.mono (Kinds.same (s5.trans sy))) (tx2.rev.mono (Kinds.same sy)) (by rw [List.length_reverse]; omega) fun H7 x3 s7 ex3 tx3 => ?_
      have s37 := ((s4.trans s5).trans sy).trans s7
      refine ⟨_, rfl, _, rfl, _, _, rfl, rfl, _, rfl, ?_⟩
      dsimp only [tNoPart]
      refine slK (N := 60) (s37 _ _ ea3) (tv3.mono (Kinds.same s37)) hv60 fun H8 x4 ws4 s8 ex4 tx4 hx4 => ?_
      refine catK (s8 _ _ ex3) ex4 (tx3.mono (Kinds.same s8)) tx4 (by rw [List.length_append, List.length_reverse]; omega) fun H9 x5 s9 ex5 tx5 => ?_
      have s39 := (s37.trans s8).trans s9
      exact fin _ H9 x5 _ (hp3.same s39) (by omega) (k03.trans (Same.keep s39)) ex5 tx5 (by simp only [List.length_append, List.length_reverse, List.length_cons, List.length_nil]; omega)
    refine ⟨_, rfl, rfl, _, rfl, ite2 (fun e => ?_) (fun z3 => ?_)⟩
    · refine ⟨_, rfl, _, rfl, _, rfl, slK (N := 60) ea3 tv3 hv60 fun H4 x1 ws1 s4 ex1 tx1 hx1 => ?_⟩
      refine ⟨Nat.zero_le _, fun b2 m2 => ?_⟩
      have vb2 : TkV B2 (upd H4 b2 (.tup [])) (.ref b2) := .tup (Nat.zero_le _) (fun v hv => by cases hv) m2
      have sb2 : Same H4 (upd H4 b2 (.tup [])) := same_new (Same.refl _) m2
      generalize upd H4 b2 (.tup []) = H5 at vb2 sb2
      refine ⟨(by show 2 ≤ sizeLine; decide), fun b1 m1 => ?_⟩
      have vb1 : TkV B2 (upd H5 b1 (.tup [.int 1, .int 1])) (.ref b1) := .tup (by show 2 ≤ 300; decide) (fun v hv => by
        simp only [List.mem_cons, List.not_mem_nil, or_false] at hv
        rcases hv with rfl | rfl <;> exact ⟨_, .int _ (by omega) (by omega)⟩) m1
      have sb1 : Same H5 (upd H5 b1 (.tup [.int 1, .int 1])) := same_new (Same.refl _) m1
      generalize upd H5 b1 (.tup [.int 1, .int 1]) = H6 at vb1 sb1
      refine ⟨(by show 7 ≤ sizeLine; decide), fun Z nZ => ?_⟩
      obtain ⟨xs, hxs⟩ : ∃ xs, xs = [V.int 0, .int 1, .str "a", .ref b2, .non, .ref b1, .str "lay"] := ⟨_, rfl⟩
      have all : ∀ x ∈ xs, TkV B2 H6 x := fun x hx => by
        rw [hxs] at hx
        simp only [List.mem_cons, List.not_mem_nil, or_false] at hx
        rcases hx with rfl | rfl | rfl | rfl | rfl | rfl | rfl
        · exact ⟨_, .int _ (by omega) (by omega)⟩
        · exact ⟨_, .int _ (by omega) (by omega)⟩
        · exact ⟨_, .str _ (by show 1 ≤ 1000; decide)⟩
        · exact vb2.mono (Kinds.same sb1)
        · exact ⟨_, .non⟩
        · exact vb1
        · exact ⟨_, .str _ (by show 3 ≤ 1000; decide)⟩
      have hx6 : xs.length = 7 := by rw [hxs]; rfl
      have sZ : Same H6 (upd H6 Z (.lst [V.int 0, .int 1, .str "a", .ref b2, .non, .ref b1, .str "lay"])) := same_new (Same.refl _) nZ
      have eZ : upd H6 Z (.lst [V.int 0, .int 1, .str "a", .ref b2, .non, .ref b1, .str "lay"]) Z = some (.lst xs) := by
        rw [hxs]
        exact upd_same
      generalize upd H6 Z (.lst [V.int 0, .int 1, .str "a", .ref b2, .non, .ref b1, .str "lay"]) = H7 at sZ eZ
      have ex : xs[M]? = some (xs[M]'(by omega)) := List.getElem?_eq_getElem (by omega)
      obtain ⟨t', ht'⟩ := all _ (List.mem_of_getElem? ex)
      refine ⟨_, rfl, Z, _, _, _, rfl, rfl, SqL.of eZ, atI_nat ex, (by show 1 ≤ sizeLine; decide), fun y ny => ?_⟩
      generalize xs[M]'(by omega) = x at ht'
      have sy : Same H7 (upd H7 y (.tup [x])) := same_new (Same.refl _) ny
      have ey : upd H7 y (.tup [x]) y = some (.tup [x]) := upd_same
      generalize upd H7 y (.tup [x]) = H8 at sy ey
      have s48 := ((sb2.trans sb1).trans sZ).trans sy
      refine catK (s48 _ _ ex1) ey (tx1.mono (Kinds.same s48)) ((TksAt.one ht').mono (Kinds.same (sZ.trans sy))) (by show ws1.length + 1 ≤ 1000; omega) fun H9 x3 s9 ex3 tx3 => ?_
      have s39 := (s4.trans s48).trans s9
      refine ⟨_, rfl, _, rfl, _, rfl, ?_⟩
      dsimp only [tNoPart]
      refine slK (N := 60) (s39 _ _ ea3) (tv3.mono (Kinds.same s39)) hv60 fun HA x4 ws4 sA ex4 tx4 hx4 => ?_
      refine catK (sA _ _ ex3) ex4 (tx3.mono (Kinds.same sA)) tx4 (by rw [List.length_append]; show ws1.length + 1 + ws4.length ≤ 1000; omega) fun HB x5 sB ex5 tx5 => ?_
      have s3B := (s39.trans sA).trans sB
      exact fin _ HB x5 _ (hp3.same s3B) (by omega) (k03.trans (Same.keep s3B)) ex5 tx5 (by simp only [List.length_append, List.length_reverse, List.length_cons, List.length_nil]; omega)
    refine ⟨_, rfl, a, vs, rfl, .inr (SqT.of ea3), fun l nl => ?_⟩
    have vl : TkV B2 (upd H3 l (.lst vs)) (.ref l) := .lst upd_same
    have sl : Same H3 (upd H3 l (.lst vs)) := same_new (Same.refl _) nl
    generalize upd H3 l (.lst vs) = H4 at vl sl
    refine ⟨_, rfl, (by show 1 ≤ sizeLine; decide), fun y ny => ?_⟩
    have vy : TkV B2 (upd H4 y (.tup [.ref a])) (.ref y) := .tup (by show 1 ≤ 300; decide) (fun v hv => by
      rw [List.mem_singleton.mp hv]
      exact (tv3.mono (Kinds.same sl)).tup (by omega) (sl _ _ ea3)) ny
    have sy : Same H4 (upd H4 y (.tup [.ref a])) := same_new (Same.refl _) ny
    generalize upd H4 y (.tup [.ref a]) = H5 at vy sy
    refine fun d nd => ?_
    have vd : TkV B2 (upd H5 d (.dK [])) (.ref d) := ⟨.oth, .dic upd_same⟩
    have sd : Same H5 (upd H5 d (.dK [])) := same_new (Same.refl _) nd
    show tCons _ _ _ (upd H5 d (.dK [])) _
    generalize upd H5 d (.dK []) = H6 at vd sd
    refine ⟨_, rfl, (by show 1 ≤ sizeLine; decide), fun g ng => ?_⟩
    have vg : TkV B2 (upd H6 g (.lst [.ref a])) (.ref g) := .lst upd_same
    have sg : Same H6 (upd H6 g (.lst [.ref a])) := same_new (Same.refl _) ng
    generalize upd H6 g (.lst [.ref a]) = H7 at vg sg
    refine ⟨(by show 7 ≤ sizeLine; decide), fun L nL => ?_⟩
    obtain ⟨xs, hxs⟩ : ∃ xs, xs = [V.ref l, .ref y, .non, .ref d, .str "parts", .ref g, .int 0] := ⟨_, rfl⟩
    have all : ∀ x ∈ xs, TkV B2 H7 x := fun x hx => by
      rw [hxs] at hx
      simp only [List.mem_cons, List.not_mem_nil, or_false] at hx
      rcases hx with rfl | rfl | rfl | rfl | rfl | rfl | rfl
      · exact vl.mono (Kinds.same ((sy.trans sd).trans sg))
      · exact vy.mono (Kinds.same (sd.trans sg))
      · exact ⟨_, .non⟩
      · exact vd.mono (Kinds.same sg)
      · exact ⟨_, .str _ (by show 5 ≤ 1000; decide)⟩
      · exact vg
      · exact ⟨_, .int _ (by omega) (by omega)⟩
    have hx6 : xs.length = 7 := by rw [hxs]; rfl
    have sL : Same H7 (upd H7 L (.lst [V.ref l, .ref y, .non, .ref d, .str "parts", .ref g, .int 0])) := same_new (Same.refl _) nL
    have eL : upd H7 L (.lst [V.ref l, .ref y, .non, .ref d, .str "parts", .ref g, .int 0]) L = some (.lst xs) := by
      rw [hxs]
      exact upd_same
    generalize upd H7 L (.lst [V.ref l, .ref y, .non, .ref d, .str "parts", .ref g, .int 0]) = H8 at sL eL
    have s38 := (((sl.trans sy).trans sd).trans sg).trans sL
    have ex : xs[M]? = some (xs[M]'(by omega)) := List.getElem?_eq_getElem (by omega)
    obtain ⟨t', ht'⟩ := all _ (List.mem_of_getElem? ex)
    exact ⟨_, rfl, L, _, _, _, rfl, rfl, SqL.of eL, atI_nat ex, q _ _ ((hp3.same s38).mono (by omega)) (k03.trans (Same.keep s38)) ⟨t', ht'.mono (Kinds.same sL)⟩⟩
theorem cutS_len (z : Str) (lo hi : Option Int) : (cutS z lo hi).length ≤ z.length := by
  show (((z.cps.toList.drop (HT.sIx z.length 0 lo)).take (HT.sIx z.length z.length hi - HT.sIx z.length 0 lo)).toArray).size ≤ z.cps.size
  rw [List.size_toArray, List.length_take, List.length_drop, Array.length_toList]
  omega
theorem ok__law_other_text {fB fS f : Addr} {fdB fdS fd : FuncData} (F : Fun K "_law_other_text" "_law_other_text" s__law_other_text f fd) (bi : Bi mg) (C__law_pick : Cal P w K mg base "_law_pick" P__law_pick 1 spTakeC fB fdB) (C__law_sign : Cal P w K mg base "_law_sign" P__law_sign 2 spSign54 fS fdS) : FnOk P w K mg base CX0 3 f fd P__law_other_text spOtherS54 := by
  refine F.ok sc__law_other_text (fun vs H Q E h => ?_) (fun cdv A outer s H vs Q E hr h => ?_)
  · obtain ⟨B, p, T, z, rfl, _⟩ := h
    rfl
  · obtain ⟨B, p, T, z, rfl, hp, hT, hz, hB0, q⟩ := h
    refine ⟨_, (pss_cons (ps_par3 (i := 2) (j := 3) (l := 4) rfl sc__law_other_text.nd rfl rfl rfl (by decide) (by decide) (by decide) rfl rfl rfl (pa_cons (pe_call (C__law_pick.G.mono (by decide)) hr (by rfl) C__law_pick.g C__law_pick.kp C__law_pick.b .nil pass0 (pa_cons (pv 0) (pa_cons pe_int pa_nil))) (pa_cons (pe_call (C__law_pick.G.mono (by decide)) hr (by rfl) C__law_pick.g C__law_pick.kp C__law_pick.b .nil pass0 (pa_cons (pv 0) (pa_cons (pe_op op_add (pe_callB call_len_str (by rfl) bi.m_len (by decide +kernel) (pa_cons (pv 1) pa_nil)) pe_int) pa_nil))) (pa_cons (pe_call (C__law_pick.G.mono (by decide)) hr (by rfl) C__law_pick.g C__law_pick.kp C__law_pick.b .nil pass0 (pa_cons (pv 0) (pa_cons pe_int pa_nil))) pa_nil))) rfl)
    (pss_cons (ps_set (i := 5) sc__law_other_text.nd rfl (.inl rfl) (pe_call (C__law_sign.G.mono (by decide)) hr (by rfl) C__law_sign.g C__law_sign.kp C__law_sign.b .nil pass0 (pa_cons (pv 0) pa_nil)))
    (pss_cons (ps_if (pt_cmpR op_lt (pv 2) pe_int (nomark _))
      (pss_one (ps_ret (pe_op op_add_str (pe_op op_add_str (pe_slice sl_str (pv 1) po_none (po_some (pv 3))) (pe_ix ix_list (pe_lst (pa_cons pe_str (pa_cons (pv 5) (pa_cons (pv 5) pa_nil)))) (pv 2) (fun _ _ => rfl))) (pe_slice sl_str (pv 1) (po_some (pe_op op_add (pv 3) (pe_ix ix_list (pe_lst (pa_cons pe_int (pa_cons pe_int (pa_cons pe_int pa_nil)))) (pv 2) (fun _ _ => rfl)))) po_none))))
      pss_nil)
    (pss_cons (ps_if (pt_cmpR op_eq (pv 2) pe_int (nomark _))
      (pss_one (ps_ret (pe_ix ix_list (pe_lst (pa_cons (pe_op op_add_str (pv 1) (pv 1)) (pa_cons (pe_upper (pv 1)) (pa_cons pe_str (pa_cons pe_str (pa_cons pe_str (pa_cons pe_str (pa_cons pe_str (pa_cons (pe_op op_add_str (pv 1) pe_str) pa_nil))))))))) (pv 4) (fun _ _ => rfl))))
      pss_nil)
    (pss_one (ps_ret (pe_ix ix_list (pe_lst (pa_cons (pe_tup (pa_cons (pv 1) pa_nil)) (pa_cons (pe_lst (pa_cons (pv 1) pa_nil)) (pa_cons pe_non (pa_cons (pe_callB call_len_str (by rfl) bi.m_len (by decide +kernel) (pa_cons (pv 1) pa_nil)) (pa_cons pe_dnewK (pa_cons pe_bl (pa_cons (pe_tup pa_nil) (pa_cons (pe_slice sl_str (pv 1) po_none (po_some pe_int)) pa_nil))))))))) (pv 4) (fun _ _ => rfl)))))))), ?_⟩
    obtain ⟨B2, hB2⟩ : ∃ B2 : Int, B2 = 2 * B + 100 := ⟨_, rfl⟩
    rw [← hB2] at q
    refine ⟨_, rfl, p, _, _, rfl, hp, by omega, ⟨by decide, by decide⟩, fun way H1 w0 w1 hp1 k1 => ?_⟩
    have w1 : way < 5 := w1
    refine ⟨_, rfl, _, rfl, z, rfl, small_line (by omega), _, _, rfl, rfl, p, _, _, rfl, hp1, by omega, wdiv (by omega) (by omega), fun at' H2 at0 at1 hp2 k2 => ?_⟩
    refine ⟨_, rfl, p, _, _, rfl, hp2, by omega, ⟨by decide, by decide⟩, fun more H3 mo0 mo1 hp3 k3 => ⟨_, _, _, rfl, ?_⟩⟩
    have mo1 : more < 8 := mo1
    refine ⟨_, rfl, p, _, rfl, hp3, by omega, fun H4 c hp4 k4 => ?_⟩
    have k04 := ((k1.trans k2).trans k3).trans k4
    have h1c : (⟨#[c]⟩ : Str).length = 1 := rfl
    have cl := fun lo hi => cutS_len z lo hi
    obtain ⟨M, rfl⟩ : ∃ M : Nat, more = M := ⟨more.toNat, by omega⟩
    refine ⟨_, rfl, _, _, rfl, rfl, _, rfl, ite2 (fun e => ?_) (fun z0 => ?_)⟩
    · have e : way < 3 := of_decide_eq_true e
      refine ⟨_, rfl, _, rfl, _, rfl, z, rfl, small_line (by omega), ?_⟩
      refine ⟨_, rfl, _, rfl, (by show 3 ≤ sizeLine; decide), fun Z nZ => ?_⟩
      obtain ⟨y, hy, ey⟩ : ∃ y : Str, y.length ≤ 1 ∧ atI [V.str "", V.str ⟨#[c]⟩, V.str ⟨#[c]⟩] way = some (.str y) := by
        have hw : way = 0 ∨ way = 1 ∨ way = 2 := by omega
        rcases hw with rfl | rfl | rfl
        · exact ⟨"", Nat.zero_le _, rfl⟩
        · exact ⟨_, Nat.le_refl _, rfl⟩
        · exact ⟨_, Nat.le_refl _, rfl⟩
      have sZ : Same H4 (upd H4 Z (.lst [V.str "", V.str ⟨#[c]⟩, V.str ⟨#[c]⟩])) := same_new (Same.refl _) nZ
      have eZ : upd H4 Z (.lst [V.str "", V.str ⟨#[c]⟩, V.str ⟨#[c]⟩]) Z = some (.lst [V.str "", V.str ⟨#[c]⟩, V.str ⟨#[c]⟩]) := upd_same
      generalize upd H4 Z (.lst [V.str "", V.str ⟨#[c]⟩, V.str ⟨#[c]⟩]) = H5 at sZ eZ
      refine ⟨_, rfl, Z, _, way, _, rfl, rfl, SqL.of eZ, ey, _, _, rfl, rfl, small_line (by have := cl none (some at'); omega), ?_⟩
      obtain ⟨k, ek⟩ : ∃ k : Int, atI [V.int 1, V.int 0, V.int 1] way = some (.int k) := by
        have hw : way = 0 ∨ way = 1 ∨ way = 2 := by omega
        rcases hw with rfl | rfl | rfl
        · exact ⟨1, rfl⟩
        · exact ⟨0, rfl⟩
        · exact ⟨1, rfl⟩
      refine ⟨_, rfl, _, rfl, (by show 3 ≤ sizeLine; decide), fun Y nY => ?_⟩
      have sY : Same H5 (upd H5 Y (.lst [V.int 1, V.int 0, V.int 1])) := same_new (Same.refl _) nY
      have eY : upd H5 Y (.lst [V.int 1, V.int 0, V.int 1]) Y = some (.lst [V.int 1, V.int 0, V.int 1]) := upd_same
      generalize upd H5 Y (.lst [V.int 1, V.int 0, V.int 1]) = H6 at sY eY
      refine ⟨_, rfl, Y, _, way, _, rfl, rfl, SqL.of eY, ek, _, _, rfl, rfl, _, rfl, ?_⟩
      dsimp only [tNoPart]
      have hl : (cutS z none (some at') ++ y).length ≤ 41 := by
        rw [Str.length_append]
        have := cl none (some at')
        omega
      have hl2 : (cutS z none (some at') ++ y ++ cutS z (some (at' + k)) none).length ≤ 1000 := by
        rw [Str.length_append]
        have := cl (some (at' + k)) none
        omega
      refine ⟨z, rfl, small_line (by omega), _, _, rfl, rfl, small_line (by have := cl (some (at' + k)) none; omega), ?_⟩
      exact q _ _ (((hp4.same sZ).same sY).mono (by omega)) (k04.trans (Same.keep (sZ.trans sY))) ⟨_, .str _ hl2⟩
    have ua := PyProof.Rows.len_upper z
    refine ⟨_, rfl, rfl, _, rfl, ite2 (fun e => ?_) (fun z1 => ?_)⟩
    · refine ⟨_, rfl, _, rfl, _, _, rfl, rfl, small_line (by omega), _, rfl, ⟨_, rfl⟩, z, rfl, rfl, by omega, _, rfl, _, _, rfl, rfl, small_line (by show z.length + 1 ≤ 100000; omega), (by show 8 ≤ sizeLine; decide), fun Z nZ => ?_⟩
      obtain ⟨xs, hxs⟩ : ∃ xs, xs = [V.str (z ++ z), .str (Txt.upper z), .str "", .str "lay", .str "let", .str "snap", .str "lays", .str (z ++ Str.ofString "a")] := ⟨_, rfl⟩
      have sZ : Same H4 (upd H4 Z (.lst [V.str (z ++ z), .str (Txt.upper z), .str "", .str "lay", .str "let", .str "snap", .str "lays", .str (z ++ Str.ofString "a")])) := same_new (Same.refl _) nZ
      have eZ : upd H4 Z (.lst [V.str (z ++ z), .str (Txt.upper z), .str "", .str "lay", .str "let", .str "snap", .str "lays", .str (z ++ Str.ofString "a")]) Z = some (.lst xs) := by
        rw [hxs]
        exact upd_same
      generalize upd H4 Z (.lst [V.str (z ++ z), .str (Txt.upper z), .str "", .str "lay", .str "let", .str "snap", .str "lays", .str (z ++ Str.ofString "a")]) = H5 at sZ eZ
      have all : ∀ x ∈ xs, TkV B2 H5 x := fun x hx => by
        rw [hxs] at hx
        simp only [List.mem_cons, List.not_mem_nil, or_false] at hx
        rcases hx with rfl | rfl | rfl | rfl | rfl | rfl | rfl | rfl
        · exact ⟨_, .str _ (by rw [Str.length_append]; omega)⟩
        · exact ⟨_, .str _ (by omega)⟩
        · exact ⟨_, .str _ (by show 0 ≤ 1000; decide)⟩
        · exact ⟨_, .str _ (by show 3 ≤ 1000; decide)⟩
        · exact ⟨_, .str _ (by show 3 ≤ 1000; decide)⟩
        · exact ⟨_, .str _ (by show 4 ≤ 1000; decide)⟩
        · exact ⟨_, .str _ (by show 4 ≤ 1000; decide)⟩
        · exact ⟨_, .str _ (by rw [Str.length_append]; show z.length + 1 ≤ 1000; omega)⟩
      have hx8 : xs.length = 8 := by rw [hxs]; rfl
      have ex : xs[M]? = some (xs[M]'(by omega)) := List.getElem?_eq_getElem (by omega)
      exact ⟨_, rfl, Z, _, _, _, rfl, rfl, SqL.of eZ, atI_nat ex, q _ _ ((hp4.same sZ).mono (by omega)) (k04.trans (Same.keep sZ)) (all _ (List.mem_of_getElem? ex))⟩
    · refine ⟨_, rfl, (by show 1 ≤ sizeLine; decide), fun y ny => ?_⟩
      have vy : TkV B2 (upd H4 y (.tup [.str z])) (.ref y) := .tup (by show 1 ≤ 300; decide) (fun v hv => by
        rw [List.mem_singleton.mp hv]
        exact ⟨_, .str _ (by omega)⟩) ny
      have sy : Same H4 (upd H4 y (.tup [.str z])) := same_new (Same.refl _) ny
      generalize upd H4 y (.tup [.str z]) = H5 at vy sy
      refine ⟨_, rfl, (by show 1 ≤ sizeLine; decide), fun g ng => ?_⟩
      have vg : TkV B2 (upd H5 g (.lst [.str z])) (.ref g) := .lst upd_same
      have sg : Same H5 (upd H5 g (.lst [.str z])) := same_new (Same.refl _) ng
      generalize upd H5 g (.lst [.str z]) = H6 at vg sg
      refine ⟨_, rfl, z, rfl, small_line (by omega), ?_⟩
      refine fun d nd => ?_
      have vd : TkV B2 (upd H6 d (.dK [])) (.ref d) := ⟨.oth, .dic upd_same⟩
      have sd : Same H6 (upd H6 d (.dK [])) := same_new (Same.refl _) nd
      show tCons _ _ _ (upd H6 d (.dK [])) _
      generalize upd H6 d (.dK []) = H7 at vd sd
      refine ⟨Nat.zero_le _, fun u nu => ?_⟩
      have vu : TkV B2 (upd H7 u (.tup [])) (.ref u) := .tup (Nat.zero_le _) (fun v hv => by cases hv) nu
      have su : Same H7 (upd H7 u (.tup [])) := same_new (Same.refl _) nu
      show tCons _ _ _ (upd H7 u (.tup [])) _
      generalize upd H7 u (.tup []) = H8 at vu su
      refine ⟨_, rfl, ?_⟩
      dsimp only [tNoPart]
      refine ⟨_, rfl, z, rfl, small_line (by omega), (by show 8 ≤ sizeLine; decide), fun L nL => ?_⟩
      have hc1 := cl none (some 1)
      generalize cutS z none (some 1) = s1 at hc1 ⊢
      obtain ⟨xs, hxs⟩ : ∃ xs, xs = [V.ref y, .ref g, .non, .int (z.length : Nat), .ref d, .bl true, .ref u, .str s1] := ⟨_, rfl⟩
      have all : ∀ x ∈ xs, TkV B2 H8 x := fun x hx => by
        rw [hxs] at hx
        simp only [List.mem_cons, List.not_mem_nil, or_false] at hx
        rcases hx with rfl | rfl | rfl | rfl | rfl | rfl | rfl | rfl
        · exact vy.mono (Kinds.same ((sg.trans sd).trans su))
        · exact vg.mono (Kinds.same (sd.trans su))
        · exact ⟨_, .non⟩
        · exact ⟨_, .int _ (by omega) (by omega)⟩
        · exact vd.mono (Kinds.same su)
        · exact ⟨_, .bl _⟩
        · exact vu
        · exact ⟨_, .str _ (by omega)⟩
      have hx8 : xs.length = 8 := by rw [hxs]; rfl
      have sL : Same H8 (upd H8 L (.lst [V.ref y, .ref g, .non, .int (z.length : Nat), .ref d, .bl true, .ref u, .str s1])) := same_new (Same.refl _) nL
      have eL : upd H8 L (.lst [V.ref y, .ref g, .non, .int (z.length : Nat), .ref d, .bl true, .ref u, .str s1]) L = some (.lst xs) := by
        rw [hxs]
        exact upd_same
      generalize upd H8 L (.lst [V.ref y, .ref g, .non, .int (z.length : Nat), .ref d, .bl true, .ref u, .str s1]) = H9 at sL eL
      have s49 := (((sy.trans sg).trans sd).trans su).trans sL
      have ex : xs[M]? = some (xs[M]'(by omega)) := List.getElem?_eq_getElem (by omega)
      obtain ⟨t', ht'⟩ := all _ (List.mem_of_getElem? ex)
      exact ⟨_, rfl, L, _, _, _, rfl, rfl, SqL.of eL, atI_nat ex, q _ _ ((hp4.same s49).mono (by omega)) (k04.trans (Same.keep s49)) ⟨t', ht'.mono (Kinds.same sL)⟩⟩
theorem ok__law_otherwise {fT fN fU fV f : Addr} {fdT fdN fdU fdV fd : FuncData} (F : Fun K "_law_otherwise" "_law_otherwise" s__law_otherwise f fd) (gs : mg "_law_otherwise" = some (.ref f)) (bs : Binds K fd P__law_otherwise []) (bi : Bi mg) (C__law_pick : Cal P w K mg base "_law_pick" P__law_pick 1 spTakeC fT fdT) (C__law_other_number : Cal P w K mg base "_law_other_number" P__law_other_number 2 spOtherN54 fN fdN) (C__law_other_tuple : Cal P w K mg base "_law_other_tuple" P__law_other_tuple 2 spOtherT54 fU fdU) (C__law_other_text : Cal P w K mg base "_law_other_text" P__law_other_text 3 spOtherS54 fV fdV) : ∀ n : Nat, FnOk P w K mg base CX0 (n + 4) f fd P__law_otherwise (spOther54 n)
  | 0 => ⟨fun vs H Q E h => by
      obtain ⟨B, p, T, v, t, rfl, _⟩ := h
      rfl, fun A outer s H args us vs Q E _ _ _ _ h => by
      obtain ⟨B, p, T, v, t, rfl, _, _, _, _, h0, _⟩ := h
      exact absurd h0 (Nat.not_lt_zero _)⟩
  | n + 1 => by
    have C__law_otherwise : Cal P w K mg base "_law_otherwise" P__law_otherwise (n + 4) (spOther54 n) f fd := ⟨ok__law_otherwise F gs bs bi C__law_pick C__law_other_number C__law_other_tuple C__law_other_text n, gs, F.kp, bs⟩
    refine F.ok sc__law_otherwise (fun vs H Q E h => ?_) (fun cdv A outer s H vs Q E hr h => ?_)
    · obtain ⟨B, p, T, v, t, rfl, _⟩ := h
      rfl
    · obtain ⟨B, p, T, v, t, rfl, hp, hT, hv, it, hd, hn10, hB0, q⟩ := h
      obtain ⟨B2, hB2⟩ : ∃ B2 : Int, B2 = 2 * B + 100 := ⟨_, rfl⟩
      have hu64 := hr.units
      refine ⟨_, (pss_cons (ps_set (i := 2) sc__law_otherwise.nd rfl (.inl rfl) (pe_call (C__law_pick.G.mono (by omega)) hr (by rfl) C__law_pick.g C__law_pick.kp C__law_pick.b .nil pass0 (pa_cons (pv 0) (pa_cons pe_int pa_nil))))
    (C8.pss_cut (ps_if (pw_and (pt_val (pe_callB call_isi (by rfl) bi.m_isinstance (by decide +kernel) (pa_cons (pv 1) (pa_cons (pe_bltn (v := .ty "tuple") (by rfl) bi.m_tuple (by decide +kernel) rfl) pa_nil)))) (pw_and (pt_cmpR (op_neE hu64) (pv 1) (pe_tup pa_nil) (nomark _)) (pw_and1 (pt_cmpR op_gt (pv 2) pe_int (nomark _))))).pt
      (pss_cons (ps_set (i := 3) sc__law_otherwise.nd rfl (.inl rfl) (pe_call (C__law_pick.G.mono (by omega)) hr (by rfl) C__law_pick.g C__law_pick.kp C__law_pick.b .nil pass0 (pa_cons (pv 0) (pa_cons (pe_callB call_len_seq (by rfl) bi.m_len (by decide +kernel) (pa_cons (pv 1) pa_nil)) pa_nil))))
        (pss_one (ps_ret (pe_op op_catA (pe_op op_catA (pe_slice sl_tupA (pv 1) po_none (po_some (pv 3))) (pe_tup (pa_cons (pe_call (C__law_otherwise.G.mono (by omega)) hr (by rfl) C__law_otherwise.g C__law_otherwise.kp C__law_otherwise.b .nil pass0 (pa_cons (pv 0) (pa_cons (pe_ix ix_tup (pv 1) (pv 3) (fun _ _ => rfl)) pa_nil))) pa_nil))) (pe_slice sl_tupA (pv 1) (po_some (pe_op op_add (pv 3) pe_int)) po_none)))))
      pss_nil)
    (pss_cons (ps_if (pt_val (pe_callB call_isi (by rfl) bi.m_isinstance (by decide +kernel) (pa_cons (pv 1) (pa_cons (pe_bltn (v := .ty "tuple") (by rfl) bi.m_tuple (by decide +kernel) rfl) pa_nil))))
      (pss_one (ps_ret (pe_call (C__law_other_tuple.G.mono (by omega)) hr (by rfl) C__law_other_tuple.g C__law_other_tuple.kp C__law_other_tuple.b .nil pass0 (pa_cons (pv 0) (pa_cons (pv 1) pa_nil)))))
      pss_nil)
    (pss_one (ps_ret (pe_ifExp (pt_val (pe_callB call_isi (by rfl) bi.m_isinstance (by decide +kernel) (pa_cons (pv 1) (pa_cons (pe_bltn (v := .ty "str") (by rfl) bi.m_str (by decide +kernel) rfl) pa_nil)))) (pe_call (C__law_other_text.G.mono (by omega)) hr (by rfl) C__law_other_text.g C__law_other_text.kp C__law_other_text.b .nil pass0 (pa_cons (pv 0) (pa_cons (pv 1) pa_nil))) (pe_call (C__law_other_number.G.mono (by omega)) hr (by rfl) C__law_other_number.g C__law_other_number.kp C__law_other_number.b .nil pass0 (pa_cons (pv 0) (pa_cons (pv 1) pa_nil))))))))), ?_⟩
      refine ⟨_, rfl, p, T, _, rfl, hp, by omega, ⟨by decide, by decide⟩, fun d H0 d0 d1 hp0 k0 => ?_⟩
      have hv0 := hv.mono (Kinds.keep k0 hp hp0)
      refine ⟨fun σ' H' => σ' = [some (.ref p), some v, some (.int d), none] ∧ PotC H' p (T + 1) ∧ Keep p p H H', ?_, fun σ' H' hm => ?_⟩
      · obtain ⟨T1, h1, k1⟩ := isi_tup (K := K) hv0.th
        refine ⟨_, rfl, _, _, _, _, _, rfl, ClsV.ty "tuple", h1, k1, _, rfl, ?_⟩
        cases it with
        | @int m m0 m1 => exact iteF ⟨rfl, hp0, k0⟩
        | @str z hz => exact iteF ⟨rfl, hp0, k0⟩
        | @tup ts hl60 hts =>
          refine iteT ?_
          obtain ⟨a, vs, rfl, ea, hvl, hh⟩ := hv.tupE
          have tvs : TksAt B2 H vs := ⟨ts, hvl, fun i v t e1 e2 => (hh i v t e1 e2).up (by omega)⟩
          have fin : ∀ (U : Nat) (H' : Hp) (u : Addr) (ws : List V), PotC H' p U → U ≤ T + 8 * (n + 1) → Keep p p H H' → H' u = some (.tup ws) → TksAt B2 H' ws → ws.length ≤ 300 → Q (.ref u) H' := fun U H' u ws h1 h2 h3 h4 h5 h6 => by
            have ht' := h5.tup h6 h4
            rw [hB2] at ht'
            exact q _ _ (h1.mono h2) h3 ht'
          refine ⟨_, rfl, Nat.zero_le _, fun z nz => ⟨a, z, vs, rfl, rfl, SqT.of ((same_new (Same.refl _) nz) _ _ (k0.tupsC hp _ _ ea)), SqT.of upd_same, _, rfl, ?_⟩⟩
          have sz : Same H0 (upd H0 z (.tup [])) := same_new (Same.refl _) nz
          generalize upd H0 z (.tup []) = H2 at sz
          have hp2 := hp0.same sz
          have k02 : Keep p p H H2 := k0.trans (Same.keep sz)
          refine ite2 (fun e => ?_) (fun e => ⟨rfl, hp2, k02⟩)
          have hne : 1 ≤ vs.length := by
            cases vs with
            | nil => cases e
            | cons v r => exact Nat.succ_le_succ (Nat.zero_le _)
          refine ⟨_, rfl, _, _, rfl, rfl, _, rfl, ite2 (fun e2 => ?_) (fun e2 => ⟨rfl, hp2, k02⟩)⟩
          have ea2 := k02.tupsC hp _ _ ea
          -- one within it is bent
          refine ⟨_, rfl, _, rfl, a, vs, rfl, .inr (SqT.of ea2), p, _, _, rfl, hp2, by omega, wdiv (by omega) (by omega), fun at' H3 at0 at1 hp3 k3 => ?_⟩
          have at1 : at' < (vs.length : Int) := at1
          obtain ⟨N, rfl⟩ : ∃ N : Nat, at' = N := ⟨at'.toNat, by omega⟩
          have hNv : N < vs.length := by omega
          have hNt : N < ts.length := by omega
          have ev : vs[N]? = some vs[N] := List.getElem?_eq_getElem hNv
          have et : ts[N]? = some ts[N] := List.getElem?_eq_getElem hNt
          have k03 := k02.trans k3
          have kin3 : Kinds H H3 := Kinds.keep k03 hp hp3
          have ea3 := k03.tupsC hp _ _ ea
          refine ⟨_, rfl, _, rfl, _, rfl, slK (N := 60) ea3 (tvs.mono kin3) (by omega) fun H4 x1 ws1 s4 ex1 tx1 hx1 => ?_⟩
          have ea4 := s4 _ _ ea3
          have hp4 := hp3.same s4
          have k04 := k03.trans (Same.keep s4)
          have kin4 := kin3.trans (Kinds.same s4)
          refine ⟨_, rfl, _, rfl, _, rfl, a, _, _, _, rfl, rfl, SqT.of ea4, atI_nat (j := N) ev, ?_⟩
          refine ⟨B, p, _, vs[N], ts[N], rfl, hp4, by omega, (hh N _ _ ev et).mono kin4, hts _ (List.mem_of_getElem? et), ?_, by omega, hB0, fun H5 u hp5 k5 hu => ?_⟩
          · have h1 := deepK_mem (List.mem_of_getElem? et)
            have h2 : Tk.deepAll ts + 1 < n + 1 := hd
            omega
          rw [← hB2] at hu
          have kin5 : Kinds H4 H5 := Kinds.keep k5 hp4 hp5
          have t45 := k5.tupsC hp4
          refine ⟨(by show 1 ≤ sizeLine; decide), fun y ny => ?_⟩
          have sy : Same H5 (upd H5 y (.tup [u])) := same_new (Same.refl _) ny
          have ey : upd H5 y (.tup [u]) y = some (.tup [u]) := upd_same
          generalize upd H5 y (.tup [u]) = H6 at sy ey
          have kin46 := kin5.trans (Kinds.same sy)
          refine catK (sy _ _ (t45 _ _ ex1)) ey (tx1.mono kin46) ((TksAt.one hu.choose_spec).mono (Kinds.same sy)) (by show ws1.length + 1 ≤ 1000; omega) fun H7 x2 s7 ex2 tx2 => ?_
          have s57 := sy.trans s7
          have k07 : Keep p p H H7 := (k04.trans k5).trans (Same.keep s57)
          have hp7 := hp5.same s57
          have kin7 : Kinds H H7 := Kinds.keep k07 hp hp7
          have ea7 := k07.tupsC hp _ _ ea
          refine ⟨_, rfl, _, rfl, _, _, rfl, rfl, _, rfl, ?_⟩
          dsimp only [tNoPart]
          refine slK (N := 60) ea7 (tvs.mono kin7) (by omega) fun H8 x3 ws3 s8 ex3 tx3 hx3 => ?_
          refine catK (s8 _ _ ex2) ex3 (tx2.mono (Kinds.same s8)) tx3 ?_ fun H9 x4 s9 ex4 tx4 => ?_
          · rw [List.length_append]
            show ws1.length + 1 + ws3.length ≤ 1000
            omega
          exact fin _ H9 x4 _ ((hp7.same s8).same s9) (by omega) (k07.trans (Same.keep (s8.trans s9))) ex4 tx4 (by simp only [List.length_append, List.length_cons, List.length_nil]; omega)
      · obtain ⟨rfl, hp1, k1⟩ := hm
        have hv1 := hv.mono (Kinds.keep k1 hp hp1)
        obtain ⟨T1, h1, kt⟩ := isi_tup (K := K) hv1.th
        refine ⟨_, rfl, _, _, _, _, _, rfl, ClsV.ty "tuple", h1, kt, _, rfl, ?_⟩
        obtain ⟨T2, h2, k2⟩ := isi_str (K := K) hv1
        cases it with
        | @int m m0 m1 =>
          refine iteF ?_
          refine ⟨_, rfl, _, _, _, _, _, rfl, ClsV.ty "str", h2, k2, _, rfl, iteF ?_⟩
          cases hv with
          | int _ b0 b1 => exact ⟨_, rfl, _, rfl, B, p, _, m, rfl, hp1, by omega, b0, b1, m0, m1, hB0, fun H2 u hp2 k2 hu => q _ _ (hp2.mono (by omega)) (k1.trans k2) hu⟩
        | @str z hz =>
          refine iteF ?_
          refine ⟨_, rfl, _, _, _, _, _, rfl, ClsV.ty "str", h2, k2, _, rfl, iteT ?_⟩
          cases hv with
          | str _ _ => exact ⟨_, rfl, _, rfl, B, p, _, z, rfl, hp1, by omega, hz, hB0, fun H2 u hp2 k2 hu => q _ _ (hp2.mono (by omega)) (k1.trans k2) hu⟩
        | @tup ts hl60 hts =>
          refine iteT ?_
          exact ⟨_, rfl, _, rfl, B, p, _, v, ts, rfl, hp1, by omega, hv1, hl60, hB0, fun H2 u hp2 k2 hu => q _ _ (hp2.mono (by omega)) (k1.trans k2) hu⟩
theorem ok_law {fB fO fN fE fW fR f : Addr} {fdB fdO fdN fdE fdW fdR fd : FuncData} (F : Fun K "law" "law" s_law f fd) (bi : Bi mg)
    (C__law_pot : Cal P w K mg base "_law_pot" P__law_pot 1 (spBeginC K) fB fdB) (C__law_pick : Cal P w K mg base "_law_pick" P__law_pick 1 spTakeC fO fdO) (C__law_number : Cal P w K mg base "_law_number" P__law_number 3 spNumC fN fdN) (C__law_entry : Cal P w K mg base "_law_entry" P__law_entry 5 spEntry54 fE fdE)
    (C__law_otherwise : Cal P w K mg base "_law_otherwise" P__law_otherwise 11 (spOther54 7) fW fdW) (C__law_right : Cal P w K mg base "_law_right" P__law_right 7 spRight54 fR fdR) : FnOk P w K mg base CX0 12 f fd P_law (spLaw K) := by
  refine F.ok sc_law (fun vs H Q E h => ?_) (fun cdv A outer s H vs Q E hr h => ?_)
  · obtain ⟨a, ns, rfl, _⟩ := h
    rfl
  · obtain ⟨a, ns, rfl, hS, hn, q⟩ := h
    refine ⟨_, (pss_cons (ps_for PassesOwn.never rfl (pi_range1 rfl bi.m_range (pa_cons (pe_callB (call_max2 rfl) (by rfl) bi.m_max (by decide +kernel) (pa_cons pe_int (pa_cons (pe_callB (call_min2 rfl) (by rfl) bi.m_min (by decide +kernel) (pa_cons pe_int (pa_cons (pe_callB call_len_seq (by rfl) bi.m_len (by decide +kernel) (pa_cons (pv 0) pa_nil)) pa_nil))) pa_nil))) pa_nil)) (pg_name (i := 1) sc_law.nd rfl (.inl rfl))
      (pss_cons (ps_set (i := 2) sc_law.nd rfl (.inr rfl) (pe_call (C__law_pot.G.mono (by decide)) hr (by rfl) C__law_pot.g C__law_pot.kp C__law_pot.b .nil pass0 (pa_cons (pv 0) (pa_cons (pv 1) pa_nil))))
        (pss_cons (ps_par (i := 3) (j := 4) rfl sc_law.nd rfl rfl (by decide) rfl rfl (pa_cons (pe_cmpR op_gt (pe_call (C__law_pick.G.mono (by decide)) hr (by rfl) C__law_pick.g C__law_pick.kp C__law_pick.b .nil pass0 (pa_cons (pv 2) (pa_cons pe_int pa_nil))) pe_int (nomark _)) (pa_cons (pe_ix ix_list (pe_lst (pa_cons pe_int (pa_cons pe_int (pa_cons pe_int (pa_cons pe_int (pa_cons pe_int (pa_cons pe_int pa_nil))))))) (pe_call (C__law_pick.G.mono (by decide)) hr (by rfl) C__law_pick.g C__law_pick.kp C__law_pick.b .nil pass0 (pa_cons (pv 2) (pa_cons pe_int pa_nil))) (fun _ _ => rfl)) pa_nil)) rfl)
        (pss_cons (ps_set (i := 5) sc_law.nd rfl (.inl rfl) (pe_tup (pa_cons (pe_call (C__law_number.G.mono (by decide)) hr (by rfl) C__law_number.g C__law_number.kp C__law_number.b .nil pass0 (pa_cons (pv 2) pa_nil)) (pa_cons (pe_call (C__law_number.G.mono (by decide)) hr (by rfl) C__law_number.g C__law_number.kp C__law_number.b .nil pass0 (pa_cons (pv 2) pa_nil)) (pa_cons (pe_callTy call_tuple_of (by rfl) bi.m_tuple (by decide +kernel) (pa_cons (pe_lc (own := [("_law_j", 8)]) (g := (gName 8)) (tt := tYes) rfl sc_law.nd (pi_range1 rfl bi.m_range (pa_cons (pv 4) pa_nil)) (blkOk_by (N := N_law) (sc := defScope s_law) (by decide +kernel)) (fun _ _ _ _ _ => (pg_name (i := 8) sc_law.nd rfl (.inl rfl) (.inr rfl))) (fun _ _ _ _ _ => pts_nil) (fun _ _ _ _ _ => (pe_call (C__law_entry.G.mono (by decide)) hr (by rfl) C__law_entry.g C__law_entry.kp C__law_entry.b .nil pass0 (pa_cons (pv 2) pa_nil)))) pa_nil)) pa_nil)))))
        (C8.pss_cut (ps_set (i := 6) sc_law.nd rfl (.inl rfl) (pe_ifExp (pt_val (pv 3)) (pe_call (C__law_otherwise.G.mono (by decide)) hr (by rfl) C__law_otherwise.g C__law_otherwise.kp C__law_otherwise.b .nil pass0 (pa_cons (pv 2) (pa_cons (pv 5) pa_nil))) (pv 5)))
        (pss_cons (ps_set (i := 7) sc_law.nd rfl (.inl rfl) (pe_ix ix_list (pe_lst (pa_cons pe_non (pa_cons pe_bl (pa_cons pe_int (pa_cons pe_str (pa_cons (pe_lst pa_nil) (pa_cons (pe_tup pa_nil) (pa_cons pe_dnewK (pa_cons (pe_tup (pa_cons pe_str pa_nil)) (pa_cons (pe_tup (pa_cons pe_str (pa_cons pe_int pa_nil))) (pa_cons (pe_ix ix_tup (pv 5) pe_int (fun _ _ => rfl)) pa_nil))))))))))) (pe_call (C__law_pick.G.mono (by decide)) hr (by rfl) C__law_pick.g C__law_pick.kp C__law_pick.b .nil pass0 (pa_cons (pv 2) (pa_cons pe_int pa_nil))) (fun _ _ => rfl)))
        (pss_one (ps_if (pt_not (pt_val (pe_callB (cr_all rfl) (by rfl) bi.m_all (by decide +kernel) (pa_cons (pe_lc (own := [("_law_thing", 9)]) (g := (gName 9)) (tt := tYes) rfl sc_law.nd (pi_tup (pe_tup (pa_cons (pv 6) (pa_cons (pv 5) (pa_cons (pv 7) (pa_cons (pv 6) pa_nil)))))) (blkOk_by (N := N_law) (sc := defScope s_law) (by decide +kernel)) (fun _ _ _ _ _ => (pg_name (i := 9) sc_law.nd rfl (.inl rfl) (.inr rfl))) (fun _ _ _ _ _ => pts_nil) (fun _ _ _ _ _ => (pe_call (C__law_right.G.mono (by decide)) hr (by rfl) C__law_right.g C__law_right.kp C__law_right.b .nil pass0 (pa_cons (pv 9) pa_nil)))) pa_nil))))
          (pss_one (ps_ret pe_bl))
          pss_nil))))))))
    (pss_one (ps_ret pe_bl))), ?_⟩
    refine ⟨_, rfl, a, _, rfl, .inl hS, _, _, rfl, _, _, rfl, _, rfl, ?_, ?_, ?_⟩
    · rw [List.length_map]
      split <;> split <;> omega
    · rw [List.length_map]
      split <;> split <;> omega
    generalize hN : Int.toNat _ = N
    have hN8 : N ≤ 8 := by
      rw [← hN, List.length_map]
      split <;> split <;> omega
    clear hN
    refine for_range (n := N) (fun i σ' H' => ∃ (x1 x2 x3 x4 x5 x6 x7 x8 x9 : Option V), σ' = [some (.ref a), x1, x2, x3, x4, x5, x6, x7, x8, x9] ∧ Same H H') ⟨_, _, _, _, _, _, _, _, _, rfl, Same.refl H⟩ (fun i σ' H' hi hm => ?_) (fun σ' H' hm => ?_)
    · obtain ⟨x1, x2, x3, x4, x5, x6, x7, x8, x9, rfl, sH⟩ := hm
      refine ⟨_, rfl, _, rfl, a, ns, 0 + i, rfl, sH.seq hS, hn, by omega, by omega, fun H1 p s1 np hp => ?_⟩
      refine ⟨_, rfl, p, _, _, rfl, hp, by decide, ⟨by decide, by decide⟩, fun d H2 d0 d1 hp2 k2 => ⟨_, _, rfl, rfl, ?_⟩⟩
      refine ⟨(by show 6 ≤ sizeLine; decide), fun z nz => ?_⟩
      refine ⟨_, rfl, p, _, _, rfl, hp2.new nz, by decide, ⟨by decide, by decide⟩, fun e H3 e0 e1 hp3 k3 => ?_⟩
      have nzp := hp2.fresh nz
      have e1 : e < 6 := e1
      obtain ⟨n, hn21, en⟩ : ∃ n : Nat, n ≤ 21 ∧ atI [V.int 0, V.int 1, V.int 2, V.int 3, V.int 20, V.int 21] e = some (.int n) := by
        have hw : e = 0 ∨ e = 1 ∨ e = 2 ∨ e = 3 ∨ e = 4 ∨ e = 5 := by omega
        rcases hw with rfl | rfl | rfl | rfl | rfl | rfl
        · exact ⟨0, by omega, rfl⟩
        · exact ⟨1, by omega, rfl⟩
        · exact ⟨2, by omega, rfl⟩
        · exact ⟨3, by omega, rfl⟩
        · exact ⟨20, by omega, rfl⟩
        · exact ⟨21, by omega, rfl⟩
      refine ⟨z, _, e, _, rfl, rfl, SqL.of (k3.at nzp upd_same), en, _, _, rfl, ?_⟩
      have k13 : Keep p p H1 H3 := (k2.new nz).trans k3
      refine ⟨_, rfl, p, _, rfl, hp3, by omega, fun n1 H4 hn1 hp4 k4 => ?_⟩
      refine ⟨_, rfl, p, _, rfl, hp4, by omega, fun n2 H5 hn2 hp5 k5 => ?_⟩
      refine ⟨_, rfl, _, rfl, by omega, by omega, fun D nD => ?_⟩
      rw [Int.toNat_natCast]
      have nDp := hp5.fresh nD
      have k15 := (k13.trans k4).trans k5
      refine lc_range (n := n) (fun i H7 => ∃ as : List Addr, PotC H7 p (1 + 1 + 20 + 400 * i) ∧ Keep p p H5 H7 ∧ H7 D = some (.lst (as.map V.ref)) ∧ as.length = i ∧ ∀ a ∈ as, DrawnK H7 (.ref a) 4) ⟨[], (hp5.new nD).mono (by omega), Keep.refl.new nD, upd_same, rfl, fun a ha => by cases ha⟩ (fun i H7 hi hm => ?_) (fun H7 hm => ?_)
      · obtain ⟨as, hp7, k7, eD, hal, hd⟩ := hm
        refine ⟨rfl, yesIte ?_⟩
        refine ⟨_, rfl, p, _, rfl, hp7, by omega, fun H8 b hb hp8 k8 => ?_⟩
        have eD8 := k8.at nDp eD
        have kput := Kinds.put (ys := as.map V.ref ++ [.ref b]) eD8
        refine ⟨_, eD8, by rw [List.length_map]; exact small1000 (by omega), as ++ [b], (hp8.other nDp).mono (by omega), (k7.trans k8).mine nD, by rw [upd_same, List.map_append]; rfl, by rw [List.length_append, hal]; rfl, fun x hx => ?_⟩
        rcases List.mem_append.mp hx with h | h
        · exact ((hd x h).mono (Kinds.keep k8 hp7 hp8)).mono kput
        · rw [List.mem_singleton.mp h]
          exact hb.mono kput
      obtain ⟨as, hp7, k7, eD, hal, hd⟩ := hm
      refine ⟨D, _, rfl, .inl ⟨SqL.of eD, fun u nu => ?_⟩⟩
      have su : Same H7 (upd H7 u (.tup (as.map V.ref))) := same_new (Same.refl _) nu
      have eu : upd H7 u (.tup (as.map V.ref)) u = some (.tup (as.map V.ref)) := upd_same
      generalize upd H7 u (.tup (as.map V.ref)) = H8 at su eu ⊢
      have du : DrawnK H8 (.ref u) 5 := DrawnK.tup (n := 4) eu (by rw [List.length_map]; omega) fun v hv => by
        obtain ⟨a, ha, rfl⟩ := List.mem_map.mp hv
        exact (hd a ha).mono (Kinds.same su)
      refine ⟨(by show 3 ≤ sizeLine; decide), fun g ng => ?_⟩
      have sg : Same H8 (upd H8 g (.tup [.int n1, .int n2, .ref u])) := same_new (Same.refl _) ng
      have eg : upd H8 g (.tup [.int n1, .int n2, .ref u]) g = some (.tup [.int n1, .int n2, .ref u]) := upd_same
      generalize upd H8 g (.tup [.int n1, .int n2, .ref u]) = H9 at sg eg
      have dg : DrawnK H9 (.ref g) 6 := DrawnK.tup (n := 5) eg (by show 3 ≤ 60; decide) fun v hv => by
        simp only [List.mem_cons, List.not_mem_nil, or_false] at hv
        rcases hv with rfl | rfl | rfl
        · exact DrawnK.int hn1
        · exact DrawnK.int hn2
        · exact du.mono (Kinds.same sg)
      have hp9 := (hp7.same su).same sg
      have k19 := (k15.trans k7).trans (Same.keep (su.trans sg))
      have s9 : Same H' H9 := k19.from s1 np
      obtain ⟨tg, hg, ig, dpg⟩ := dg
      have hp9 : PotC H9 p 9000 := hp9.mono (by omega)
      refine ⟨fun σ' H4 => ∃ (vf : V), σ' = [some (.ref a), some (.int (0 + i)), some (.ref p), some (.bl (decide (0 < d))), some (.int n), some (.ref g), some vf, x7, x8, x9] ∧ PotC H4 p 9100 ∧ Same H' H4 ∧ TkV topB H4 vf ∧ Kinds H9 H4 ∧ Keep p p H9 H4, ?_, fun σ' H4 hm => ?_⟩
      · refine ⟨_, rfl, _, rfl, ite2 (fun e => ?_) (fun e => ?_)⟩
        · refine ⟨_, rfl, _, rfl, 2 ^ 200, p, _, _, tg, rfl, hp9, by decide, hg, ig, by omega, by decide, by decide, fun H4 v hp4 k4 hv => ?_⟩
          obtain ⟨tv, hv⟩ := hv
          exact ⟨v, rfl, hp4.mono (by decide), (k19.trans k4).from s1 np, ⟨tv, hv.up (by decide)⟩, Kinds.keep k4 hp9 hp4, k4⟩
        · exact ⟨_, rfl, _, rfl, hp9.mono (by decide), s9, ⟨tg, hg.up (by decide)⟩, Kinds.same (Same.refl _), Keep.refl⟩
      obtain ⟨vf, rfl, hp4, s4, hf, kin4, k94⟩ := hm
      -- an odd thing
      have eg4 : H4 g = some (.tup [.int n1, .int n2, .ref u]) := kin4.1 _ _ eg
      have hg4 : TkV topB H4 (.ref g) := ⟨tg, (hg.up (by decide)).mono kin4⟩
      have hu4 : TkV topB H4 (.ref u) := by
        obtain ⟨tu, h1, _, _⟩ := du
        exact ⟨tu, (h1.up (by decide)).mono ((Kinds.same sg).trans kin4)⟩
      refine ⟨Nat.zero_le _, fun y1 m1 => ?_⟩
      have v1 : TkV topB (upd H4 y1 (.lst [])) (.ref y1) := .lst upd_same
      have q1 : Same H4 (upd H4 y1 (.lst [])) := same_new (Same.refl _) m1
      generalize upd H4 y1 (.lst []) = G1 at v1 q1
      refine ⟨Nat.zero_le _, fun y2 m2 => ?_⟩
      have v2 : TkV topB (upd G1 y2 (.tup [])) (.ref y2) := .tup (Nat.zero_le _) (fun v hv => by cases hv) m2
      have q2 : Same G1 (upd G1 y2 (.tup [])) := same_new (Same.refl _) m2
      generalize upd G1 y2 (.tup []) = G2 at v2 q2
      refine fun y3 m3 => ?_
      have v3 : TkV topB (upd G2 y3 (.dK [])) (.ref y3) := ⟨.oth, .dic upd_same⟩
      have q3 : Same G2 (upd G2 y3 (.dK [])) := same_new (Same.refl _) m3
      show tCons _ _ _ (upd G2 y3 (.dK [])) _
      generalize upd G2 y3 (.dK []) = G3 at v3 q3
      refine ⟨(by show 1 ≤ sizeLine; decide), fun y4 m4 => ?_⟩
      have v4 : TkV topB (upd G3 y4 (.tup [.str "lay"])) (.ref y4) := .tup (by show 1 ≤ 300; decide) (fun v hv => by
        rw [List.mem_singleton.mp hv]
        exact ⟨_, .str _ (by show 3 ≤ 1000; decide)⟩) m4
      have q4 : Same G3 (upd G3 y4 (.tup [.str "lay"])) := same_new (Same.refl _) m4
      generalize upd G3 y4 (.tup [.str "lay"]) = G4 at v4 q4
      refine ⟨(by show 2 ≤ sizeLine; decide), fun y5 m5 => ?_⟩
      have v5 : TkV topB (upd G4 y5 (.tup [.str "snap", .int 0])) (.ref y5) := .tup (by show 2 ≤ 300; decide) (fun v hv => by
        simp only [List.mem_cons, List.not_mem_nil, or_false] at hv
        rcases hv with rfl | rfl
        · exact ⟨_, .str _ (by show 4 ≤ 1000; decide)⟩
        · exact ⟨_, .int _ (by decide) (by decide)⟩) m5
      have q5 : Same G4 (upd G4 y5 (.tup [.str "snap", .int 0])) := same_new (Same.refl _) m5
      generalize upd G4 y5 (.tup [.str "snap", .int 0]) = G5 at v5 q5
      have q15 := (((q1.trans q2).trans q3).trans q4).trans q5
      refine ⟨_, rfl, g, _, 2, _, rfl, rfl, SqT.of (q15 _ _ eg4), atI_nat (j := 2) rfl, (by show 10 ≤ sizeLine; decide), fun Z nZ => ?_⟩
      obtain ⟨xs, hxs⟩ : ∃ xs, xs = [V.non, .bl true, .int 0, .str "page", .ref y1, .ref y2, .ref y3, .ref y4, .ref y5, .ref u] := ⟨_, rfl⟩
      have all : ∀ x ∈ xs, TkV topB G5 x := fun x hx => by
        rw [hxs] at hx
        simp only [List.mem_cons, List.not_mem_nil, or_false] at hx
        rcases hx with rfl | rfl | rfl | rfl | rfl | rfl | rfl | rfl | rfl | rfl
        · exact ⟨_, .non⟩
        · exact ⟨_, .bl _⟩
        · exact ⟨_, .int _ (by decide) (by decide)⟩
        · exact ⟨_, .str _ (by show 4 ≤ 1000; decide)⟩
        · exact v1.mono (Kinds.same (((q2.trans q3).trans q4).trans q5))
        · exact v2.mono (Kinds.same ((q3.trans q4).trans q5))
        · exact v3.mono (Kinds.same (q4.trans q5))
        · exact v4.mono (Kinds.same q5)
        · exact v5
        · exact hu4.mono (Kinds.same q15)
      have hx10 : xs.length = 10 := by rw [hxs]; rfl
      have hp5' := hp4.same q15
      have nZp := hp5'.fresh nZ
      have hpZ := hp5'.new (o := .lst [V.non, .bl true, .int 0, .str "page", .ref y1, .ref y2, .ref y3, .ref y4, .ref y5, .ref u]) nZ
      have sZ : Same G5 (upd G5 Z (.lst [V.non, .bl true, .int 0, .str "page", .ref y1, .ref y2, .ref y3, .ref y4, .ref y5, .ref u])) := same_new (Same.refl _) nZ
      have eZ : upd G5 Z (.lst [V.non, .bl true, .int 0, .str "page", .ref y1, .ref y2, .ref y3, .ref y4, .ref y5, .ref u]) Z = some (.lst xs) := by
        rw [hxs]
        exact upd_same
      generalize upd G5 Z (.lst [V.non, .bl true, .int 0, .str "page", .ref y1, .ref y2, .ref y3, .ref y4, .ref y5, .ref u]) = G6 at hpZ sZ eZ
      refine ⟨_, rfl, p, _, _, rfl, hpZ, by decide, ⟨by decide, by decide⟩, fun o G7 o0 o1 hp7' k7' => ?_⟩
      have o1 : o < 10 := o1
      obtain ⟨M, rfl⟩ : ∃ M : Nat, o = M := ⟨o.toNat, by omega⟩
      have ex : xs[M]? = some (xs[M]'(by omega)) := List.getElem?_eq_getElem (by omega)
      have hod := all _ (List.mem_of_getElem? ex)
      refine ⟨Z, _, _, _, rfl, rfl, SqL.of (k7'.at nZp eZ), atI_nat ex, ?_⟩
      generalize xs[M]'(by omega) = vo at hod
      have kin7 : Kinds H4 G7 := (Kinds.same (q15.trans sZ)).trans (Kinds.keep k7' hpZ hp7')
      have ho7 := (hod.mono (Kinds.same sZ)).mono (Kinds.keep k7' hpZ hp7')
      have hf7 := hf.mono kin7
      have hg7 := hg4.mono kin7
      have s7 : Same H' G7 := ((k19.trans k94).trans ((Same.keep (q15.trans sZ)).trans k7')).from s1 np
      refine ⟨_, rfl, _, rfl, _, rfl, _, rfl, (by show 4 ≤ sizeLine; decide), fun L nL => ?_⟩
      have sL : Same G7 (upd G7 L (.tup [vf, .ref g, vo, vf])) := same_new (Same.refl _) nL
      have eL : upd G7 L (.tup [vf, .ref g, vo, vf]) L = some (.tup [vf, .ref g, vo, vf]) := upd_same
      generalize upd G7 L (.tup [vf, .ref g, vo, vf]) = G8 at sL eL
      have all : ∀ x ∈ [vf, V.ref g, vo, vf], TkV topB G8 x := fun x hx => by
        simp only [List.mem_cons, List.not_mem_nil, or_false] at hx
        rcases hx with rfl | rfl | rfl | rfl
        · exact hf7.mono (Kinds.same sL)
        · exact hg7.mono (Kinds.same sL)
        · exact ho7.mono (Kinds.same sL)
        · exact hf7.mono (Kinds.same sL)
      refine ⟨L, rfl, ⟨_, SqT.of eL⟩, fun J nJ => ?_⟩
      refine lc_tup (xs := [vf, V.ref g, vo, vf]) (fun j H3 => Same G8 H3 ∧ H3 J = some (.lst ((List.replicate j true).map V.bl))) ⟨same_new (Same.refl _) nJ, upd_same⟩ (fun j H3 hj hm => SqT.of (hm.1 _ _ eL)) (fun j x H3 hx hm => ?_) (fun H3 hm => ?_)
      · obtain ⟨s3, eJ⟩ := hm
        have hj : j < 4 := (List.getElem?_eq_some_iff.mp hx).1
        obtain ⟨t, ht⟩ := all x (List.mem_of_getElem? hx)
        refine ⟨rfl, yesIte ?_⟩
        refine ⟨_, rfl, x, t, rfl, ht.mono (Kinds.same s3), fun H5 s5 => ⟨_, s5 _ _ eJ, ?_, same_mine (s3.trans s5) nJ, ?_⟩⟩
        · rw [List.length_map, List.length_replicate]
          exact small1000 (by omega)
        · rw [upd_same, List.replicate_succ', List.map_append]
          rfl
      obtain ⟨s3, eJ⟩ := hm
      refine ⟨J, _, rfl, SqL.of eJ, _, rfl, ?_⟩
      rw [show (List.replicate [vf, V.ref g, vo, vf].length true).all id = true from rfl]
      exact iteNT ⟨_, _, _, _, _, _, _, _, _, rfl, sH.trans (s7.trans (sL.trans s3))⟩
    · exact q _
end
/-! ### the end of a law whose def is such a one -/
theorem lawG {P : Program} {w : World} {K : PySem.W.Frag} {mg mb : Str → Option Value} {k : Nat} {fa a : Addr} {fd : FuncData} {x : Str} {sp : Sp} {t : Shared} {ws : List Value} {ns : List Int} (kin : K.In t.heap) (gl : t.heap.Ns mainGlobals mg) (bl : t.heap.Ns builtinsNs mb)
    (bb : ∀ y : Str, y ≠ "__name__" → mb y = bootBuiltins y) (nol : t.heap.NoLimit) (gn : t.gens = #[]) (ea : t.heap.get? a = some { cls := .type "list", data := .seq ws.toArray }) (ia : IntsAre ws ns) (sz : ns.length ≤ sizeLine) (hr : Room k callerA)
    (F : ∀ bs : Heap, K.In bs → bs.Ns mainGlobals mg → FnG P w K mg bs k fa fd [x] sp) (bd : ∀ (s : Shared) (u : Value), BindsTo s fd ⟨[u], []⟩ [(x, u)]) (hs : ∀ H : Hp, SqL K H a (ns.map V.int) → sp [.ref a] H (fun v _ => v = .bl true) fun _ _ _ => False) :
    codeAny (model P w) callerA (.call (.ref fa) ⟨[.ref a], []⟩) (fun r s' => r = .ok (.ret (.bool true)) ∧ OldK t.heap s'.heap ∧ s'.os = t.os ∧ AllBare s'.gens) t := by
  have va := vals_ints ia
  have key : ∀ H : Hp, Only H → SqL K H a (ns.map V.int) → HOk P w H t.heap → (∀ b, H b ≠ none → b = a) → (H a ≠ none → K.lookup a = none) → codeAny (model P w) callerA (.call (.ref fa) ⟨[.ref a], []⟩)
      (fun r s' => r = .ok (.ret (.bool true)) ∧ OldK t.heap s'.heap ∧ s'.os = t.os ∧ AllBare s'.gens) t := fun H on sq hok only notK => by
    have free : ∀ {b : Addr} {o : Obj} {es : Array DictEntry} {n : Nat}, t.heap.get? b = some o → o.data = .dict es n → H b = none := fun {b o es n} e d => by
      rcases on b with z | ⟨ob, xs, z⟩
      · exact z
      · have e' : b = a := only b (by rw [z]; exact Option.some_ne_none _)
        rw [e', ea] at e
        cases e
        cases (show Data.seq ws.toArray _ = Data.dict es n from d)
    have nsB : ∀ {b : Addr} {m : Str → Option Value}, t.heap.Ns b m → (hidT t.heap H).Ns b m := fun ⟨o, es, n, e, d, r⟩ => ⟨o, es, n, hidT_get e (free e d), d, r⟩
    have kB : K.In (hidT t.heap H) := fun b o e => hidT_get (kin b o e) (by
      rcases on b with z | ⟨ob, xs, z⟩
      · exact z
      · have e' : b = a := only b (by rw [z]; exact Option.some_ne_none _)
        rw [e', notK (by rw [← e', z]; exact Option.some_ne_none _)] at e
        cases e)
    have md : Mod K mg (hidT t.heap H) := ⟨kB, nsB gl, ⟨mb, nsB bl, bb⟩, nol.elim fun mc z => ⟨mc, nsB z.1, z.2⟩⟩
    have e0 : Env0 P w K mg (hidT t.heap H) callerA [] t H := ⟨rfl, md, fun _ _ e => of_hidT e, Nat.le_of_eq (hidT_size _ _), trivial, (fun b hb => by cases hb), hok, .of_eq gn⟩
    refine codeAny_mono ((F _ kB (nsB gl)).goes callerA [] t H _ [.ref a] [.ref a] _ _ hr rfl e0 (bd t (.ref a)) (.cons rfl .nil) (hs H sq)) fun r s' h => ?_
    match r, h with
    | .error _, h => exact False.elim h
    | .ok .next, h => exact False.elim h
    | .ok .brk, h => exact False.elim h
    | .ok .cont, h => exact False.elim h
    | .ok (.ret u), h =>
      obtain ⟨v, H', eos, eb, un, ok', rv, q⟩ := h
      cases (show v = .bl true from q)
      cases (show u = Value.bool true from rv)
      refine ⟨rfl, OldK.of_keep fun b o e => ?_, eos, eb⟩
      rcases on b with z | ⟨ob, xs, z⟩
      · exact un.keep b o e z (fun y => by cases y) (fun y => by cases y)
      · obtain ⟨e1, _⟩ := hok b _ z
        obtain ⟨e2, _⟩ := ok' b _ (un.frzs b ob _ z)
        rw [e] at e1
        cases e1
        exact e2
  cases hk : K.lookup a with
  | some o =>
    have e := kin a o hk
    rw [ea] at e
    cases e
    exact key (fun _ => none) (fun _ => .inl rfl) (.inr ⟨_, ws.toArray, _, hk, rfl, rfl, rfl, (by rw [List.size_toArray, ia.length]; exact sz), by simpa using va⟩) (fun b u z => nomatch (show (none : Option HO) = some u from z)) (fun b z => absurd rfl z) (fun z => absurd rfl z)
  | none =>
    have at_ : ∀ b, (if b = a then some (HO.frz { cls := .type "list", data := .seq ws.toArray } (.lst (ns.map V.int))) else none) ≠ none → b = a := fun b z => by
      by_cases h : b = a
      · exact h
      · exact absurd (if_neg h) z
    refine key (fun b => if b = a then some (.frz { cls := .type "list", data := .seq ws.toArray } (.lst (ns.map V.int))) else none) (fun b => ?_) (.inl (.inr ⟨_, if_pos rfl⟩)) (fun b u z => ?_) at_ (fun _ => hk)
    · by_cases h : b = a
      · exact .inr ⟨_, _, if_pos h⟩
      · exact .inl (if_neg h)
    · have h : b = a := at_ b (fun y => by rw [show (if b = a then some (HO.frz { cls := .type "list", data := .seq ws.toArray } (.lst (ns.map V.int))) else none) = some u from z] at y; cases y)
      subst h
      have z' := (if_pos rfl).symm.trans z
      cases z'
      exact ⟨ea, by rw [List.length_map]; exact sz, ws, _, va, ea⟩
theorem walkG {l : PySem.W.OpenLaw} {n k : Nat} {q : Program} {loose : List Str} {XP : (Str → Option Value) → Heap → Prop} {YP : World → Heap → Prop} {d : DefRec} {K : Params → PySem.W.Frag} {sp : World → Sp} {x : Str} (hn : l.most = some n) (h2 : n ≤ sizeLine) (hd : d.params.defaults = []) (hr : Room k callerA)
    (hY : ∀ (w : World) (h : Heap), YP w h → (K w.params).In h) (F : ∀ (w : World) (mg : Str → Option Value) (fa : Addr) (h : Heap), (K w.params).In h → h.Ns mainGlobals mg → mg d.name = some (.ref fa) → ∃ fd : FuncData, (∀ (s : Shared) (u : Value), BindsTo s fd ⟨[u], []⟩ [(x, u)]) ∧
      ∀ bs : Heap, (K w.params).In bs → bs.Ns mainGlobals mg → FnG l.prog w (K w.params) mg bs k fa fd [x] (sp w)) (hs : ∀ (w : World) (H : Hp) (a : Addr) (ns : List Int), ns.length ≤ n → SqL (K w.params) H a (ns.map V.int) → sp w [.ref a] H (fun v _ => v = .bl true) fun _ _ _ => False) :
    PySem.W.WalkO q loose XP YP l.row.toRowW d [] (fun f vs => PySem.call f vs) := Att.attach_call hn hd fun w s t mg mb fa o pm cd dc a ws ns G Y ho hdt hcd hmg eo ia hl hg => by
  obtain ⟨fd, bd, hF⟩ := F w mg fa _ (hY w _ Y) G.T.g hmg
  exact lawG (hY w _ Y) G.T.g G.T.b G.T.builtins G.T.nolimit hg eo ia (Nat.le_trans hl h2) hr hF bd fun H sq => hs w H a ns hl sq
theorem all_mk {l : PySem.W.OpenLaw} {w : World} {K : PySem.W.Frag} {h : Heap} {mg : Str → Option Value} {fa f1 f2 f3 f4 f5 f6 f7 f8 f9 f10 f11 f12 f13 f14 f15 f16 f17 f18 f19 f20 f21 f22 f23 f24 f25 f26 f27 : Addr} {tk_MOST_STEPS tk_LETTERS tk_MOST_LETTERS tk_MOST_ENTRIES : Tok} (X : K.In h) (G : h.Ns mainGlobals mg) (hfa : mg "law" = some (.ref fa))
    {od1 an1 od2 an2 od3 an3 od4 an4 od5 an5 od6 an6 od7 an7 od8 an8 od9 an9 od10 an10 od11 an11 od12 an12 od13 an13 od14 an14 od15 an15 od16 an16 od17 an17 od18 an18 od19 an19 od20 an20 od21 an21 od22 an22 od23 an23 od24 an24 od25 an25 od26 an26 od27 an27 : Option Addr} {sl1 sl2 sl3 sl4 sl5 sl6 sl7 sl8 sl9 sl10 sl11 sl12 sl13 sl14 sl15 sl16 sl17 sl18 sl19 sl20 sl21 sl22 sl23 sl24 sl25 sl26 sl27 : Array (Option Value)} {oc1 kV1 dc1 pm1 cd1 ct1 oc2 kV2 dc2 pm2 cd2 ct2 oc3 kV3 dc3 pm3 cd3 ct3 oc4 kV4 dc4 pm4 cd4 ct4 oc5 kV5 dc5 pm5 cd5 ct5 oc6 kV6 dc6 pm6 cd6 ct6 oc7 kV7 dc7 pm7 cd7 ct7 oc8 kV8 dc8 pm8 cd8 ct8 oc9 kV9 dc9 pm9 cd9 ct9 oc10 kV10 dc10 pm10 cd10 ct10 oc11 kV11 dc11 pm11 cd11 ct11 oc12 kV12 dc12 pm12 cd12 ct12 oc13 kV13 dc13 pm13 cd13 ct13 oc14 kV14 dc14 pm14 cd14 ct14 oc15 kV15 dc15 pm15 cd15 ct15 oc16 kV16 dc16 pm16 cd16 ct16 oc17 kV17 dc17 pm17 cd17 ct17 oc18 kV18 dc18 pm18 cd18 ct18 oc19 kV19 dc19 pm19 cd19 ct19 oc20 kV20 dc20 pm20 cd20 ct20 oc21 kV21 dc21 pm21 cd21 ct21 oc22 kV22 dc22 pm22 cd22 ct22 oc23 kV23 dc23 pm23 cd23 ct23 oc24 kV24 dc24 pm24 cd24 ct24 oc25 kV25 dc25 pm25 cd25 ct25 oc26 kV26 dc26 pm26 cd26 ct26 oc27 kV27 dc27 pm27 cd27 ct27 : Value}
    (a1 : PySem.W.nsIn K mainGlobals "is_whole" = some (some (.ref f1))) (l1 : K.lookup f1 = some ⟨oc1, od1, .func (PySem.W.fnOf "is_whole" "is_whole" (defArgs s_is_whole) (defBody s_is_whole) (defScope s_is_whole) .none kV1 dc1 pm1 an1 cd1 ct1), sl1⟩) (c1 : PySem.W.codeIn K cd1 "is_whole" = true) (k1 : PySem.W.keepIn K (.ref f1) = true)
    (a2 : PySem.W.nsIn K mainGlobals "is_tuple" = some (some (.ref f2))) (l2 : K.lookup f2 = some ⟨oc2, od2, .func (PySem.W.fnOf "is_tuple" "is_tuple" (defArgs s_is_tuple) (defBody s_is_tuple) (defScope s_is_tuple) .none kV2 dc2 pm2 an2 cd2 ct2), sl2⟩) (c2 : PySem.W.codeIn K cd2 "is_tuple" = true) (k2 : PySem.W.keepIn K (.ref f2) = true)
    (a3 : PySem.W.nsIn K mainGlobals "is_step" = some (some (.ref f3))) (l3 : K.lookup f3 = some ⟨oc3, od3, .func (PySem.W.fnOf "is_step" "is_step" (defArgs s_is_step) (defBody s_is_step) (defScope s_is_step) .none kV3 dc3 pm3 an3 cd3 ct3), sl3⟩) (c3 : PySem.W.codeIn K cd3 "is_step" = true) (k3 : PySem.W.keepIn K (.ref f3) = true)
    (a4 : PySem.W.nsIn K mainGlobals "are_steps" = some (some (.ref f4))) (l4 : K.lookup f4 = some ⟨oc4, od4, .func (PySem.W.fnOf "are_steps" "are_steps" (defArgs s_are_steps) (defBody s_are_steps) (defScope s_are_steps) .none kV4 dc4 pm4 an4 cd4 ct4), sl4⟩) (c4 : PySem.W.codeIn K cd4 "are_steps" = true) (k4 : PySem.W.keepIn K (.ref f4) = true)
    (a5 : PySem.W.nsIn K mainGlobals "is_wisp" = some (some (.ref f5))) (l5 : K.lookup f5 = some ⟨oc5, od5, .func (PySem.W.fnOf "is_wisp" "is_wisp" (defArgs s_is_wisp) (defBody s_is_wisp) (defScope s_is_wisp) .none kV5 dc5 pm5 an5 cd5 ct5), sl5⟩) (c5 : PySem.W.codeIn K cd5 "is_wisp" = true) (k5 : PySem.W.keepIn K (.ref f5) = true)
    (a6 : PySem.W.nsIn K mainGlobals "is_name" = some (some (.ref f6))) (l6 : K.lookup f6 = some ⟨oc6, od6, .func (PySem.W.fnOf "is_name" "is_name" (defArgs s_is_name) (defBody s_is_name) (defScope s_is_name) .none kV6 dc6 pm6 an6 cd6 ct6), sl6⟩) (c6 : PySem.W.codeIn K cd6 "is_name" = true) (k6 : PySem.W.keepIn K (.ref f6) = true)
    (a7 : PySem.W.nsIn K mainGlobals "is_entry" = some (some (.ref f7))) (l7 : K.lookup f7 = some ⟨oc7, od7, .func (PySem.W.fnOf "is_entry" "is_entry" (defArgs s_is_entry) (defBody s_is_entry) (defScope s_is_entry) .none kV7 dc7 pm7 an7 cd7 ct7), sl7⟩) (c7 : PySem.W.codeIn K cd7 "is_entry" = true) (k7 : PySem.W.keepIn K (.ref f7) = true)
    (a8 : PySem.W.nsIn K mainGlobals "is_page" = some (some (.ref f8))) (l8 : K.lookup f8 = some ⟨oc8, od8, .func (PySem.W.fnOf "is_page" "is_page" (defArgs s_is_page) (defBody s_is_page) (defScope s_is_page) .none kV8 dc8 pm8 an8 cd8 ct8), sl8⟩) (c8 : PySem.W.codeIn K cd8 "is_page" = true) (k8 : PySem.W.keepIn K (.ref f8) = true)
    (a9 : PySem.W.nsIn K mainGlobals "_law_pot" = some (some (.ref f9))) (l9 : K.lookup f9 = some ⟨oc9, od9, .func (PySem.W.fnOf "_law_pot" "_law_pot" (defArgs s__law_pot) (defBody s__law_pot) (defScope s__law_pot) .none kV9 dc9 pm9 an9 cd9 ct9), sl9⟩) (c9 : PySem.W.codeIn K cd9 "_law_pot" = true) (k9 : PySem.W.keepIn K (.ref f9) = true)
    (a10 : PySem.W.nsIn K mainGlobals "_law_pick" = some (some (.ref f10))) (l10 : K.lookup f10 = some ⟨oc10, od10, .func (PySem.W.fnOf "_law_pick" "_law_pick" (defArgs s__law_pick) (defBody s__law_pick) (defScope s__law_pick) .none kV10 dc10 pm10 an10 cd10 ct10), sl10⟩) (c10 : PySem.W.codeIn K cd10 "_law_pick" = true) (k10 : PySem.W.keepIn K (.ref f10) = true)
    (a11 : PySem.W.nsIn K mainGlobals "_law_great" = some (some (.ref f11))) (l11 : K.lookup f11 = some ⟨oc11, od11, .func (PySem.W.fnOf "_law_great" "_law_great" (defArgs s__law_great) (defBody s__law_great) (defScope s__law_great) .none kV11 dc11 pm11 an11 cd11 ct11), sl11⟩) (c11 : PySem.W.codeIn K cd11 "_law_great" = true) (k11 : PySem.W.keepIn K (.ref f11) = true)
    (a12 : PySem.W.nsIn K mainGlobals "_law_sign" = some (some (.ref f12))) (l12 : K.lookup f12 = some ⟨oc12, od12, .func (PySem.W.fnOf "_law_sign" "_law_sign" (defArgs s__law_sign) (defBody s__law_sign) (defScope s__law_sign) .none kV12 dc12 pm12 an12 cd12 ct12), sl12⟩) (c12 : PySem.W.codeIn K cd12 "_law_sign" = true) (k12 : PySem.W.keepIn K (.ref f12) = true)
    (a13 : PySem.W.nsIn K mainGlobals "_law_number" = some (some (.ref f13))) (l13 : K.lookup f13 = some ⟨oc13, od13, .func (PySem.W.fnOf "_law_number" "_law_number" (defArgs s__law_number) (defBody s__law_number) (defScope s__law_number) .none kV13 dc13 pm13 an13 cd13 ct13), sl13⟩) (c13 : PySem.W.codeIn K cd13 "_law_number" = true) (k13 : PySem.W.keepIn K (.ref f13) = true)
    (a14 : PySem.W.nsIn K mainGlobals "_law_name" = some (some (.ref f14))) (l14 : K.lookup f14 = some ⟨oc14, od14, .func (PySem.W.fnOf "_law_name" "_law_name" (defArgs s__law_name) (defBody s__law_name) (defScope s__law_name) .none kV14 dc14 pm14 an14 cd14 ct14), sl14⟩) (c14 : PySem.W.codeIn K cd14 "_law_name" = true) (k14 : PySem.W.keepIn K (.ref f14) = true)
    (a15 : PySem.W.nsIn K mainGlobals "_law_wisp" = some (some (.ref f15))) (l15 : K.lookup f15 = some ⟨oc15, od15, .func (PySem.W.fnOf "_law_wisp" "_law_wisp" (defArgs s__law_wisp) (defBody s__law_wisp) (defScope s__law_wisp) .none kV15 dc15 pm15 an15 cd15 ct15), sl15⟩) (c15 : PySem.W.codeIn K cd15 "_law_wisp" = true) (k15 : PySem.W.keepIn K (.ref f15) = true)
    (a16 : PySem.W.nsIn K mainGlobals "_law_entry" = some (some (.ref f16))) (l16 : K.lookup f16 = some ⟨oc16, od16, .func (PySem.W.fnOf "_law_entry" "_law_entry" (defArgs s__law_entry) (defBody s__law_entry) (defScope s__law_entry) .none kV16 dc16 pm16 an16 cd16 ct16), sl16⟩) (c16 : PySem.W.codeIn K cd16 "_law_entry" = true) (k16 : PySem.W.keepIn K (.ref f16) = true)
    (a17 : PySem.W.nsIn K mainGlobals "_law_other_number" = some (some (.ref f17))) (l17 : K.lookup f17 = some ⟨oc17, od17, .func (PySem.W.fnOf "_law_other_number" "_law_other_number" (defArgs s__law_other_number) (defBody s__law_other_number) (defScope s__law_other_number) .none kV17 dc17 pm17 an17 cd17 ct17), sl17⟩) (c17 : PySem.W.codeIn K cd17 "_law_other_number" = true) (k17 : PySem.W.keepIn K (.ref f17) = true)
    (a18 : PySem.W.nsIn K mainGlobals "_law_other_text" = some (some (.ref f18))) (l18 : K.lookup f18 = some ⟨oc18, od18, .func (PySem.W.fnOf "_law_other_text" "_law_other_text" (defArgs s__law_other_text) (defBody s__law_other_text) (defScope s__law_other_text) .none kV18 dc18 pm18 an18 cd18 ct18), sl18⟩) (c18 : PySem.W.codeIn K cd18 "_law_other_text" = true) (k18 : PySem.W.keepIn K (.ref f18) = true)
    (a19 : PySem.W.nsIn K mainGlobals "_law_other_tuple" = some (some (.ref f19))) (l19 : K.lookup f19 = some ⟨oc19, od19, .func (PySem.W.fnOf "_law_other_tuple" "_law_other_tuple" (defArgs s__law_other_tuple) (defBody s__law_other_tuple) (defScope s__law_other_tuple) .none kV19 dc19 pm19 an19 cd19 ct19), sl19⟩) (c19 : PySem.W.codeIn K cd19 "_law_other_tuple" = true) (k19 : PySem.W.keepIn K (.ref f19) = true)
    (a20 : PySem.W.nsIn K mainGlobals "_law_otherwise" = some (some (.ref f20))) (l20 : K.lookup f20 = some ⟨oc20, od20, .func (PySem.W.fnOf "_law_otherwise" "_law_otherwise" (defArgs s__law_otherwise) (defBody s__law_otherwise) (defScope s__law_otherwise) .none kV20 dc20 pm20 an20 cd20 ct20), sl20⟩) (c20 : PySem.W.codeIn K cd20 "_law_otherwise" = true) (k20 : PySem.W.keepIn K (.ref f20) = true)
    (a21 : PySem.W.nsIn K mainGlobals "_law_is_count" = some (some (.ref f21))) (l21 : K.lookup f21 = some ⟨oc21, od21, .func (PySem.W.fnOf "_law_is_count" "_law_is_count" (defArgs s__law_is_count) (defBody s__law_is_count) (defScope s__law_is_count) .none kV21 dc21 pm21 an21 cd21 ct21), sl21⟩) (c21 : PySem.W.codeIn K cd21 "_law_is_count" = true) (k21 : PySem.W.keepIn K (.ref f21) = true)
    (a22 : PySem.W.nsIn K mainGlobals "_law_is_name" = some (some (.ref f22))) (l22 : K.lookup f22 = some ⟨oc22, od22, .func (PySem.W.fnOf "_law_is_name" "_law_is_name" (defArgs s__law_is_name) (defBody s__law_is_name) (defScope s__law_is_name) .none kV22 dc22 pm22 an22 cd22 ct22), sl22⟩) (c22 : PySem.W.codeIn K cd22 "_law_is_name" = true) (k22 : PySem.W.keepIn K (.ref f22) = true)
    (a23 : PySem.W.nsIn K mainGlobals "_law_is_wisp" = some (some (.ref f23))) (l23 : K.lookup f23 = some ⟨oc23, od23, .func (PySem.W.fnOf "_law_is_wisp" "_law_is_wisp" (defArgs s__law_is_wisp) (defBody s__law_is_wisp) (defScope s__law_is_wisp) .none kV23 dc23 pm23 an23 cd23 ct23), sl23⟩) (c23 : PySem.W.codeIn K cd23 "_law_is_wisp" = true) (k23 : PySem.W.keepIn K (.ref f23) = true)
    (a24 : PySem.W.nsIn K mainGlobals "_law_is_entry" = some (some (.ref f24))) (l24 : K.lookup f24 = some ⟨oc24, od24, .func (PySem.W.fnOf "_law_is_entry" "_law_is_entry" (defArgs s__law_is_entry) (defBody s__law_is_entry) (defScope s__law_is_entry) .none kV24 dc24 pm24 an24 cd24 ct24), sl24⟩) (c24 : PySem.W.codeIn K cd24 "_law_is_entry" = true) (k24 : PySem.W.keepIn K (.ref f24) = true)
    (a25 : PySem.W.nsIn K mainGlobals "_law_is_page" = some (some (.ref f25))) (l25 : K.lookup f25 = some ⟨oc25, od25, .func (PySem.W.fnOf "_law_is_page" "_law_is_page" (defArgs s__law_is_page) (defBody s__law_is_page) (defScope s__law_is_page) .none kV25 dc25 pm25 an25 cd25 ct25), sl25⟩) (c25 : PySem.W.codeIn K cd25 "_law_is_page" = true) (k25 : PySem.W.keepIn K (.ref f25) = true)
    (a26 : PySem.W.nsIn K mainGlobals "_law_right" = some (some (.ref f26))) (l26 : K.lookup f26 = some ⟨oc26, od26, .func (PySem.W.fnOf "_law_right" "_law_right" (defArgs s__law_right) (defBody s__law_right) (defScope s__law_right) .none kV26 dc26 pm26 an26 cd26 ct26), sl26⟩) (c26 : PySem.W.codeIn K cd26 "_law_right" = true) (k26 : PySem.W.keepIn K (.ref f26) = true)
    (a27 : PySem.W.nsIn K mainGlobals "law" = some (some (.ref f27))) (l27 : K.lookup f27 = some ⟨oc27, od27, .func (PySem.W.fnOf "law" "law" (defArgs s_law) (defBody s_law) (defScope s_law) .none kV27 dc27 pm27 an27 cd27 ct27), sl27⟩) (c27 : PySem.W.codeIn K cd27 "law" = true) (k27 : PySem.W.keepIn K (.ref f27) = true)
    (z1 : PySem.W.nsIn K mainGlobals "len" = some none)
    (z2 : PySem.W.nsIn K mainGlobals "sum" = some none)
    (z3 : PySem.W.nsIn K mainGlobals "abs" = some none)
    (z4 : PySem.W.nsIn K mainGlobals "isinstance" = some none)
    (z5 : PySem.W.nsIn K mainGlobals "max" = some none)
    (z6 : PySem.W.nsIn K mainGlobals "min" = some none)
    (z7 : PySem.W.nsIn K mainGlobals "tuple" = some none)
    (z8 : PySem.W.nsIn K mainGlobals "list" = some none)
    (z9 : PySem.W.nsIn K mainGlobals "int" = some none)
    (z10 : PySem.W.nsIn K mainGlobals "bool" = some none)
    (z11 : PySem.W.nsIn K mainGlobals "range" = some none)
    (z12 : PySem.W.nsIn K mainGlobals "enumerate" = some none)
    (z13 : PySem.W.nsIn K mainGlobals "zip" = some none)
    (z14 : PySem.W.nsIn K mainGlobals "repr" = some none)
    (z15 : PySem.W.nsIn K mainGlobals "str" = some none)
    (z16 : PySem.W.nsIn K mainGlobals "sorted" = some none)
    (z17 : PySem.W.nsIn K mainGlobals "set" = some none)
    (z18 : PySem.W.nsIn K mainGlobals "all" = some none)
    (z19 : PySem.W.nsIn K mainGlobals "any" = some none)
    (z20 : PySem.W.nsIn K mainGlobals "dict" = some none)
    (q_MOST_STEPS : PySem.W.nsIn K mainGlobals "MOST_STEPS" = some (some (.int 8 tk_MOST_STEPS)))
    (q_LETTERS : PySem.W.nsIn K mainGlobals "LETTERS" = some (some (.str "abcdefghijklmnopqrstuvwxyz" tk_LETTERS)))
    (q_MOST_LETTERS : PySem.W.nsIn K mainGlobals "MOST_LETTERS" = some (some (.int 8 tk_MOST_LETTERS)))
    (q_MOST_ENTRIES : PySem.W.nsIn K mainGlobals "MOST_ENTRIES" = some (some (.int 20 tk_MOST_ENTRIES))) :
    ∃ fd : FuncData, (∀ (s : Shared) (v : Value), BindsTo s fd ⟨[v], []⟩ [("_law_script", v)]) ∧ ∀ base : Heap, K.In base → base.Ns mainGlobals mg → FnOk l.prog w K mg base CX0 12 fa fd P_law (spLaw K) := by
  have e := hfa.symm.trans (PySem.W.mg_of X G a27)
  cases e
  have g_MOST_STEPS := PySem.W.mg_of X G q_MOST_STEPS
  have g_LETTERS := PySem.W.mg_of X G q_LETTERS
  have g_MOST_LETTERS := PySem.W.mg_of X G q_MOST_LETTERS
  have g_MOST_ENTRIES := PySem.W.mg_of X G q_MOST_ENTRIES
  have F1 := fun_mk (st := s_is_whole) l1 c1 k1
  have F2 := fun_mk (st := s_is_tuple) l2 c2 k2
  have F3 := fun_mk (st := s_is_step) l3 c3 k3
  have F4 := fun_mk (st := s_are_steps) l4 c4 k4
  have F5 := fun_mk (st := s_is_wisp) l5 c5 k5
  have F6 := fun_mk (st := s_is_name) l6 c6 k6
  have F7 := fun_mk (st := s_is_entry) l7 c7 k7
  have F8 := fun_mk (st := s_is_page) l8 c8 k8
  have F9 := fun_mk (st := s__law_pot) l9 c9 k9
  have F10 := fun_mk (st := s__law_pick) l10 c10 k10
  have F11 := fun_mk (st := s__law_great) l11 c11 k11
  have F12 := fun_mk (st := s__law_sign) l12 c12 k12
  have F13 := fun_mk (st := s__law_number) l13 c13 k13
  have F14 := fun_mk (st := s__law_name) l14 c14 k14
  have F15 := fun_mk (st := s__law_wisp) l15 c15 k15
  have F16 := fun_mk (st := s__law_entry) l16 c16 k16
  have F17 := fun_mk (st := s__law_other_number) l17 c17 k17
  have F18 := fun_mk (st := s__law_other_text) l18 c18 k18
  have F19 := fun_mk (st := s__law_other_tuple) l19 c19 k19
  have F20 := fun_mk (st := s__law_otherwise) l20 c20 k20
  have F21 := fun_mk (st := s__law_is_count) l21 c21 k21
  have F22 := fun_mk (st := s__law_is_name) l22 c22 k22
  have F23 := fun_mk (st := s__law_is_wisp) l23 c23 k23
  have F24 := fun_mk (st := s__law_is_entry) l24 c24 k24
  have F25 := fun_mk (st := s__law_is_page) l25 c25 k25
  have F26 := fun_mk (st := s__law_right) l26 c26 k26
  have F27 := fun_mk (st := s_law) l27 c27 k27
  have bi : Bi mg := ⟨PySem.W.mg_none_of X G z1, PySem.W.mg_none_of X G z2, PySem.W.mg_none_of X G z3, PySem.W.mg_none_of X G z4, PySem.W.mg_none_of X G z5, PySem.W.mg_none_of X G z6, PySem.W.mg_none_of X G z7, PySem.W.mg_none_of X G z8, PySem.W.mg_none_of X G z9, PySem.W.mg_none_of X G z10, PySem.W.mg_none_of X G z11, PySem.W.mg_none_of X G z12, PySem.W.mg_none_of X G z13, PySem.W.mg_none_of X G z14, PySem.W.mg_none_of X G z15, PySem.W.mg_none_of X G z16, PySem.W.mg_none_of X G z17, PySem.W.mg_none_of X G z18, PySem.W.mg_none_of X G z19, PySem.W.mg_none_of X G z20⟩
  refine ⟨PySem.W.fnOf "law" "law" (defArgs s_law) (defBody s_law) (defScope s_law) .none kV27 dc27 pm27 an27 cd27 ct27, fun s v => .of_eq rfl, fun base _ _ => ?_⟩
  have C_is_whole : Cal l.prog w K mg base "is_whole" P_is_whole 1 spWholeT f1 _ := ⟨ok_is_whole F1 bi, PySem.W.mg_of X G a1, F1.kp, F1.binds (ps := P_is_whole) fun _ _ _ _ _ _ us hl => match us, hl with | [_, _], _ => rfl⟩
  have C_is_tuple : Cal l.prog w K mg base "is_tuple" P_is_tuple 1 spTupleT f2 _ := ⟨ok_is_tuple F2 bi, PySem.W.mg_of X G a2, F2.kp, F2.binds (ps := P_is_tuple) fun _ _ _ _ _ _ us hl => match us, hl with | [_, _, _], _ => rfl⟩
  have C_is_step : Cal l.prog w K mg base "is_step" P_is_step 2 spStepT f3 _ := ⟨ok_is_step F3 bi C_is_tuple C_is_whole, PySem.W.mg_of X G a3, F3.kp, F3.binds (ps := P_is_step) fun _ _ _ _ _ _ us hl => match us, hl with | [_], _ => rfl⟩
  have C_are_steps : Cal l.prog w K mg base "are_steps" P_are_steps 3 spStepsT f4 _ := ⟨ok_are_steps F4 bi g_MOST_STEPS C_is_tuple C_is_step, PySem.W.mg_of X G a4, F4.kp, F4.binds (ps := P_are_steps) fun _ _ _ _ _ _ us hl => match us, hl with | [_], _ => rfl⟩
  have C_is_wisp : Cal l.prog w K mg base "is_wisp" P_is_wisp 4 spWispT f5 _ := ⟨ok_is_wisp F5 bi C_is_tuple C_is_whole C_are_steps, PySem.W.mg_of X G a5, F5.kp, F5.binds (ps := P_is_wisp) fun _ _ _ _ _ _ us hl => match us, hl with | [_], _ => rfl⟩
  have C_is_name : Cal l.prog w K mg base "is_name" P_is_name 1 spNameK f6 _ := ⟨ok_is_name F6 bi g_LETTERS g_MOST_LETTERS, PySem.W.mg_of X G a6, F6.kp, F6.binds (ps := P_is_name) fun _ _ _ _ _ _ us hl => match us, hl with | [_], _ => rfl⟩
  have C_is_entry : Cal l.prog w K mg base "is_entry" P_is_entry 5 spEntryK f7 _ := ⟨ok_is_entry F7 bi C_is_tuple C_is_name C_is_wisp C_is_whole, PySem.W.mg_of X G a7, F7.kp, F7.binds (ps := P_is_entry) fun _ _ _ _ _ _ us hl => match us, hl with | [_], _ => rfl⟩
  have C_is_page : Cal l.prog w K mg base "is_page" P_is_page 6 spPageK f8 _ := ⟨ok_is_page F8 bi g_MOST_ENTRIES C_is_tuple C_is_entry C_is_whole, PySem.W.mg_of X G a8, F8.kp, F8.binds (ps := P_is_page) fun _ _ _ _ _ _ us hl => match us, hl with | [_], _ => rfl⟩
  have C__law_pot : Cal l.prog w K mg base "_law_pot" P__law_pot 1 (spBeginC K) f9 _ := ⟨ok__law_pot F9 bi, PySem.W.mg_of X G a9, F9.kp, F9.binds (ps := P__law_pot) fun _ _ _ _ _ _ us hl => match us, hl with | [_, _], _ => rfl⟩
  have C__law_pick : Cal l.prog w K mg base "_law_pick" P__law_pick 1 spTakeC f10 _ := ⟨ok__law_pick F10 bi, PySem.W.mg_of X G a10, F10.kp, F10.binds (ps := P__law_pick) fun _ _ _ _ _ _ us hl => match us, hl with | [_, _], _ => rfl⟩
  have C__law_great : Cal l.prog w K mg base "_law_great" P__law_great 2 spGreatC f11 _ := ⟨ok__law_great F11 bi C__law_pick, PySem.W.mg_of X G a11, F11.kp, F11.binds (ps := P__law_great) fun _ _ _ _ _ _ us hl => match us, hl with | [_], _ => rfl⟩
  have C__law_sign : Cal l.prog w K mg base "_law_sign" P__law_sign 2 spSign54 f12 _ := ⟨ok__law_sign F12 bi C__law_pick, PySem.W.mg_of X G a12, F12.kp, F12.binds (ps := P__law_sign) fun _ _ _ _ _ _ us hl => match us, hl with | [_], _ => rfl⟩
  have C__law_number : Cal l.prog w K mg base "_law_number" P__law_number 3 spNumC f13 _ := ⟨ok__law_number F13 bi C__law_pick C__law_great, PySem.W.mg_of X G a13, F13.kp, F13.binds (ps := P__law_number) fun _ _ _ _ _ _ us hl => match us, hl with | [_], _ => rfl⟩
  have C__law_name : Cal l.prog w K mg base "_law_name" P__law_name 2 spName54 f14 _ := ⟨ok__law_name F14 bi C__law_pick, PySem.W.mg_of X G a14, F14.kp, F14.binds (ps := P__law_name) fun _ _ _ _ _ _ us hl => match us, hl with | [_], _ => rfl⟩
  have C__law_wisp : Cal l.prog w K mg base "_law_wisp" P__law_wisp 4 spWisp54 f15 _ := ⟨ok__law_wisp F15 bi C__law_pick C__law_number, PySem.W.mg_of X G a15, F15.kp, F15.binds (ps := P__law_wisp) fun _ _ _ _ _ _ us hl => match us, hl with | [_], _ => rfl⟩
  have C__law_entry : Cal l.prog w K mg base "_law_entry" P__law_entry 5 spEntry54 f16 _ := ⟨ok__law_entry F16 bi C__law_pick C__law_number C__law_wisp C__law_name, PySem.W.mg_of X G a16, F16.kp, F16.binds (ps := P__law_entry) fun _ _ _ _ _ _ us hl => match us, hl with | [_], _ => rfl⟩
  have C__law_other_number : Cal l.prog w K mg base "_law_other_number" P__law_other_number 2 spOtherN54 f17 _ := ⟨ok__law_other_number F17 bi C__law_pick, PySem.W.mg_of X G a17, F17.kp, F17.binds (ps := P__law_other_number) fun _ _ _ _ _ _ us hl => match us, hl with | [_, _], _ => rfl⟩
  have C__law_other_text : Cal l.prog w K mg base "_law_other_text" P__law_other_text 3 spOtherS54 f18 _ := ⟨ok__law_other_text F18 bi C__law_pick C__law_sign, PySem.W.mg_of X G a18, F18.kp, F18.binds (ps := P__law_other_text) fun _ _ _ _ _ _ us hl => match us, hl with | [_, _], _ => rfl⟩
  have C__law_other_tuple : Cal l.prog w K mg base "_law_other_tuple" P__law_other_tuple 2 spOtherT54 f19 _ := ⟨ok__law_other_tuple F19 bi C__law_pick, PySem.W.mg_of X G a19, F19.kp, F19.binds (ps := P__law_other_tuple) fun _ _ _ _ _ _ us hl => match us, hl with | [_, _], _ => rfl⟩
  have C__law_otherwise : Cal l.prog w K mg base "_law_otherwise" P__law_otherwise 11 (spOther54 7) f20 _ := ⟨ok__law_otherwise F20 (PySem.W.mg_of X G a20) (F20.binds (ps := P__law_otherwise) fun _ _ _ _ _ _ us hl => match us, hl with | [_, _], _ => rfl) bi C__law_pick C__law_other_number C__law_other_tuple C__law_other_text 7, PySem.W.mg_of X G a20, F20.kp, F20.binds (ps := P__law_otherwise) fun _ _ _ _ _ _ us hl => match us, hl with | [_, _], _ => rfl⟩
  have C__law_is_count : Cal l.prog w K mg base "_law_is_count" P__law_is_count 1 spWhole1 f21 _ := ⟨ok__law_is_count F21 bi, PySem.W.mg_of X G a21, F21.kp, F21.binds (ps := P__law_is_count) fun _ _ _ _ _ _ us hl => match us, hl with | [_], _ => rfl⟩
  have C__law_is_name : Cal l.prog w K mg base "_law_is_name" P__law_is_name 1 spNameK f22 _ := ⟨ok__law_is_name F22 bi, PySem.W.mg_of X G a22, F22.kp, F22.binds (ps := P__law_is_name) fun _ _ _ _ _ _ us hl => match us, hl with | [_], _ => rfl⟩
  have C__law_is_wisp : Cal l.prog w K mg base "_law_is_wisp" P__law_is_wisp 2 spWispT f23 _ := ⟨ok__law_is_wisp F23 bi C__law_is_count, PySem.W.mg_of X G a23, F23.kp, F23.binds (ps := P__law_is_wisp) fun _ _ _ _ _ _ us hl => match us, hl with | [_], _ => rfl⟩
  have C__law_is_entry : Cal l.prog w K mg base "_law_is_entry" P__law_is_entry 3 spEntryK f24 _ := ⟨ok__law_is_entry F24 bi C__law_is_name C__law_is_wisp C__law_is_count, PySem.W.mg_of X G a24, F24.kp, F24.binds (ps := P__law_is_entry) fun _ _ _ _ _ _ us hl => match us, hl with | [_], _ => rfl⟩
  have C__law_is_page : Cal l.prog w K mg base "_law_is_page" P__law_is_page 4 spPageK f25 _ := ⟨ok__law_is_page F25 bi C__law_is_entry C__law_is_count, PySem.W.mg_of X G a25, F25.kp, F25.binds (ps := P__law_is_page) fun _ _ _ _ _ _ us hl => match us, hl with | [_], _ => rfl⟩
  have C__law_right : Cal l.prog w K mg base "_law_right" P__law_right 7 spRight54 f26 _ := ⟨ok__law_right F26 bi C_is_page C__law_is_page C_is_entry C__law_is_entry, PySem.W.mg_of X G a26, F26.kp, F26.binds (ps := P__law_right) fun _ _ _ _ _ _ us hl => match us, hl with | [_], _ => rfl⟩
  exact ok_law F27 bi C__law_pot C__law_pick C__law_number C__law_entry C__law_otherwise C__law_right
end My
open PySem PySem.W PyProof.Rows
set_option maxHeartbeats 0 in
theorem PySem.Challenge.cw_evenstrand_k54_entries_and_pages_or_none_holds : PySem.Challenge.rw_evenstrand_k54_entries_and_pages_or_none.Holds := by
  w_on; o_law; k_head; (case hw => w_witness2)
  k_fill
  refine L2.walk_of (l := PySem.Challenge.rw_evenstrand_k54_entries_and_pages_or_none) (n := 63) (k := 12) (x := "_law_script") (CX := fun _ => L2.CX0) (sp := fun w => My.spLaw _) rfl (by decide) rfl ⟨rfl, by decide, by decide⟩ (fun w h Y => PySem.W.kIn_of Y) ?F (fun _ _ a ns hl _ hS => ⟨a, ns, rfl, hS, hl, fun _ => rfl⟩) (fun _ _ _ _ _ h => h)
  case F =>
    intro w mg fa h KX G hmg
    refine' My.all_mk KX G hmg ?a1 ?l1 ?c1 ?k1 ?a2 ?l2 ?c2 ?k2 ?a3 ?l3 ?c3 ?k3 ?a4 ?l4 ?c4 ?k4 ?a5 ?l5 ?c5 ?k5 ?a6 ?l6 ?c6 ?k6 ?a7 ?l7 ?c7 ?k7 ?a8 ?l8 ?c8 ?k8 ?a9 ?l9 ?c9 ?k9 ?a10 ?l10 ?c10 ?k10 ?a11 ?l11 ?c11 ?k11 ?a12 ?l12 ?c12 ?k12 ?a13 ?l13 ?c13 ?k13 ?a14 ?l14 ?c14 ?k14 ?a15 ?l15 ?c15 ?k15 ?a16 ?l16 ?c16 ?k16 ?a17 ?l17 ?c17 ?k17 ?a18 ?l18 ?c18 ?k18 ?a19 ?l19 ?c19 ?k19 ?a20 ?l20 ?c20 ?k20 ?a21 ?l21 ?c21 ?k21 ?a22 ?l22 ?c22 ?k22 ?a23 ?l23 ?c23 ?k23 ?a24 ?l24 ?c24 ?k24 ?a25 ?l25 ?c25 ?k25 ?a26 ?l26 ?c26 ?k26 ?a27 ?l27 ?c27 ?k27 ?z1 ?z2 ?z3 ?z4 ?z5 ?z6 ?z7 ?z8 ?z9 ?z10 ?z11 ?z12 ?z13 ?z14 ?z15 ?z16 ?z17 ?z18 ?z19 ?z20 ?q_MOST_STEPS ?q_LETTERS ?q_MOST_LETTERS ?q_MOST_ENTRIES
    (case a1 => k_is)
    (case l1 => k_is)
    (case c1 => k_is)
    (case k1 => k_is)
    (case a2 => k_is)
    (case l2 => k_is)
    (case c2 => k_is)
    (case k2 => k_is)
    (case a3 => k_is)
    (case l3 => k_is)
    (case c3 => k_is)
    (case k3 => k_is)
    (case a4 => k_is)
    (case l4 => k_is)
    (case c4 => k_is)
    (case k4 => k_is)
    (case a5 => k_is)
    (case l5 => k_is)
    (case c5 => k_is)
    (case k5 => k_is)
    (case a6 => k_is)
    (case l6 => k_is)
    (case c6 => k_is)
    (case k6 => k_is)
    (case a7 => k_is)
    (case l7 => k_is)
    (case c7 => k_is)
    (case k7 => k_is)
    (case a8 => k_is)
    (case l8 => k_is)
    (case c8 => k_is)
    (case k8 => k_is)
    (case a9 => k_is)
    (case l9 => k_is)
    (case c9 => k_is)
    (case k9 => k_is)
    (case a10 => k_is)
    (case l10 => k_is)
    (case c10 => k_is)
    (case k10 => k_is)
    (case a11 => k_is)
    (case l11 => k_is)
    (case c11 => k_is)
    (case k11 => k_is)
    (case a12 => k_is)
    (case l12 => k_is)
    (case c12 => k_is)
    (case k12 => k_is)
    (case a13 => k_is)
    (case l13 => k_is)
    (case c13 => k_is)
    (case k13 => k_is)
    (case a14 => k_is)
    (case l14 => k_is)
    (case c14 => k_is)
    (case k14 => k_is)
    (case a15 => k_is)
    (case l15 => k_is)
    (case c15 => k_is)
    (case k15 => k_is)
    (case a16 => k_is)
    (case l16 => k_is)
    (case c16 => k_is)
    (case k16 => k_is)
    (case a17 => k_is)
    (case l17 => k_is)
    (case c17 => k_is)
    (case k17 => k_is)
    (case a18 => k_is)
    (case l18 => k_is)
    (case c18 => k_is)
    (case k18 => k_is)
    (case a19 => k_is)
    (case l19 => k_is)
    (case c19 => k_is)
    (case k19 => k_is)
    (case a20 => k_is)
    (case l20 => k_is)
    (case c20 => k_is)
    (case k20 => k_is)
    (case a21 => k_is)
    (case l21 => k_is)
    (case c21 => k_is)
    (case k21 => k_is)
    (case a22 => k_is)
    (case l22 => k_is)
    (case c22 => k_is)
    (case k22 => k_is)
    (case a23 => k_is)
    (case l23 => k_is)
    (case c23 => k_is)
    (case k23 => k_is)
    (case a24 => k_is)
    (case l24 => k_is)
    (case c24 => k_is)
    (case k24 => k_is)
    (case a25 => k_is)
    (case l25 => k_is)
    (case c25 => k_is)
    (case k25 => k_is)
    (case a26 => k_is)
    (case l26 => k_is)
    (case c26 => k_is)
    (case k26 => k_is)
    (case a27 => k_is)
    (case l27 => k_is)
    (case c27 => k_is)
    (case k27 => k_is)
    (case z1 => k_is)
    (case z2 => k_is)
    (case z3 => k_is)
    (case z4 => k_is)
    (case z5 => k_is)
    (case z6 => k_is)
    (case z7 => k_is)
    (case z8 => k_is)
    (case z9 => k_is)
    (case z10 => k_is)
    (case z11 => k_is)
    (case z12 => k_is)
    (case z13 => k_is)
    (case z14 => k_is)
    (case z15 => k_is)
    (case z16 => k_is)
    (case z17 => k_is)
    (case z18 => k_is)
    (case z19 => k_is)
    (case z20 => k_is)
    (case q_MOST_STEPS => k_is)
    (case q_LETTERS => k_is)
    (case q_MOST_LETTERS => k_is)
    (case q_MOST_ENTRIES => k_is)
