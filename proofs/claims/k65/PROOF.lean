import PyProof.Rows.All
import Wide.All
import OpenK.AllK
import Wide.FinOn
import HandS.ForMost
import HandS.Wide
import HandS.IsInst
import HandS.More
import HandS.TupAny
import HandS.Codes
import HandS.Zip
import HandS.SortKw
import HandS.Walk
import KE.KMinKey
import PyProof.Rows.NestShow
import PyProof.ReprBulk
import PyProof.FitsInt
import HandS.SortInts
import HandS.Flow
import HandS.SetKeys
import HandS.NoneIn
import HandS.Style
import HandS.SetFor
import HandS.Defaults
import PyProof.LongRange
import PyProof.Rows.SortShellAny
import PyProof.FactsAll.NoneType_2
import KE.DatumOrd
import PyProof.Claim2Refuses
import PyProof.MaxThree
import HandS.FStr
import KE.IntTextLaws
import KE.GoesEnumKw
import PySem.Challenge.RW_evenstrand_k65_pages_as_texts
set_option Elab.async false
set_option linter.all false
set_option maxRecDepth 100000
set_option maxHeartbeats 4000000
namespace My
open PySem PySem.Spec PyProof.Rows L2
/-! ### defs that are called where no object is just being shown: there repr tells all of a thing -/
structure FnG (P : Program) (w : World) (K : PySem.W.Frag) (mg : Str → Option Value) (bs : Heap) (k : Nat) (f : Addr) (fd : FuncData) (ps : List Str) (sp : Sp) : Prop where
  long : ∀ us H Q E, sp us H Q E → us.length = ps.length
  goes : ∀ (B : Around) (ou : List Env) (t : Shared) (H : Hp) (ar : Args) (ws : List Value) (us : List V) (Q : VK) (E : XK), Room k B → B.guards = some [] → Env0 P w K mg bs B ou t H → BindsTo t fd ar (ps.zip ws) →
    Vals us ws → sp us H Q E → codeAny (model P w) B (.call (.ref f) ar) (CR CX0 ou P w H t Q E) t
section
variable {P : Program} {w : World} {K : PySem.W.Frag} {mg : Str → Option Value} {bs : Heap} {f : Addr} {fd : FuncData} {ps : List Str} {sp : Sp}
theorem FnG.up {j k : Nat} (F : FnG P w K mg bs j f fd ps sp) (h : j ≤ k) : FnG P w K mg bs k f fd ps sp := ⟨F.long, fun B ou t H ar ws us Q E r => F.goes B ou t H ar ws us Q E (r.mono h)⟩
theorem FnG.of {k : Nat} (F : FnOk P w K mg bs CX0 k f fd ps sp) : FnG P w K mg bs k f fd ps sp := ⟨F.len, fun B ou t H ar ws us Q E r _ => F.run B ou t H ar ws us Q E r⟩
/-- from the body's walk -/
theorem okG {x qual : Str} {st : Stmt} {N : List Str} {k : Nat} (F : Fun K x qual st f fd) (S : FnScope N ps (defScope st)) (ln : ∀ us H Q E, sp us H Q E → us.length = ps.length)
    (hb : ∀ (cv : Value) (B : Around) (ou : List Env) (t : Shared) (H : Hp) (us : List V) (Q : VK) (E : XK), Room k (B.deeper (envOfC qual (defScope st) t.heap.objs.size f cv)) → (B.deeper (envOfC qual (defScope st) t.heap.objs.size f cv)).guards = some [] → sp us H Q E →
      ∃ u, PSs (cxOf CX0 P w K mg bs N qual (defScope st) f cv B ou t H E).nox (defBody st) u ∧ u { nx := fun _ H' => Q .non H', rt := Q } (start N us) H) : FnG P w K mg bs (k + 1) f fd ps sp := by
  obtain ⟨oc, od, kV, dc, pm, an, cv, ct, sl, rfl, lk, hcv⟩ := F.ex
  refine ⟨ln, fun B ou t H ar ws us Q E r gd e0 bi va hs => ?_⟩
  have kin : K.In t.heap := e0.mod.kin.keeps fun b o e => (e0.bs b o e).1
  have nol : t.heap.NoLimit := e0.mod.nolimit.keeps fun b o e => (e0.bs b o e).1
  refine codeAny_call_function r.depth (kin _ _ lk) rfl S.co S.gen rfl (PySem.W.codeRec_of kin hcv) (bi _ _ _ _ (wpAny_newFunctionEnv_cells S.kind (fun ⟨y, v⟩ hy => ?_) fun en hen t1 z => ?_))
  · rcases S.par y (List.of_mem_zip hy).1 with l | l
    · exact .inl l
    · exact .inr ⟨l, PySem.W.cellsFrom_some _ _ _ (.inl l)⟩
  · subst hen
    refine ⟨nol.keeps z.toInCall.keep, codeAny_func ?_⟩
    obtain ⟨u, hu, hq⟩ := hb cv B ou t H us Q E (r.deeper _) gd hs
    refine wpAny_mono (hu.nox.run [] t1 (start N us) H _ (inv_start S r.hd e0 (ln _ _ _ _ hs) va z) hq) (fun fl t' ht => ?_) fun _ _ ht => ht
    cases fl with
    | ret y =>
      obtain ⟨v, σ', H', J, rv, q⟩ := ht
      exact ⟨v, H', J.os, J.bare, J.base, J.hok, rv, q⟩
    | next =>
      obtain ⟨σ', H', J, q⟩ := ht
      exact ⟨.non, H', J.os, J.bare, J.base, J.hok, rfl, q⟩
    | brk => exact ht.elim fun _ z => z.elim fun _ z => z.2.elim
    | cont => exact ht.elim fun _ z => z.elim fun _ z => z.2.elim
end
section
variable {X : Cx}
theorem pe_callG {k : Nat} {f : Addr} {fd : FuncData} {ps : List Str} {sp : Sp} {x : Str} {p pos : Pos} {e : Expr} {es : List Expr} {t : TA} (F : FnG X.prog X.w X.K X.mg X.base k f fd ps sp) (hr : Room k X.A) (gd : X.A.guards = some []) (hg : Gl X x) (hm : X.mg x = some (.ref f)) (kp : PySem.W.keepIn X.K (.ref f) = true)
    (bd : Binds X.K fd ps []) (ha : PA X (e :: es) t) (hdb : (x == ("__debug__" : Str)) = false := by decide) (hst : starEach (e :: es) X.env = (false, eval e X.env) :: starEach es X.env := by rfl)
    (hpl : (backTo pos (starEach es X.env)).any (·.1) = false := by rfl) : PE X (.Call (.Name x p) (e :: es) [] pos) (tCall sp [] E0 t) := by
  refine ⟨fun pins s σ H Q I h => wpAny_Call_Name_kw (ld_glob I hg hm (PySem.W.callWith_K (h₀ := X.base) I.ok.mod.kin kp (thn (ha.run pos pins s σ H _ I h) fun ws s1 ⟨us, H1, J, va, q⟩ => ⟨J.kIn, ?_⟩) hst hpl) hdb)⟩
  have q : sp (us ++ []) H1 Q E0 := q
  rw [List.append_nil] at q
  have hl : (ws ++ []).length = ps.length := by rw [List.append_nil, ← va.length]; exact F.long _ _ _ _ q
  have bt := bd s1 ws J.kIn hl
  rw [List.append_nil] at bt
  refine wpAny_call (codeAny_mono (F.goes X.A X.stack s1 H1 ⟨ws, []⟩ ws us Q E0 hr gd J.env0 bt va q) fun r s' hq => ?_)
  match r, hq with
  | .ok (.ret _), hq => exact J.after hq
  | .ok .next, hq => exact False.elim hq
  | .ok .brk, hq => exact False.elim hq
  | .ok .cont, hq => exact False.elim hq
  | .error _, hq => exact False.elim hq
/-- repr of a thing made of lists, tuples, texts, numbers, truths and None -/
def rRepr (K : PySem.W.Frag) : List V → Hp → VK → Prop := fun xs H Q => ∃ (a : Addr) (d : PyData), xs = [.ref a] ∧ Dp K H (.ref a) d ∧ d.showable = true ∧ d.hasDict = false ∧ d.depth ≤ 60 ∧ d.shown.length ≤ sizeLine ∧ Q (.str d.shown) H
theorem call_reprD (gd : X.A.guards = some []) (hu : X.A.units + 64 < cLine) : CallR X (.builtin "repr") (rRepr X.K) := by
  intro pins s σ H xs us Q I va h
  obtain ⟨a, d, rfl, dp, h1, h2, h3, h4, q⟩ := h
  rw [Vals.ref1 va]
  obtain ⟨as, rd⟩ := Dp.reads I d (.ref a) (.ref a) dp rfl
  exact repr_of_reads' rd h1 (PyData.noDict_hsm h2) gd (by omega) (fun _ _ e => e) (fun h' u tk hk => ⟨.str _, H, I.kept hk, ⟨_, rfl⟩, q⟩) h4
end
/-! ### the text -/
def topS (i : Nat) : Stmt := PySem.Challenge.pw_evenstrand_k65_pages_as_texts.main.body.getD i (.Pass ⟨0, 0, 0, 0⟩)
abbrev s_show_wisp : Stmt := topS 1
abbrev N_show_wisp : List Str := ["wisp", "sort", "steps", "thickness", "long"]
abbrev P_show_wisp : List Str := ["wisp"]
theorem sc_show_wisp : FnScope N_show_wisp P_show_wisp (defScope s_show_wisp) := ⟨rfl, rfl, rfl, by decide +kernel, rfl, by decide +kernel, by decide +kernel⟩
abbrev s_show_entry : Stmt := topS 2
abbrev N_show_entry : List Str := ["entry", "word", "name", "wisp", "moment", "part"]
abbrev P_show_entry : List Str := ["entry"]
theorem sc_show_entry : FnScope N_show_entry P_show_entry (defScope s_show_entry) := ⟨rfl, rfl, rfl, by decide +kernel, rfl, by decide +kernel, by decide +kernel⟩
abbrev s_show_page : Stmt := topS 3
abbrev N_show_page : List Str := ["page", "number", "version", "entries", "entry"]
abbrev P_show_page : List Str := ["page"]
theorem sc_show_page : FnScope N_show_page P_show_page (defScope s_show_page) := ⟨rfl, rfl, rfl, by decide +kernel, rfl, by decide +kernel, by decide +kernel⟩
abbrev s_is_whole : Stmt := topS 5
abbrev N_is_whole : List Str := ["thing", "least"]
abbrev P_is_whole : List Str := ["thing", "least"]
theorem sc_is_whole : FnScope N_is_whole P_is_whole (defScope s_is_whole) := ⟨rfl, rfl, rfl, by decide +kernel, rfl, by decide +kernel, by decide +kernel⟩
abbrev s_is_tuple : Stmt := topS 6
abbrev N_is_tuple : List Str := ["thing", "fewest", "most"]
abbrev P_is_tuple : List Str := ["thing", "fewest", "most"]
theorem sc_is_tuple : FnScope N_is_tuple P_is_tuple (defScope s_is_tuple) := ⟨rfl, rfl, rfl, by decide +kernel, rfl, by decide +kernel, by decide +kernel⟩
abbrev s_is_step : Stmt := topS 9
abbrev N_is_step : List Str := ["thing"]
abbrev P_is_step : List Str := ["thing"]
theorem sc_is_step : FnScope N_is_step P_is_step (defScope s_is_step) := ⟨rfl, rfl, rfl, by decide +kernel, rfl, by decide +kernel, by decide +kernel⟩
abbrev s_are_steps : Stmt := topS 10
abbrev N_are_steps : List Str := ["thing", "ahead", "step"]
abbrev P_are_steps : List Str := ["thing"]
theorem sc_are_steps : FnScope N_are_steps P_are_steps (defScope s_are_steps) := ⟨rfl, rfl, rfl, by decide +kernel, rfl, by decide +kernel, by decide +kernel⟩
abbrev s_is_wisp : Stmt := topS 11
abbrev N_is_wisp : List Str := ["thing", "sort", "steps"]
abbrev P_is_wisp : List Str := ["thing"]
theorem sc_is_wisp : FnScope N_is_wisp P_is_wisp (defScope s_is_wisp) := ⟨rfl, rfl, rfl, by decide +kernel, rfl, by decide +kernel, by decide +kernel⟩
abbrev s_is_name : Stmt := topS 16
abbrev N_is_name : List Str := ["thing", "sign"]
abbrev P_is_name : List Str := ["thing"]
theorem sc_is_name : FnScope N_is_name P_is_name (defScope s_is_name) := ⟨rfl, rfl, rfl, by decide +kernel, rfl, by decide +kernel, by decide +kernel⟩
abbrev s_is_entry : Stmt := topS 17
abbrev N_is_entry : List Str := ["thing"]
abbrev P_is_entry : List Str := ["thing"]
theorem sc_is_entry : FnScope N_is_entry P_is_entry (defScope s_is_entry) := ⟨rfl, rfl, rfl, by decide +kernel, rfl, by decide +kernel, by decide +kernel⟩
abbrev s_number_of : Stmt := topS 24
abbrev N_number_of : List Str := ["text", "sign"]
abbrev P_number_of : List Str := ["text"]
theorem sc_number_of : FnScope N_number_of P_number_of (defScope s_number_of) := ⟨rfl, rfl, rfl, by decide +kernel, rfl, by decide +kernel, by decide +kernel⟩
abbrev s_step_of : Stmt := topS 25
abbrev N_step_of : List Str := ["text", "thickness", "sign", "long"]
abbrev P_step_of : List Str := ["text"]
theorem sc_step_of : FnScope N_step_of P_step_of (defScope s_step_of) := ⟨rfl, rfl, rfl, by decide +kernel, rfl, by decide +kernel, by decide +kernel⟩
abbrev s_wisp_of : Stmt := topS 26
abbrev N_wisp_of : List Str := ["text", "sort", "sign", "steps", "wisp", "step"]
abbrev P_wisp_of : List Str := ["text"]
theorem sc_wisp_of : FnScope N_wisp_of P_wisp_of (defScope s_wisp_of) := ⟨rfl, rfl, rfl, by decide +kernel, rfl, by decide +kernel, by decide +kernel⟩
abbrev s_title_of : Stmt := topS 27
abbrev N_title_of : List Str := ["text", "words", "title"]
abbrev P_title_of : List Str := ["text"]
theorem sc_title_of : FnScope N_title_of P_title_of (defScope s_title_of) := ⟨rfl, rfl, rfl, by decide +kernel, rfl, by decide +kernel, by decide +kernel⟩
abbrev s_entry_of : Stmt := topS 28
abbrev N_entry_of : List Str := ["text", "words", "entry"]
abbrev P_entry_of : List Str := ["text"]
theorem sc_entry_of : FnScope N_entry_of P_entry_of (defScope s_entry_of) := ⟨rfl, rfl, rfl, by decide +kernel, rfl, by decide +kernel, by decide +kernel⟩
abbrev s_read_page : Stmt := topS 29
abbrev N_read_page : List Str := ["text", "rows", "title", "entries", "number", "row", "entry"]
abbrev P_read_page : List Str := ["text"]
theorem sc_read_page : FnScope N_read_page P_read_page (defScope s_read_page) := ⟨rfl, rfl, rfl, by decide +kernel, rfl, by decide +kernel, by decide +kernel⟩
abbrev s__law_blend : Stmt := topS 31
abbrev N__law_blend : List Str := ["_law_number", "_law_turn", "_law_seed", "_law_once"]
abbrev P__law_blend : List Str := ["_law_number", "_law_turn"]
theorem sc__law_blend : FnScope N__law_blend P__law_blend (defScope s__law_blend) := ⟨rfl, rfl, rfl, by decide +kernel, rfl, by decide +kernel, by decide +kernel⟩
abbrev s__law_pot : Stmt := topS 32
abbrev N__law_pot : List Str := ["_law_script"]
abbrev P__law_pot : List Str := ["_law_script"]
theorem sc__law_pot : FnScope N__law_pot P__law_pot (defScope s__law_pot) := ⟨rfl, rfl, rfl, by decide +kernel, rfl, by decide +kernel, by decide +kernel⟩
abbrev s__law_draw : Stmt := topS 33
abbrev N__law_draw : List Str := ["_law_pot_here", "_law_many", "_law_cell", "_law_digit"]
abbrev P__law_draw : List Str := ["_law_pot_here", "_law_many"]
theorem sc__law_draw : FnScope N__law_draw P__law_draw (defScope s__law_draw) := ⟨rfl, rfl, rfl, by decide +kernel, rfl, by decide +kernel, by decide +kernel⟩
abbrev s__law_pick : Stmt := topS 34
abbrev N__law_pick : List Str := ["_law_pot_here", "_law_some"]
abbrev P__law_pick : List Str := ["_law_pot_here", "_law_some"]
theorem sc__law_pick : FnScope N__law_pick P__law_pick (defScope s__law_pick) := ⟨rfl, rfl, rfl, by decide +kernel, rfl, by decide +kernel, by decide +kernel⟩
abbrev s__law_great : Stmt := topS 35
abbrev N__law_great : List Str := ["_law_pot_here", "_law_way", "_law_number", "_law_turn"]
abbrev P__law_great : List Str := ["_law_pot_here"]
theorem sc__law_great : FnScope N__law_great P__law_great (defScope s__law_great) := ⟨rfl, rfl, rfl, by decide +kernel, rfl, by decide +kernel, by decide +kernel⟩
abbrev s__law_wisp : Stmt := topS 36
abbrev N__law_wisp : List Str := ["_law_pot_here", "_law_most", "_law_small", "_law_many", "_law_steps", "_law_strong", "_law_turn", "_law_more"]
abbrev P__law_wisp : List Str := ["_law_pot_here", "_law_most", "_law_small"]
theorem sc__law_wisp : FnScope N__law_wisp P__law_wisp (defScope s__law_wisp) := ⟨rfl, rfl, rfl, by decide +kernel, rfl, by decide +kernel, by decide +kernel⟩
abbrev s__law_whole : Stmt := topS 37
abbrev N__law_whole : List Str := ["_law_thing"]
abbrev P__law_whole : List Str := ["_law_thing"]
theorem sc__law_whole : FnScope N__law_whole P__law_whole (defScope s__law_whole) := ⟨rfl, rfl, rfl, by decide +kernel, rfl, by decide +kernel, by decide +kernel⟩
abbrev s__law_same : Stmt := topS 38
abbrev N__law_same : List Str := ["_law_found", "_law_due", "_law_one", "_law_other"]
abbrev P__law_same : List Str := ["_law_found", "_law_due"]
theorem sc__law_same : FnScope N__law_same P__law_same (defScope s__law_same) := ⟨rfl, rfl, rfl, by decide +kernel, rfl, by decide +kernel, by decide +kernel⟩
abbrev s__law_far_wisp : Stmt := topS 39
abbrev N__law_far_wisp : List Str := ["_law_pot_here", "_law_small", "_law_wisp_here"]
abbrev P__law_far_wisp : List Str := ["_law_pot_here", "_law_small"]
theorem sc__law_far_wisp : FnScope N__law_far_wisp P__law_far_wisp (defScope s__law_far_wisp) := ⟨rfl, rfl, rfl, by decide +kernel, rfl, by decide +kernel, by decide +kernel⟩
abbrev s__law_wisp_text : Stmt := topS 40
abbrev N__law_wisp_text : List Str := ["_law_wisp_here", "_law_strong", "_law_long"]
abbrev P__law_wisp_text : List Str := ["_law_wisp_here"]
theorem sc__law_wisp_text : FnScope N__law_wisp_text P__law_wisp_text (defScope s__law_wisp_text) := ⟨rfl, rfl, rfl, by decide +kernel, rfl, by decide +kernel, by decide +kernel⟩
abbrev s__law_name : Stmt := topS 41
abbrev N__law_name : List Str := ["_law_pot_here", "_law_letters", "_law_many", "_law_turn"]
abbrev P__law_name : List Str := ["_law_pot_here"]
theorem sc__law_name : FnScope N__law_name P__law_name (defScope s__law_name) := ⟨rfl, rfl, rfl, by decide +kernel, rfl, by decide +kernel, by decide +kernel⟩
abbrev s__law_number_any : Stmt := topS 42
abbrev N__law_number_any : List Str := ["_law_pot_here"]
abbrev P__law_number_any : List Str := ["_law_pot_here"]
theorem sc__law_number_any : FnScope N__law_number_any P__law_number_any (defScope s__law_number_any) := ⟨rfl, rfl, rfl, by decide +kernel, rfl, by decide +kernel, by decide +kernel⟩
abbrev s__law_entry : Stmt := topS 43
abbrev N__law_entry : List Str := ["_law_pot_here", "_law_names", "_law_small", "_law_way", "_law_name_here"]
abbrev P__law_entry : List Str := ["_law_pot_here", "_law_names", "_law_small"]
theorem sc__law_entry : FnScope N__law_entry P__law_entry (defScope s__law_entry) := ⟨rfl, rfl, rfl, by decide +kernel, rfl, by decide +kernel, by decide +kernel⟩
abbrev s__law_page : Stmt := topS 44
abbrev N__law_page : List Str := ["_law_pot_here", "_law_small", "_law_names", "_law_many", "_law_entries", "_law_turn"]
abbrev P__law_page : List Str := ["_law_pot_here"]
theorem sc__law_page : FnScope N__law_page P__law_page (defScope s__law_page) := ⟨rfl, rfl, rfl, by decide +kernel, rfl, by decide +kernel, by decide +kernel⟩
abbrev s__law_entry_text : Stmt := topS 45
abbrev N__law_entry_text : List Str := ["_law_entry_here", "_law_words", "_law_part"]
abbrev P__law_entry_text : List Str := ["_law_entry_here"]
theorem sc__law_entry_text : FnScope N__law_entry_text P__law_entry_text (defScope s__law_entry_text) := ⟨rfl, rfl, rfl, by decide +kernel, rfl, by decide +kernel, by decide +kernel⟩
abbrev s__law_page_text : Stmt := topS 46
abbrev N__law_page_text : List Str := ["_law_page_here", "_law_one"]
abbrev P__law_page_text : List Str := ["_law_page_here"]
theorem sc__law_page_text : FnScope N__law_page_text P__law_page_text (defScope s__law_page_text) := ⟨rfl, rfl, rfl, by decide +kernel, rfl, by decide +kernel, by decide +kernel⟩
abbrev s_law : Stmt := topS 47
abbrev N_law : List Str := ["_law_script", "_law_pot_here", "_law_turn", "_law_pages", "_law_page_here", "_law_text"]
abbrev P_law : List Str := ["_law_script"]
theorem sc_law : FnScope N_law P_law (defScope s_law) := ⟨rfl, rfl, rfl, by decide +kernel, rfl, by decide +kernel, by decide +kernel⟩
/-! ### the names that are still the built-in ones -/
structure Bi (mg : Str → Option Value) : Prop where
  m_len : mg "len" = none
  m_sum : mg "sum" = none
  m_abs : mg "abs" = none
  m_isinstance : mg "isinstance" = none
  m_max : mg "max" = none
  m_min : mg "min" = none
  m_tuple : mg "tuple" = none
  m_list : mg "list" = none
  m_int : mg "int" = none
  m_bool : mg "bool" = none
  m_range : mg "range" = none
  m_enumerate : mg "enumerate" = none
  m_zip : mg "zip" = none
  m_repr : mg "repr" = none
  m_str : mg "str" = none
  m_sorted : mg "sorted" = none
  m_set : mg "set" = none
  m_all : mg "all" = none
  m_any : mg "any" = none
  m_dict : mg "dict" = none
/-! ### a def as its callers use it -/
structure Cal (P : Program) (w : World) (K : PySem.W.Frag) (mg : Str → Option Value) (base : Heap) (x : Str) (ps : List Str) (k : Nat) (sp : Sp) (f : Addr) (fd : FuncData) : Prop where
  G : FnOk P w K mg base CX0 k f fd ps sp
  g : mg x = some (.ref f)
  kp : PySem.W.keepIn K (.ref f) = true
  b : Binds K fd ps []
structure CalG (P : Program) (w : World) (K : PySem.W.Frag) (mg : Str → Option Value) (base : Heap) (x : Str) (ps : List Str) (k : Nat) (sp : Sp) (f : Addr) (fd : FuncData) : Prop where
  G : FnG P w K mg base k f fd ps sp
  g : mg x = some (.ref f)
  kp : PySem.W.keepIn K (.ref f) = true
  b : Binds K fd ps []
/-! ### heaps -/
def Keep (p l : Addr) (H H' : Hp) : Prop := ∀ a o, a ≠ p → a ≠ l → H a = some o → H' a = some o
theorem Keep.refl {p l : Addr} {H : Hp} : Keep p l H H := fun _ _ _ _ h => h
theorem Keep.trans {p l : Addr} {H H1 H2 : Hp} (a : Keep p l H H1) (b : Keep p l H1 H2) : Keep p l H H2 := fun c o n1 n2 h => b c o n1 n2 (a c o n1 n2 h)
theorem Keep.new {p l : Addr} {H H1 : Hp} {a : Addr} {o : HO} (k : Keep p l H H1) (h : H1 a = none) : Keep p l H (upd H1 a o) := fun c u n1 n2 e => by
  have e1 := k c u n1 n2 e
  rw [upd_ne (ne_of_none e1 h)]
  exact e1
theorem Keep.own {p l : Addr} {H H1 : Hp} {o : HO} (k : Keep p l H H1) : Keep p l H (upd H1 p o) := fun c u n1 n2 e => by
  rw [upd_ne n1]
  exact k c u n1 n2 e
theorem Keep.own2 {p l : Addr} {H H1 : Hp} {o : HO} (k : Keep p l H H1) : Keep p l H (upd H1 l o) := fun c u n1 n2 e => by
  rw [upd_ne n2]
  exact k c u n1 n2 e
/-- an object that was not there at H may change -/
theorem Keep.mine {p l a : Addr} {H H1 : Hp} {o : HO} (k : Keep p l H H1) (h : H a = none) : Keep p l H (upd H1 a o) := fun c u n1 n2 e => by
  rw [upd_ne (ne_of_none e h)]
  exact k c u n1 n2 e
def Tups (H H' : Hp) : Prop := ∀ a xs, H a = some (.tup xs) → H' a = some (.tup xs)
theorem Tups.refl {H : Hp} : Tups H H := fun _ _ h => h
theorem Tups.trans {H H1 H2 : Hp} (a : Tups H H1) (b : Tups H1 H2) : Tups H H2 := fun c xs h => b c xs (a c xs h)
theorem Tups.new {H : Hp} {a : Addr} {o : HO} (h : H a = none) : Tups H (upd H a o) := fun c xs e => by
  rw [upd_ne (ne_of_none e h)]
  exact e
theorem Tups.ls {H : Hp} {a : Addr} {xs : List V} {o : HO} (h : H a = some (.lst xs)) : Tups H (upd H a o) := fun c ys e => by
  have n : c ≠ a := ne_of e h (by intro z; cases z)
  rw [upd_ne n]
  exact e
theorem Tups.same {H H' : Hp} (h : Same H H') : Tups H H' := fun a xs e => h a _ e
/-- the pot: the cells that are left, the great number at hand, the seed, how many were drawn -/
def Pot (H : Hp) (p l : Addr) (T : Nat) : Prop := ∃ (ns : List Int) (c m : Int) (t : Nat), H p = some (.lst [.ref l, .int c, .int m, .int (t : Int)]) ∧ H l = some (.lst (ns.map V.int)) ∧ 0 ≤ c ∧ t ≤ T ∧ ns.length ≤ 63
theorem Pot.ne {H : Hp} {p l : Addr} {T : Nat} (h : Pot H p l T) : p ≠ l := by
  obtain ⟨ns, c, m, t, h1, h2, _⟩ := h
  intro e
  rw [e, h2] at h1
  cases ns with
  | nil => exact absurd h1 (by intro z; cases z)
  | cons n r => exact absurd h1 (by intro z; cases z)
theorem Pot.mono {H : Hp} {p l : Addr} {T U : Nat} (h : Pot H p l T) (e : T ≤ U) : Pot H p l U := by
  obtain ⟨ns, c, m, t, h1, h2, h3, h4, h5⟩ := h
  exact ⟨ns, c, m, t, h1, h2, h3, Nat.le_trans h4 e, h5⟩
theorem Pot.new {H : Hp} {p l a : Addr} {T : Nat} {o : HO} (h : Pot H p l T) (n : H a = none) : Pot (upd H a o) p l T := by
  obtain ⟨ns, c, m, t, h1, h2, h3⟩ := h
  exact ⟨ns, c, m, t, by rw [upd_ne (ne_of_none h1 n)]; exact h1, by rw [upd_ne (ne_of_none h2 n)]; exact h2, h3⟩
theorem Pot.other {H : Hp} {p l a : Addr} {T : Nat} {o : HO} (h : Pot H p l T) (n1 : a ≠ p) (n2 : a ≠ l) : Pot (upd H a o) p l T := by
  obtain ⟨ns, c, m, t, h1, h2, h3⟩ := h
  exact ⟨ns, c, m, t, by rw [upd_ne n1.symm]; exact h1, by rw [upd_ne n2.symm]; exact h2, h3⟩
theorem Pot.notP {H : Hp} {p l a : Addr} {T : Nat} {xs : List V} (h : Pot H p l T) (e : H a = some (.tup xs)) : a ≠ p ∧ a ≠ l := by
  obtain ⟨ns, c, m, t, h1, h2, h3⟩ := h
  exact ⟨ne_of e h1 (by intro z; cases z), ne_of e h2 (by intro z; cases z)⟩
theorem Pot.fresh {H : Hp} {p l a : Addr} {T : Nat} (h : Pot H p l T) (e : H a = none) : a ≠ p ∧ a ≠ l := by
  obtain ⟨ns, c, m, t, h1, h2, h3⟩ := h
  exact ⟨(ne_of_none h1 e).symm, (ne_of_none h2 e).symm⟩
theorem Keep.tups {p l : Addr} {H H' : Hp} {T : Nat} (k : Keep p l H H') (h : Pot H p l T) : Tups H H' := fun a xs e => by
  obtain ⟨n1, n2⟩ := h.notP e
  exact k a _ n1 n2 e
/-! ### what is drawn -/
def spBlend : Sp := fun vs H Q _ => ∃ (n : Int) (t : Int), vs = [.int n, .int t] ∧ 0 ≤ t ∧ t < 2 ^ 62 ∧ ∀ r, Q (.int r) H
def spDraw : Sp := fun vs H Q _ => ∃ (p l : Addr) (T : Nat) (many : Int), vs = [.ref p, .int many] ∧ Pot H p l T ∧ T < 2 ^ 40 ∧ CDivW 0 many ∧
  ∀ d H', 0 ≤ d → d < many → Pot H' p l (T + 1) → Keep p l H H' → Q (.int d) H'
def spGreat : Sp := fun vs H Q _ => ∃ (p l : Addr) (T : Nat), vs = [.ref p] ∧ Pot H p l T ∧ T < 2 ^ 39 ∧
  ∀ d H', 0 ≤ d → d < 2 ^ 122 → Pot H' p l (T + 5) → Keep p l H H' → Q (.int d) H'
/-! ### tuples at addresses -/
def TupsAt (H : Hp) (as : List Addr) (xss : List (List V)) : Prop := as.length = xss.length ∧ ∀ (i : Nat) (a : Addr), as[i]? = some a → ∃ xs, xss[i]? = some xs ∧ H a = some (.tup xs)
theorem TupsAt.nil {H : Hp} : TupsAt H [] [] := ⟨rfl, fun i a h => by simp at h⟩
theorem TupsAt.mono {H H' : Hp} {as : List Addr} {xss : List (List V)} (h : TupsAt H as xss) (t : Tups H H') : TupsAt H' as xss := ⟨h.1, fun i a e => by
  obtain ⟨xs, h1, h2⟩ := h.2 i a e
  exact ⟨xs, h1, t a xs h2⟩⟩
theorem TupsAt.cons {H : Hp} {as : List Addr} {xss : List (List V)} {a : Addr} {xs : List V} (h : TupsAt H as xss) (e : H a = some (.tup xs)) : TupsAt H (a :: as) (xs :: xss) := by
  refine ⟨by simp [h.1], fun i b hb => ?_⟩
  cases i with
  | zero =>
    have : a = b := Option.some.inj hb
    subst this
    exact ⟨xs, rfl, e⟩
  | succ j => exact h.2 j b hb
theorem TupsAt.snoc {H : Hp} {as : List Addr} {xss : List (List V)} {a : Addr} {xs : List V} (h : TupsAt H as xss) (e : H a = some (.tup xs)) : TupsAt H (as ++ [a]) (xss ++ [xs]) := by
  refine ⟨by simp [h.1], fun i b hb => ?_⟩
  by_cases hi : i < as.length
  · rw [List.getElem?_append_left hi] at hb
    obtain ⟨ys, h1, h2⟩ := h.2 i b hb
    exact ⟨ys, by rw [List.getElem?_append_left (by rw [← h.1]; exact hi)]; exact h1, h2⟩
  · rw [List.getElem?_append_right (by omega)] at hb
    have hz : i - as.length = 0 := by
      cases hk : i - as.length with
      | zero => rfl
      | succ n =>
        rw [hk] at hb
        simp at hb
    rw [hz] at hb
    have : a = b := Option.some.inj hb
    subst this
    refine ⟨xs, ?_, e⟩
    rw [List.getElem?_append_right (by rw [← h.1]; omega), ← h.1, hz]
    rfl
theorem TupsAt.get {H : Hp} {as : List Addr} {xss : List (List V)} (h : TupsAt H as xss) {i : Nat} {v : V} (e : (as.map V.ref)[i]? = some v) : ∃ a xs, v = .ref a ∧ as[i]? = some a ∧ xss[i]? = some xs ∧ H a = some (.tup xs) := by
  rw [List.getElem?_map] at e
  cases q : as[i]? with
  | none =>
    rw [q] at e
    cases e
  | some a =>
    rw [q] at e
    have e' : V.ref a = v := Option.some.inj e
    obtain ⟨xs, h1, h2⟩ := h.2 i a q
    exact ⟨a, xs, e'.symm, rfl, h1, h2⟩
/-! ### wisps -/
abbrev stepV (p : Int × Int) : List V := [.int p.1, .int p.2]
def WispAt (H : Hp) (a : Addr) (s : Int) (ps : List (Int × Int)) : Prop := ∃ (st : Addr) (as : List Addr), H a = some (.tup [.int s, .ref st]) ∧ H st = some (.tup (as.map V.ref)) ∧ TupsAt H as (ps.map stepV)
theorem WispAt.mono {H H' : Hp} {a : Addr} {s : Int} {ps : List (Int × Int)} (h : WispAt H a s ps) (t : Tups H H') : WispAt H' a s ps := by
  obtain ⟨st, as, h1, h2, h3⟩ := h
  exact ⟨st, as, t _ _ h1, t _ _ h2, h3.mono t⟩
theorem step_get {H : Hp} {as : List Addr} {ps : List (Int × Int)} (h : TupsAt H as (ps.map stepV)) {i : Nat} {v : V} (e : (as.map V.ref)[i]? = some v) : ∃ a t g, v = .ref a ∧ ps[i]? = some (t, g) ∧ H a = some (.tup [.int t, .int g]) := by
  obtain ⟨a, xs, h1, _, h2, h3⟩ := h.get e
  rw [List.getElem?_map] at h2
  cases q : ps[i]? with
  | none =>
    rw [q] at h2
    cases h2
  | some p =>
    rw [q] at h2
    have e' : stepV p = xs := Option.some.inj h2
    subst e'
    exact ⟨a, p.1, p.2, h1, rfl, h3⟩
def Good (ps : List (Int × Int)) : Prop := 1 ≤ ps.length ∧ ps.length ≤ 10 ∧ ∀ p ∈ ps, 1 ≤ p.1 ∧ p.1 < 2 ^ 200 ∧ 1 ≤ p.2 ∧ p.2 < 2 ^ 200
def Falls (ps : List (Int × Int)) : Prop := ps.Pairwise (fun a b => b.1 < a.1)
def Small (ps : List (Int × Int)) : Prop := ∀ p ∈ ps, p.1 ≤ 1000 ∧ p.2 ≤ 3
def spPot (K : PySem.W.Frag) : Sp := fun vs H Q _ => ∃ (a : Addr) (ns : List Int), vs = [.ref a] ∧ SqL K H a (ns.map V.int) ∧ ns.length ≤ 63 ∧
  ∀ H' p l, Same H H' → H p = none → H l = none → Pot H' p l 0 → Q (.ref p) H'
def spWisp : Sp := fun vs H Q _ => ∃ (p l : Addr) (T : Nat) (most : Int) (small : Bool), vs = [.ref p, .int most, .bl small] ∧ Pot H p l T ∧ T < 2 ^ 38 ∧ 1 ≤ most ∧ most ≤ 10 ∧
  ∀ H' a s ps, Pot H' p l (T + 150) → Keep p l H H' → WispAt H' a s ps → 0 ≤ s → s ≤ 1 → Good ps → (ps.length : Int) ≤ most → Falls ps → (small = true → Small ps) → H a = none → Q (.ref a) H'
def spWhole : Sp := fun vs H Q _ => ∃ i : Int, vs = [.int i] ∧ Q (.bl true) H
theorem Keep.free {p l a : Addr} {H H' : Hp} {T : Nat} (k : Keep p l H H') (hp : Pot H' p l T) (h : H' a = none) : H a = none := by
  obtain ⟨n1, n2⟩ := hp.fresh h
  cases q : H a with
  | none => rfl
  | some o =>
    rw [k a o n1 n2 q] at h
    cases h
/-! ### the mirrors -/
def longs (ps : List (Int × Int)) : Int := (ps.map (·.2)).sum
def weigh (ps : List (Int × Int)) : Int := (ps.map fun p => p.1 * p.2).sum
def thickAt : List (Int × Int) → Int → Int
  | [], _ => 0
  | (t, g) :: r, k => if k < g then t else thickAt r (k - g)
abbrev rowV (t : Int × Int × Int) : List V := [.int t.1, .int t.2.1, .int t.2.2]
def tableOf : Int → List (Int × Int) → List (Int × Int × Int)
  | _, [] => []
  | b, (t, g) :: r => (b, b + g, t) :: tableOf (b + g) r
def inRow (k : Int) (t : Int × Int × Int) : Bool := decide (t.1 ≤ k) && decide (k < t.2.1)
def strongOf (k : Int) (ts : List (Int × Int × Int)) : Int := ((ts.filter (inRow k)).map (·.2.2)).sum
theorem longs_nonneg : ∀ {ps : List (Int × Int)}, (∀ p ∈ ps, 1 ≤ p.2) → 0 ≤ longs ps
  | [], _ => by decide
  | p :: r, h => by
    have h1 := h p (by simp)
    have h2 := longs_nonneg (ps := r) fun x hx => h x (by simp [hx])
    unfold longs at *
    rw [List.map_cons, List.sum_cons]
    omega
theorem longs_cons {p : Int × Int} {r : List (Int × Int)} : longs (p :: r) = p.2 + longs r := by
  unfold longs
  rw [List.map_cons, List.sum_cons]
theorem weigh_cons {p : Int × Int} {r : List (Int × Int)} : weigh (p :: r) = p.1 * p.2 + weigh r := by
  unfold weigh
  rw [List.map_cons, List.sum_cons]
theorem table_len : ∀ (ps : List (Int × Int)) (b : Int), (tableOf b ps).length = ps.length
  | [], _ => rfl
  | (t, g) :: r, b => by
    show (tableOf (b + g) r).length + 1 = r.length + 1
    rw [table_len r]
theorem table_get : ∀ (ps : List (Int × Int)) (b : Int) (i : Nat) (t g : Int), ps[i]? = some (t, g) → (tableOf b ps)[i]? = some (b + longs (ps.take i), b + longs (ps.take (i + 1)), t)
  | [], _, _, _, _, h => by simp at h
  | (t', g') :: r, b, 0, t, g, h => by
    have e := Option.some.inj h
    obtain ⟨rfl, rfl⟩ := Prod.mk.inj e
    show some (b, b + g', t') = some (b + longs [], b + longs [(t', g')], t')
    unfold longs
    simp
  | (t', g') :: r, b, i + 1, t, g, h => by
    show (tableOf (b + g') r)[i]? = some (b + longs ((t', g') :: r.take i), b + longs ((t', g') :: r.take (i + 1)), t)
    rw [table_get r (b + g') i t g h, longs_cons, longs_cons]
    simp only [Int.add_assoc]
theorem strong_cons {k : Int} {t : Int × Int × Int} {ts : List (Int × Int × Int)} : strongOf k (t :: ts) = (if inRow k t = true then t.2.2 else 0) + strongOf k ts := by
  unfold strongOf
  rw [List.filter_cons]
  split
  · rw [List.map_cons, List.sum_cons]
  · rw [Int.zero_add]
theorem strong_table : ∀ (ps : List (Int × Int)) (b k : Int), (∀ p ∈ ps, 1 ≤ p.2) → strongOf k (tableOf b ps) = if k < b then 0 else thickAt ps (k - b)
  | [], b, k, _ => by
    show (0 : Int) = if k < b then 0 else 0
    split <;> rfl
  | (t, g) :: r, b, k, h => by
    have hg : 1 ≤ g := h (t, g) (by simp)
    have ih := strong_table r (b + g) k fun x hx => h x (by simp [hx])
    show strongOf k ((b, b + g, t) :: tableOf (b + g) r) = if k < b then 0 else if k - b < g then t else thickAt r (k - b - g)
    rw [strong_cons, ih]
    have e : k - b - g = k - (b + g) := by omega
    rw [e]
    by_cases h1 : k < b
    · rw [if_pos h1, if_pos (show k < b + g by omega), if_neg]
      · rfl
      · intro z
        have := (Bool.and_eq_true_iff.mp z).1
        have := of_decide_eq_true this
        simp only at this
        omega
    · by_cases h2 : k - b < g
      · rw [if_neg h1, if_pos h2, if_pos (show k < b + g by omega), if_pos]
        · show t + 0 = t
          omega
        · exact Bool.and_eq_true_iff.mpr ⟨decide_eq_true (show b ≤ k by omega), decide_eq_true (show k < b + g by omega)⟩
      · rw [if_neg h1, if_neg h2, if_neg (show ¬ k < b + g by omega), if_neg]
        · omega
        · intro z
          have := of_decide_eq_true (Bool.and_eq_true_iff.mp z).2
          simp only at this
          omega
def dueOf (ts : List (Int × Int × Int)) : Int := (ts.map fun t => (t.2.1 - t.1) * t.2.2).sum
theorem due_table : ∀ (ps : List (Int × Int)) (b : Int), dueOf (tableOf b ps) = weigh ps
  | [], _ => rfl
  | (t, g) :: r, b => by
    have ih := due_table r (b + g)
    show ((b, b + g, t) :: tableOf (b + g) r |>.map fun t => (t.2.1 - t.1) * t.2.2).sum = weigh ((t, g) :: r)
    rw [weigh_cons, List.map_cons, List.sum_cons, ← ih]
    show (b + g - b) * t + dueOf _ = t * g + dueOf _
    rw [show b + g - b = g by omega, Int.mul_comm]
def sumTo (n : Nat) (f : Int → Int) : Int := ((List.range n).map fun (i : Nat) => f (i : Int)).sum
theorem sumTo_succ (n : Nat) (f : Int → Int) : sumTo (n + 1) f = sumTo n f + f n := by
  unfold sumTo
  rw [List.range_succ, List.map_append, List.sum_append]
  simp
theorem sumTo_const (t : Int) : ∀ n : Nat, sumTo n (fun _ => t) = n * t
  | 0 => by simp [sumTo]
  | n + 1 => by
    rw [sumTo_succ, sumTo_const t n, Int.natCast_add, Int.add_mul]
    simp
theorem sumTo_add (f : Int → Int) (n : Nat) : ∀ m : Nat, sumTo (n + m) f = sumTo n f + sumTo m (fun k => f (n + k))
  | 0 => by simp [sumTo]
  | m + 1 => by
    rw [← Nat.add_assoc, sumTo_succ, sumTo_succ, sumTo_add f n m, Int.natCast_add, Int.add_assoc]
theorem sumTo_congr {f g : Int → Int} : ∀ n : Nat, (∀ i : Nat, i < n → f i = g i) → sumTo n f = sumTo n g
  | 0, _ => rfl
  | n + 1, h => by
    rw [sumTo_succ, sumTo_succ, sumTo_congr n (fun i hi => h i (by omega)), h n (by omega)]
theorem sumTo_thick : ∀ (ps : List (Int × Int)) (n : Nat), (∀ p ∈ ps, 1 ≤ p.2) → longs ps ≤ n → sumTo n (thickAt ps) = weigh ps
  | [], n, _, _ => by
    rw [show thickAt [] = fun _ => 0 from funext fun _ => rfl, sumTo_const]
    simp [weigh]
  | (t, g) :: r, n, h, hl => by
    have hg : 1 ≤ g := h (t, g) (by simp)
    rw [longs_cons] at hl
    have hl : g + longs r ≤ n := hl
    have h0 := longs_nonneg (ps := r) fun x hx => h x (by simp [hx])
    obtain ⟨G, rfl⟩ : ∃ G : Nat, g = G := ⟨g.toNat, by omega⟩
    obtain ⟨m, rfl⟩ : ∃ m : Nat, n = G + m := ⟨n - G, by omega⟩
    rw [sumTo_add, weigh_cons]
    have ih := sumTo_thick r m (fun x hx => h x (by simp [hx])) (by omega)
    have e1 : sumTo G (thickAt ((t, (G : Int)) :: r)) = G * t := by
      rw [← sumTo_const t G]
      refine sumTo_congr G fun i hi => ?_
      show (if (i : Int) < G then t else _) = t
      rw [if_pos (by omega)]
    have e2 : sumTo m (fun k => thickAt ((t, (G : Int)) :: r) (G + k)) = sumTo m (thickAt r) := by
      refine sumTo_congr m fun i _ => ?_
      show (if (G : Int) + i < G then t else thickAt r ((G : Int) + i - G)) = thickAt r i
      rw [if_neg (by omega), show (G : Int) + i - G = i by omega]
    rw [e1, e2, ih, Int.mul_comm]
theorem take_map_succ {α β : Type} {l : List α} {i : Nat} {x : α} (f : α → β) (h : l[i]? = some x) : (l.take (i + 1)).map f = (l.take i).map f ++ [f x] := by
  rw [List.take_add_one, h, List.map_append]
  rfl
theorem longs_take {ps : List (Int × Int)} {i : Nat} {t g : Int} (h : ps[i]? = some (t, g)) : longs (ps.take (i + 1)) = longs (ps.take i) + g := by
  unfold longs
  rw [take_map_succ _ h, List.sum_append]
  simp
theorem Same.wisp {H H' : Hp} {a : Addr} {s : Int} {ps : List (Int × Int)} (e : Same H H') (h : WispAt H a s ps) : WispAt H' a s ps := h.mono (Tups.same e)
theorem same_new {H H1 : Hp} {p : Addr} {o : HO} (k : Same H H1) (h : H1 p = none) : Same H (upd H1 p o) := fun b x e => by
  have e1 := k b x e
  rw [upd_ne (ne_of_none e1 h)]
  exact e1
theorem same_mine {H H1 : Hp} {p : Addr} {o : HO} (k : Same H H1) (h : H p = none) : Same H (upd H1 p o) := fun b x e => by
  rw [upd_ne (ne_of_none e h)]
  exact k b x e
theorem Same.free' {H H' : Hp} (e : Same H H') {l : Addr} (h : H' l = none) : H l = none := Same.free e h
theorem mul_ok {ps : List (Int × Int)} (h : Good ps) {i : Nat} {t g : Int} (e : ps[i]? = some (t, g)) : CMulW t g := by
  obtain ⟨_, _, h3⟩ := h
  have := h3 (t, g) (List.mem_of_getElem? e)
  refine wide_mul (a := 200) (b := 200) ?_ ?_ (by decide) (by decide) (by decide)
  · have h1 : t < 2 ^ 200 := this.2.1
    have h0 : 1 ≤ t := this.1
    have h2 : (t.natAbs : Int) = t := by omega
    have h3 : (t.natAbs : Int) < ((2 ^ 200 : Nat) : Int) := by rw [h2]; exact h1
    exact Int.ofNat_lt.mp h3
  · have h1 : g < 2 ^ 200 := this.2.2.2
    have h0 : 1 ≤ g := this.2.2.1
    have h2 : (g.natAbs : Int) = g := by omega
    have h3 : (g.natAbs : Int) < ((2 ^ 200 : Nat) : Int) := by rw [h2]; exact h1
    exact Int.ofNat_lt.mp h3
def spLen : Sp := fun vs H Q _ => ∃ (a : Addr) (s : Int) (ps : List (Int × Int)), vs = [.ref a] ∧ WispAt H a s ps ∧ Good ps ∧ ∀ H', Same H H' → Q (.int (longs ps)) H'
def spWeight : Sp := fun vs H Q _ => ∃ (a : Addr) (s : Int) (ps : List (Int × Int)), vs = [.ref a] ∧ WispAt H a s ps ∧ Good ps ∧ ∀ H', Same H H' → Q (.int (weigh ps)) H'
def spThick : Sp := fun vs H Q _ => ∃ (a : Addr) (s : Int) (ps : List (Int × Int)) (k : Int), vs = [.ref a, .int k] ∧ WispAt H a s ps ∧ Q (.int (thickAt ps k)) H
def TableAt (H : Hp) (o : Addr) (ts : List (Int × Int × Int)) : Prop := ∃ as, H o = some (.lst (as.map V.ref)) ∧ TupsAt H as (ts.map rowV)
def spTable : Sp := fun vs H Q _ => ∃ (a : Addr) (s : Int) (ps : List (Int × Int)), vs = [.ref a] ∧ WispAt H a s ps ∧ ps.length ≤ 10 ∧ ∀ H' o, Same H H' → H o = none → TableAt H' o (tableOf 0 ps) → Q (.ref o) H'
def spStrong : Sp := fun vs H Q _ => ∃ (a : Addr) (s : Int) (ps : List (Int × Int)) (k : Int), vs = [.ref a, .int k] ∧ WispAt H a s ps ∧ Good ps ∧ 0 ≤ k ∧ ∀ H', Same H H' → Q (.int (thickAt ps k)) H'
def spSpots : Sp := fun vs H Q _ => ∃ (p l : Addr) (T : Nat) (a : Addr) (s : Int) (ps : List (Int × Int)), vs = [.ref p, .ref a] ∧ Pot H p l T ∧ T < 2 ^ 38 ∧ WispAt H a s ps ∧ Good ps ∧
  ∀ (H' : Hp) (o : Addr) (ns : List Int), Pot H' p l (T + 10) → Keep p l H H' → H o = none → H' o = some (.lst (ns.map V.int)) → (∀ n ∈ ns, (0 : Int) ≤ n) → ns.length ≤ 100 → Q (.ref o) H'
theorem row_get {H : Hp} {as : List Addr} {ts : List (Int × Int × Int)} (h : TupsAt H as (ts.map rowV)) {i : Nat} {v : V} (e : (as.map V.ref)[i]? = some v) : ∃ a b c d, v = .ref a ∧ ts[i]? = some (b, c, d) ∧ H a = some (.tup [.int b, .int c, .int d]) := by
  obtain ⟨a, xs, h1, _, h2, h3⟩ := h.get e
  rw [List.getElem?_map] at h2
  cases q : ts[i]? with
  | none =>
    rw [q] at h2
    cases h2
  | some p =>
    rw [q] at h2
    have e' : rowV p = xs := Option.some.inj h2
    subst e'
    exact ⟨a, p.1, p.2.1, p.2.2, h1, rfl, h3⟩
theorem yesIte {σ : L2.St} {H : Hp} {A B : Hp → Prop} (h : A H) : tYes σ H (fun b H3 => if b = true then A H3 else B H3) := by
  show if true = true then A H else B H
  rw [if_pos rfl]
  exact h
def spRight : Sp := fun vs H Q _ => ∃ (p l : Addr) (T : Nat) (a : Addr) (s : Int) (ps : List (Int × Int)) (small : Bool), vs = [.ref p, .ref a, .bl small] ∧ Pot H p l T ∧ T < 2 ^ 37 ∧ WispAt H a s ps ∧ Good ps ∧ (small = true → Small ps) ∧
  ∀ (H' : Hp), Pot H' p l (T + 15) → Keep p l H H' → Q (.bl true) H'
theorem Pot.same {H H' : Hp} {p l : Addr} {T : Nat} (h : Pot H p l T) (e : Same H H') : Pot H' p l T := by
  obtain ⟨ns, c, m, t, h1, h2, h3⟩ := h
  exact ⟨ns, c, m, t, e _ _ h1, e _ _ h2, h3⟩
theorem Same.keep {p l : Addr} {H H' : Hp} (e : Same H H') : Keep p l H H' := fun c o _ _ h => e c o h
theorem WispAt.keep {p l : Addr} {H H' : Hp} {T : Nat} {a : Addr} {s : Int} {ps : List (Int × Int)} (h : WispAt H a s ps) (k : Keep p l H H') (hp : Pot H p l T) : WispAt H' a s ps := h.mono (k.tups hp)
theorem longs_small : ∀ {ps : List (Int × Int)}, Small ps → longs ps ≤ 3 * ps.length
  | [], _ => by decide
  | p :: r, h => by
    have h1 := h p (by simp)
    have h2 := longs_small (ps := r) fun x hx => h x (by simp [hx])
    rw [longs_cons, List.length_cons]
    omega
theorem table_last : ∀ (ps : List (Int × Int)) (b : Int), ps ≠ [] → ∃ b' t, (tableOf b ps).getLast? = some (b', b + longs ps, t)
  | [], _, h => absurd rfl h
  | [(t, g)], b, _ => ⟨b, t, by
    show some (b, b + g, t) = some (b, b + longs [(t, g)], t)
    rw [longs_cons]
    show some (b, b + g, t) = some (b, b + (g + 0), t)
    rw [Int.add_zero]⟩
  | (t, g) :: x :: r, b, _ => by
    obtain ⟨b', t', h⟩ := table_last (x :: r) (b + g) (by simp)
    refine ⟨b', t', ?_⟩
    have e : tableOf b ((t, g) :: x :: r) = (b, b + g, t) :: tableOf (b + g) (x :: r) := rfl
    have e2 : ∃ y ys, tableOf (b + g) (x :: r) = y :: ys := ⟨_, _, rfl⟩
    obtain ⟨y, ys, e2⟩ := e2
    rw [e, e2, List.getLast?_cons_cons, ← e2, h, longs_cons (p := (t, g)), Int.add_assoc]
theorem mulw_symm {i j : Int} (h : CMulW i j) : CMulW j i := by
  unfold CMulW at *
  omega
theorem iteNT {A B : Prop} (h : B) : if (!true) = true then A else B := by
  rw [if_neg (by decide)]
  exact h
def spLaw (K : PySem.W.Frag) : Sp := fun vs H Q _ => ∃ (a : Addr) (ns : List Int), vs = [.ref a] ∧ SqL K H a (ns.map V.int) ∧ ns.length ≤ 63 ∧ ∀ H', Q (.bl true) H'
/-! ### things made of tuples and whole numbers, looked at part by part -/
theorem lcZip {K : PySem.W.Frag} {a b : Addr} {xs ys : List V} {g : TG} {tt : TT} {te : TE} {us : List Nat} {σ : L2.St} {H1 : Hp} {D : Addr} {Qd : Hp → Prop} (hl : xs.length = ys.length) (Pv : Nat → Hp → Prop) (h0 : Pv 0 (upd H1 D (.lst []))) (hq : ∀ i H, Pv i H → SqT K H a xs ∧ SqT K H b ys)
    (hs : ∀ i x y T H, xs[i]? = some x → ys[i]? = some y → H T = none → Pv i H → g (.ref T) (wipe σ us) (upd H T (.tup [x, y])) fun σ2 H2 => wipe σ2 us = wipe σ us ∧ tt σ2 H2 fun c H3 =>
      if c = true then te σ2 H3 fun y H4 => ∃ acc, H4 D = some (.lst acc) ∧ acc.length < sizeLine ∧ Pv (i + 1) (upd H4 D (.lst (acc ++ [y]))) else Pv (i + 1) H3) (hd : ∀ H, Pv xs.length H → Qd H) :
    ∃ W : Nat → Nat → Hp → Prop, (∃ m, W 0 m (upd H1 D (.lst []))) ∧ ∀ i m H, W i m H →
      ((RZ.ItzT K a b).stop i H ∧ Qd H) ∨ ((RZ.ItzT K a b).go i H ∧ ∃ Nx : Hp → Prop, (∀ H', Nx H' → ∃ m', m' < m ∧ W (i + 1) m' H') ∧ ∀ x H', (RZ.ItzT K a b).yld i H x H' → g x (wipe σ us) H' fun σ2 H2 => wipe σ2 us = wipe σ us ∧ tt σ2 H2 fun c H3 =>
        if c = true then te σ2 H3 fun y H4 => ∃ acc, H4 D = some (.lst acc) ∧ acc.length < sizeLine ∧ Nx (upd H4 D (.lst (acc ++ [y]))) else Nx H3) := by
  refine ⟨fun i m H => i + m = xs.length ∧ Pv i H, ⟨xs.length, Nat.zero_add _, h0⟩, fun i m H ⟨em, p⟩ => ?_⟩
  obtain ⟨q1, q2⟩ := hq i H p
  by_cases hi : i < xs.length
  · have g1 : xs[i]? = some xs[i] := List.getElem?_eq_getElem hi
    have g2 : ys[i]? = some (ys[i]'(by omega)) := List.getElem?_eq_getElem (by omega)
    refine .inr ⟨⟨xs, ys, _, _, q1, q2, g1, g2⟩, Pv (i + 1), fun H' p' => ⟨m - 1, by omega, by omega, p'⟩, fun v H' hy => ?_⟩
    obtain ⟨T, x, y, rfl, nT, rfl, f1, f2⟩ := hy
    exact hs i x y T H (f1 _ q1) (f2 _ q2) nT p
  · have e : i = xs.length := by omega
    subst e
    exact .inl ⟨⟨xs, ys, q1, q2, .inl (Nat.le_refl _)⟩, hd H p⟩
theorem sqt_ty {K : PySem.W.Frag} {H : Hp} {a : Addr} {xs : List V} (h : SqT K H a xs) : TyX K H (.ref a) (.type "tuple") := by
  rcases h with (h | ⟨o, h⟩) | ⟨o, its, n, hk, hc, _⟩
  · exact .base (.tup h)
  · exact .fTuple h
  · exact .kTuple hk hc
theorem Same.sqt {K : PySem.W.Frag} {H H' : Hp} {a : Addr} {xs : List V} (e : Same H H') (h : SqT K H a xs) : SqT K H' a xs := by
  rcases h with (h | ⟨o, h⟩) | h
  · exact .inl (.inl (e _ _ h))
  · exact .inl (.inr ⟨o, e _ _ h⟩)
  · exact .inr h
inductive TI : PyData → Prop where
  | int (i : Int) : TI (.int i)
  | tup {xs : List PyData} (h : ∀ x ∈ xs, TI x) (hl : xs.length ≤ 5000) : TI (.tuple xs)
theorem depth_mem : ∀ {xs : List PyData} {x : PyData}, x ∈ xs → x.depth ≤ PyData.depthAll xs
  | y :: r, x, h => by
    show x.depth ≤ max y.depth (PyData.depthAll r)
    rcases List.mem_cons.mp h with rfl | h
    · exact Nat.le_max_left _ _
    · exact Nat.le_trans (depth_mem h) (Nat.le_max_right _ _)
mutual
theorem Dp.same {K : PySem.W.Frag} {H H' : Hp} (e : Same H H') : ∀ {v : V} (d : PyData), Dp K H v d → Dp K H' v d
  | _, .none, .non => .non
  | _, .bool _, .bl _ => .bl _
  | _, .int _, .int _ => .int _
  | _, .str _, .str _ => .str _
  | _, .list ds, .lst h a => .lst (e.seq h) (DpAll.same e ds a)
  | _, .tuple ds, .tup h a => .tup (Same.sqt e h) (DpAll.same e ds a)
theorem DpAll.same {K : PySem.W.Frag} {H H' : Hp} (e : Same H H') : ∀ {vs : List V} (ds : List PyData), DpAll K H vs ds → DpAll K H' vs ds
  | _, [], .nil => .nil
  | _, d :: ds, .cons h a => .cons (Dp.same e d h) (DpAll.same e ds a)
end
theorem DpAll.len {K : PySem.W.Frag} {H : Hp} : ∀ {vs : List V} {ds : List PyData}, DpAll K H vs ds → vs.length = ds.length
  | _, _, .nil => rfl
  | _, _, .cons _ a => congrArg (· + 1) (DpAll.len a)
theorem DpAll.at {K : PySem.W.Frag} {H : Hp} : ∀ {vs : List V} {ds : List PyData} {i : Nat} {v : V}, DpAll K H vs ds → vs[i]? = some v → ∃ d, ds[i]? = some d ∧ Dp K H v d
  | _, _, _, _, .nil, h => by simp at h
  | _, _, 0, v, .cons h a, e => ⟨_, rfl, by have e' := Option.some.inj e; rw [← e']; exact h⟩
  | _, _, i + 1, v, .cons h a, e => DpAll.at (i := i) a e
def spSame (K : PySem.W.Frag) (n : Nat) : Sp := fun vs H Q _ => ∃ (x y : V) (d : PyData), vs = [x, y] ∧ TI d ∧ d.depth < n ∧ Dp K H x d ∧ Dp K H y d ∧ ∀ H', Same H H' → Q (.bl true) H'
def wispD (s : Int) (ps : List (Int × Int)) : PyData := .tuple [.int s, .tuple (ps.map fun p => .tuple [.int p.1, .int p.2])]
theorem wisp_ti {s : Int} {ps : List (Int × Int)} (h : ps.length ≤ 5000) : TI (wispD s ps) := by
  refine .tup (fun x hx => ?_) (by show 2 ≤ 5000; decide)
  simp only [List.mem_cons, List.not_mem_nil, or_false] at hx
  rcases hx with rfl | rfl
  · exact .int _
  · refine .tup (fun x hx => ?_) (by rw [List.length_map]; exact h)
    obtain ⟨p, _, rfl⟩ := List.mem_map.mp hx
    refine .tup (fun x hx => ?_) (by show 2 ≤ 5000; decide)
    simp only [List.mem_cons, List.not_mem_nil, or_false] at hx
    rcases hx with rfl | rfl
    · exact .int _
    · exact .int _
theorem wisp_depth (s : Int) (ps : List (Int × Int)) : (wispD s ps).depth ≤ 3 := by
  have h : PyData.depthAll (ps.map fun p => PyData.tuple [.int p.1, .int p.2]) ≤ 1 := by
    induction ps with
    | nil => decide
    | cons p r ih => exact Nat.max_le.mpr ⟨by show max 0 (max 0 0) + 1 ≤ 1; decide, ih⟩
  show max 0 (max (PyData.depthAll (ps.map fun p => PyData.tuple [.int p.1, .int p.2]) + 1) 0) + 1 ≤ 3
  omega
theorem tups_dp {K : PySem.W.Frag} {H : Hp} : ∀ {as : List Addr} {ps : List (Int × Int)}, TupsAt H as (ps.map stepV) → DpAll K H (as.map V.ref) (ps.map fun p => .tuple [.int p.1, .int p.2])
  | [], [], _ => .nil
  | [], p :: r, h => absurd h.1 (by simp)
  | a :: r, [], h => absurd h.1 (by simp)
  | a :: as, p :: ps, h => by
    obtain ⟨xs, h1, h2⟩ := h.2 0 a rfl
    have e : stepV p = xs := Option.some.inj h1
    subst e
    exact .cons (.tup (SqT.of h2) (.cons (.int _) (.cons (.int _) .nil))) (tups_dp ⟨Nat.succ.inj (by simpa using h.1), fun i b hb => h.2 (i + 1) b hb⟩)
theorem WispAt.dp {K : PySem.W.Frag} {H : Hp} {a : Addr} {s : Int} {ps : List (Int × Int)} (h : WispAt H a s ps) : Dp K H (.ref a) (wispD s ps) := by
  obtain ⟨st, as, h1, h2, h3⟩ := h
  exact .tup (SqT.of h1) (.cons (.int s) (.cons (.tup (SqT.of h2) (tups_dp h3)) .nil))
/-! ### how long what repr tells is -/
/-- all numbers of a thing are below 2 ^ 400 -/
inductive Sh : PyData → Prop where
  | non : Sh .none
  | bl (b : Bool) : Sh (.bool b)
  | int {i : Int} (h : i.natAbs.log2 < 400) : Sh (.int i)
  | lst {xs : List PyData} (h : ∀ x ∈ xs, Sh x) : Sh (.list xs)
  | tup {xs : List PyData} (h : ∀ x ∈ xs, Sh x) : Sh (.tuple xs)
theorem sh_all {xs : List PyData} (h : ∀ x ∈ xs, x.showable = true ∧ x.hasDict = false ∧ x.leavesShort 401 = true) : PyData.showableAll xs = true ∧ PyData.hasDictAll xs = false ∧ PyData.leavesShortAll 401 xs = true := by
  induction xs with
  | nil => exact ⟨rfl, rfl, rfl⟩
  | cons x r ih =>
    obtain ⟨h1, h2, h3⟩ := h x (by simp)
    obtain ⟨g1, g2, g3⟩ := ih fun y hy => h y (by simp [hy])
    refine ⟨?_, ?_, ?_⟩
    · show (x.showable && PyData.showableAll r) = true
      rw [h1, g1]
      rfl
    · show (x.hasDict || PyData.hasDictAll r) = false
      rw [h2, g2]
      rfl
    · show (x.leavesShort 401 && PyData.leavesShortAll 401 r) = true
      rw [h3, g3]
      rfl
theorem Sh.ok {d : PyData} (h : Sh d) : d.showable = true ∧ d.hasDict = false ∧ d.leavesShort 401 = true := by
  induction h with
  | non => exact ⟨rfl, rfl, rfl⟩
  | bl b => exact ⟨rfl, rfl, rfl⟩
  | int h =>
    refine ⟨decide_eq_true (by omega), rfl, decide_eq_true ?_⟩
    have := int_text_length_le (by decide) h
    show (Str.ofString (toString _)).length ≤ 401
    rw [PySem.ofString_length]
    exact this
  | lst _ ih => exact sh_all ih
  | tup _ ih => exact sh_all ih
theorem Sh.fits {d : PyData} (h : Sh d) (hb : d.bulk ≤ 20000) : d.shown.length ≤ sizeLine := by
  have h1 := PyData.shown_le_bulk 401 (by decide) d h.ok.2.2
  have h2 : (401 + 2) * d.bulk ≤ (401 + 2) * 20000 := Nat.mul_le_mul_left _ hb
  rw [sizeLine_eq]
  omega
theorem log_lt {i : Int} (h0 : 0 ≤ i) (h : i < 2 ^ 250) : i.natAbs.log2 < 400 := by
  by_cases hz : i.natAbs = 0
  · rw [hz]
    decide
  · have h2 : (i.natAbs : Int) = i := by omega
    have h3 : (i.natAbs : Int) < ((2 ^ 250 : Nat) : Int) := by rw [h2]; exact h
    have h4 : i.natAbs < 2 ^ 250 := Int.ofNat_lt.mp h3
    have := (Nat.log2_lt hz).mpr h4
    omega
theorem sh_nat {i : Int} (h0 : 0 ≤ i) (h : i < 2 ^ 200) : Sh (.int i) := .int (log_lt h0 (Int.lt_trans h (by decide)))
theorem wisp_sh {s : Int} {ps : List (Int × Int)} (h0 : 0 ≤ s) (h1 : s ≤ 1) (g : Good ps) : Sh (wispD s ps) := by
  refine .tup fun x hx => ?_
  simp only [List.mem_cons, List.not_mem_nil, or_false] at hx
  rcases hx with rfl | rfl
  · exact sh_nat h0 (Int.lt_of_le_of_lt h1 (by decide))
  · refine .tup fun x hx => ?_
    obtain ⟨p, hp, rfl⟩ := List.mem_map.mp hx
    have hg := g.2.2 p hp
    refine .tup fun x hx => ?_
    simp only [List.mem_cons, List.not_mem_nil, or_false] at hx
    rcases hx with rfl | rfl
    · exact sh_nat (by omega) hg.2.1
    · exact sh_nat (by omega) hg.2.2.2
theorem wisp_bulk (s : Int) (ps : List (Int × Int)) : (wispD s ps).bulk ≤ 3 * ps.length + 2 := by
  have h : PyData.bulkAll (ps.map fun p => PyData.tuple [.int p.1, .int p.2]) = 3 * ps.length := by
    induction ps with
    | nil => rfl
    | cons p r ih =>
      show (0 + 1 + (0 + 1 + 0)) + 1 + PyData.bulkAll (r.map fun p => PyData.tuple [.int p.1, .int p.2]) = 3 * (r.length + 1)
      rw [ih]
      omega
  show 0 + 1 + (PyData.bulkAll (ps.map fun p => PyData.tuple [.int p.1, .int p.2]) + 1 + 0) ≤ 3 * ps.length + 2
  omega
theorem last_row {H : Hp} {as : List Addr} {ps : List (Int × Int)} (tu : TupsAt H as ((tableOf 0 ps).map rowV)) (gd : 1 ≤ ps.length) : ∃ z b t, atI (as.map V.ref) (-1) = some (.ref z) ∧ H z = some (.tup [.int b, .int (longs ps), .int t]) := by
  have hne : ps ≠ [] := fun e => by
    rw [e] at gd
    exact absurd gd (by decide)
  obtain ⟨b', t', hl⟩ := table_last ps 0 hne
  rw [Int.zero_add, List.getLast?_eq_getElem?] at hl
  have hlen : as.length = (tableOf 0 ps).length := by
    have := tu.1
    rw [List.length_map] at this
    exact this
  have hpos : 0 < (tableOf 0 ps).length := by
    rw [table_len]
    omega
  have hi : (tableOf 0 ps).length - 1 < as.length := by omega
  have e1 : (as.map V.ref)[(tableOf 0 ps).length - 1]? = some (.ref as[(tableOf 0 ps).length - 1]) := by
    rw [List.getElem?_map, List.getElem?_eq_getElem hi]
    rfl
  obtain ⟨z, b, c, d, e2, e3, e4⟩ := row_get tu e1
  rw [hl] at e3
  have e5 := Option.some.inj e3
  obtain ⟨e6, e7⟩ := Prod.mk.inj e5
  obtain ⟨e8, e9⟩ := Prod.mk.inj e7
  rw [← e6, ← e8, ← e9] at e4
  refine ⟨z, b', t', ?_, e4⟩
  have h0 : as.map V.ref ≠ [] := fun e => by
    have := congrArg List.length e
    rw [List.length_map, hlen] at this
    have this : (tableOf 0 ps).length = 0 := this
    omega
  have h2 : (as.map V.ref).getLast h0 = .ref z := by
    have := List.getLast?_eq_getLast h0
    rw [List.getLast?_eq_getElem?, List.length_map, hlen, e1] at this
    exact (Option.some.inj this).symm.trans e2
  have h1 := List.dropLast_concat_getLast h0
  rw [h2] at h1
  rw [← h1]
  exact atI_last _ _
theorem longs_lt {ps : List (Int × Int)} (g : Good ps) : longs ps < 2 ^ 204 := by
  have h : ∀ qs : List (Int × Int), (∀ p ∈ qs, p.2 < 2 ^ 200) → longs qs ≤ qs.length * 2 ^ 200 := by
    intro qs
    induction qs with
    | nil => intro _; decide
    | cons p r ih =>
      intro hq
      have h1 := hq p (by simp)
      have h2 := ih fun x hx => hq x (by simp [hx])
      rw [longs_cons, List.length_cons, Int.natCast_add, Int.add_mul]
      have h3 : ((1 : Nat) : Int) * 2 ^ 200 = 2 ^ 200 := by decide
      rw [h3]
      omega
  have h1 := h ps fun p hp => (g.2.2 p hp).2.2.2
  have h2 : (ps.length : Int) * 2 ^ 200 ≤ 10 * 2 ^ 200 := Int.mul_le_mul_of_nonneg_right (by have := g.2.1; omega) (by decide)
  have h3 : (10 : Int) * 2 ^ 200 < 2 ^ 204 := by decide
  omega
theorem fit_of {b : Int} (h0 : 1 ≤ b) (h : b < 2 ^ 210) : CDivW 0 b := by
  refine wide_div (b := 210) (by omega) ?_ (by decide) (by decide)
  have h2 : (b.natAbs : Int) = b := by omega
  have h3 : (b.natAbs : Int) < ((2 ^ 210 : Nat) : Int) := by rw [h2]; exact h
  exact Int.ofNat_lt.mp h3
def spRightG : Sp := fun vs H Q _ => ∃ (p l : Addr) (T : Nat) (a : Addr) (s : Int) (ps : List (Int × Int)), vs = [.ref p, .ref a] ∧ Pot H p l T ∧ T < 2 ^ 36 ∧ WispAt H a s ps ∧ Good ps ∧ 0 ≤ s ∧ s ≤ 1 ∧
  ∀ (H' : Hp), Pot H' p l (T + 2000) → Keep p l H H' → Q (.bl true) H'
theorem int_get {ns : List Int} {i : Nat} {x : V} (h : (ns.map V.int)[i]? = some x) : ∃ n, x = .int n ∧ ns[i]? = some n := by
  rw [List.getElem?_map] at h
  cases q : ns[i]? with
  | none =>
    rw [q] at h
    cases h
  | some n =>
    rw [q] at h
    exact ⟨n, (Option.some.inj h).symm, rfl⟩
theorem filter_take_succ {α : Type} {l : List α} {i : Nat} {x : α} (p : α → Bool) (h : l[i]? = some x) : (l.take (i + 1)).filter p = (l.take i).filter p ++ (if p x = true then [x] else []) := by
  rw [List.take_add_one, h, List.filter_append]
  show _ ++ List.filter p [x] = _
  rw [List.filter_cons]
  rfl
/-! ### max(numbers, default=d) -/
section
variable {prog : Program} {w : World} {A : Around} {R : Result → Shared → Prop} {I : Addr} {fp wr : List Addr} {n : Nat} {P : Nat → Value → Prop} {St : Nat → Heap → Prop}
theorem maxLoopD (W : Walks prog w A.in1 I fp wr n P St) (bt : Nat → Nat → Bool) (cm : CmpOf prog w A.in1 .Gt P bt) (S : Addr) (nS : S ∉ fp) (dv : Value) : ∀ (k j : Nat) (t : Shared) (vb : Value) (c : Nat), n - (j + 1) = k → j + 1 ≤ n → St (j + 1) t.heap → P (argBest bt j) vb →
    t.heap.get? S = some { cls := .type "list", dict := none, data := .seq #[vb, vb] c, slots := #[] } → (∀ v h' tk, P (argBest bt (n - 1)) v → (∀ b o, b ∉ wr → b ≠ S → t.heap.get? b = some o → h'.get? b = some o) → R (.ok (.ret v)) { t with heap := h', toks := tk }) →
    codeAny (model prog w) A (.builtin "max.loop" ⟨[.ref I, .none, .ref S], [("default", dv)]⟩) R t := by
  have nW : S ∉ wr := fun h => nS (W.sub _ h)
  have nm : (toString "max" ++ toString ".loop" : String) = "max.loop" := by decide
  intro k
  induction k with
  | zero =>
    intro j t vb c ek hj st pb eS r
    have en : j + 1 = n := by omega
    refine codeAny_builtin F.entry_max_loop ?_
    rw [Around.under_plainId F.plain_max_loop _]
    refine wpAny_bind (wpAny_seqItems eS rfl (wpAny_bind (wpAny_tryCatch (W.done t _ _ (en ▸ st) fun h' tk ke => ?_))))
    refine wpAny_bind (wpAny_updateSeq (ke S _ nW eS) rfl (wpAny_bind (wpAny_letGo (wpAny_pure ?_))))
    exact r vb _ tk (by rw [← en]; exact pb) fun b o nb nb2 e => (Heap.get?_update_other _ _ (Ne.symm nb2)).trans (ke b o nb e)
  | succ k ih =>
    intro j t vb c ek hj st pb eS r
    have hj2 : j + 1 < n := by omega
    refine codeAny_builtin F.entry_max_loop ?_
    rw [Around.under_plainId F.plain_max_loop _]
    refine wpAny_bind (wpAny_seqItems eS rfl (wpAny_bind (wpAny_tryCatch (W.item (j + 1) t _ _ hj2 st fun v h' tk pv st' ke => ?_))))
    have eS' := ke S _ nW eS
    show wpAny _ A.in1 (tryCatch (holding [v, v] (richCompare .Gt v vb >>= _)) _ >>= _) _ _ _
    refine wpAny_bind (wpAny_tryCatch (wpAny_holding (wpAny_bind (cm (j + 1) (argBest bt j) v vb _ _ _ pv pb (wpAny_bind (wpAny_holding (wpAny_truthy_bool (wpAny_bind (wpAny_letGo (wpAny_pure ?_))))))))))
    cases hb : bt (j + 1) (argBest bt j) with
    | true =>
      simp only [if_true]
      refine wpAny_bind (wpAny_updateSeq eS' rfl (wpAny_bind (wpAny_letGo ?_)))
      rw [nm]
      refine wpAny_pure ⟨plainId_quiet F.plain_max_loop _, ih (j + 1) _ v _ (by omega) hj2 (W.frame _ _ _ st' fun b fb o e => ?_) (by simp only [argBest, hb, if_true]; exact pv) (Heap.get?_update_self _ eS' rfl) fun v2 h2 tk2 p2 ke2 => ?_⟩
      · exact (Heap.get?_update_other _ _ (fun z : S = b => nS (by rw [z]; exact fb))).trans e
      · exact r v2 h2 tk2 p2 fun b o nb nb2 e => ke2 b o nb nb2 ((Heap.get?_update_other _ _ (Ne.symm nb2)).trans (ke b o nb e))
    | false =>
      simp only [Bool.false_eq_true, if_false]
      refine wpAny_bind (wpAny_letGo ?_)
      rw [nm]
      refine wpAny_pure ⟨plainId_quiet F.plain_max_loop _, ih (j + 1) _ vb c (by omega) hj2 st' (by simp only [argBest, hb, Bool.false_eq_true, if_false]; exact pb) eS' fun v2 h2 tk2 p2 ke2 => ?_⟩
      exact r v2 h2 tk2 p2 fun b o nb nb2 e => ke2 b o nb nb2 (ke b o nb e)
theorem maxFirstD (W : Walks prog w A.in1 I fp wr n P St) (bt : Nat → Nat → Bool) (cm : CmpOf prog w A.in1 .Gt P bt) (S : Addr) (nS : S ∉ fp) (dv : Value) {t : Shared} {c : Nat} (st : St 0 t.heap) (eS : t.heap.get? S = some { cls := .type "list", dict := none, data := .seq #[] c, slots := #[] })
    (r : ∀ v h' tk, (n = 0 ∧ v = dv ∨ 0 < n ∧ P (argBest bt (n - 1)) v) → (∀ b o, b ∉ wr → b ≠ S → t.heap.get? b = some o → h'.get? b = some o) → R (.ok (.ret v)) { t with heap := h', toks := tk }) :
    codeAny (model prog w) A (.builtin "max.loop" ⟨[.ref I, .none, .ref S], [("default", dv)]⟩) R t := by
  have nW : S ∉ wr := fun h => nS (W.sub _ h)
  have nm : (toString "max" ++ toString ".loop" : String) = "max.loop" := by decide
  refine codeAny_builtin F.entry_max_loop ?_
  rw [Around.under_plainId F.plain_max_loop _]
  by_cases hn : 0 < n
  · refine wpAny_bind (wpAny_seqItems eS rfl (wpAny_bind (wpAny_tryCatch (W.item 0 t _ _ hn st fun v h' tk pv st' ke => ?_))))
    have eS' := ke S _ nW eS
    show wpAny _ A.in1 (updateSeq S (fun _ => #[v, v]) >>= _) _ _ _
    refine wpAny_bind (wpAny_updateSeq eS' rfl ?_)
    rw [nm]
    refine wpAny_pure ⟨plainId_quiet F.plain_max_loop _, maxLoopD W bt cm S nS dv _ 0 _ v _ rfl hn (W.frame _ _ _ st' fun b fb o e => ?_) pv (Heap.get?_update_self _ eS' rfl) fun v2 h2 tk2 p2 ke2 => ?_⟩
    · exact (Heap.get?_update_other _ _ (fun z : S = b => nS (by rw [z]; exact fb))).trans e
    · exact r v2 h2 tk2 (.inr ⟨hn, p2⟩) fun b o nb nb2 e => ke2 b o nb nb2 ((Heap.get?_update_other _ _ (Ne.symm nb2)).trans (ke b o nb e))
  · have n0 : n = 0 := by omega
    refine wpAny_bind (wpAny_seqItems eS rfl (wpAny_bind (wpAny_tryCatch (W.done t _ _ (n0 ▸ st) fun h' tk ke => ?_))))
    refine wpAny_bind (wpAny_rule (wpAny_pure ?_))
    exact r dv h' tk (.inl ⟨n0, rfl⟩) fun b o nb _ e => ke b o nb e
end
theorem args_maxD (a d : Value) : argsOk "max" ⟨[a], [("default", d)]⟩ := by unfold argsOk; kernel_rfl
theorem maxD_walk {prog : Program} {w : World} {A : Around} {E : Value → Shared → Prop} {t : Shared} {x dv : Value} {Q : Value → Shared → Prop} (h : wpAny (model prog w) A.in1 (pyIter x) (fun it t2 => ∃ I fp wr n P St bt, it = .ref I ∧ Walks prog w A.in1 I fp wr n P St ∧ St 0 t2.heap ∧ (∀ b ∈ fp, b < t2.heap.objs.size) ∧ CmpOf prog w A.in1 .Gt P bt ∧
      ∀ v h' tk, (n = 0 ∧ v = dv ∨ 0 < n ∧ P (argBest bt (n - 1)) v) → (∀ b o, b ∉ wr → t2.heap.get? b = some o → h'.get? b = some o) → Q v { t2 with heap := h', toks := tk }) E t) : wpAny (model prog w) A (call (.builtin "max") [x] [("default", dv)]) Q E t := by
  have nm : (toString "max" ++ toString ".loop" : String) = "max.loop" := by decide
  refine PyProof.Rows.kmk_tree PySem.F.kind_max PySem.F.plain_max PySem.F.entry_max (args_maxD _ _) ?_
  refine wpAny_bind (wpAny_of_eq (show Builtin.Builtins.bindParams "max" ["key", "default"] 0 ⟨[], [(Str.ofString "default", dv)]⟩ = pure [none, some dv] from rfl) ?_)
  refine wpAny_bind (wpAny_pure (wpAny_bind (wpAny_mono h (fun it t2 h2 => ?_) fun _ _ e => e)))
  obtain ⟨I, fp, wr, n, P, St, bt, rfl, W, st, hfp, cm, r⟩ := h2
  refine wpAny_bind (wpAny_newObj_type ?_)
  have nS : t2.heap.objs.size ∉ fp := fun hm => Nat.lt_irrefl _ (hfp _ hm)
  rw [nm]
  refine wpAny_pure ⟨plainId_quiet F.plain_max_loop _, maxFirstD W bt cm t2.heap.objs.size nS dv (W.frame _ _ _ st fun b _ o e => Heap.get?_push_of_some _ e) (Heap.get?_push_size _ rfl) fun v h' tk hv hk => ?_⟩
  exact r v h' tk hv fun b o nb e => hk b o nb (Nat.ne_of_lt (Heap.lt_size e)) (Heap.get?_push_of_some _ e)
theorem maxD_raw {prog : Program} {w : World} {A : Around} {E : Value → Shared → Prop} {t : Shared} {l : Addr} {its : List Value} {ns : List Int} {dv : Value} {Q : Value → Shared → Prop} (hh : A.handled = none) (hl : t.heap.IsList l its.toArray) (hi : IntsAre its ns)
    (r : ∀ v h' tk, (∀ b o, t.heap.get? b = some o → h'.get? b = some o) → (ns = [] ∧ v = dv ∨ ∃ M u, v = .int M u ∧ M ∈ ns ∧ ∀ y, y ∈ ns → y ≤ M) → Q v { t with heap := h', toks := tk }) : wpAny (model prog w) A (call (.builtin "max") [.ref l] [("default", dv)]) Q E t := by
  obtain ⟨xs, e⟩ := hi.allInts.items
  have hn : numsOf (intItems xs).toList = ns := by rw [← e]; exact hi.numsOf
  rw [nums_intItems] at hn
  subst hn
  rw [e] at hl
  refine maxD_walk (iter_intList hl fun t2 e2 st hfp hlI => ?_)
  subst e2
  refine ⟨_, _, _, _, _, _, _, rfl, Walks.list (A := A.in1) hh _ l hlI (intItems xs), st, hfp, CmpOf.ints_gt (numAt xs) (fun _ _ => intItems_at), fun v h' tk hv hk => ?_⟩
  refine r v h' tk (old_kept hk) ?_
  rcases hv with ⟨h0, rfl⟩ | ⟨h0, hv⟩
  · refine .inl ⟨?_, rfl⟩
    have : xs.size = 0 := by simpa [intItems] using h0
    have : xs.toList = [] := List.eq_nil_of_length_eq_zero (by simpa using this)
    rw [this]
    rfl
  · have hs : 0 < xs.size := by simpa [intItems] using h0
    have hv : (intItems xs)[argBest (fun i j => decide (numAt xs i > numAt xs j)) (xs.size - 1)]? = some v := by simpa [intItems] using hv
    obtain ⟨u, rfl⟩ := intItems_at hv
    obtain ⟨h1, h2⟩ := argBest_gt (numAt xs) (xs.size - 1)
    refine .inr ⟨_, u, rfl, ?_, fun y hy => ?_⟩
    · rw [numAt_eq]
      exact PySem.getD_mem (by rw [List.length_map, Array.length_toList]; omega)
    · obtain ⟨j, hj, rfl⟩ := mem_getD hy
      rw [List.length_map, Array.length_toList] at hj
      rw [← numAt_eq]
      exact h2 j (by omega)
def rMaxD (K : PySem.W.Frag) : List V → List V → Hp → VK → Prop := fun xs zs H Q => ∃ (a : Addr) (ns : List Int) (d : Int), xs = [.ref a] ∧ zs = [.int d] ∧ SqL K H a (ns.map V.int) ∧ ∀ m, (ns = [] ∧ m = d ∨ m ∈ ns ∧ ∀ y, y ∈ ns → y ≤ m) → Q (.int m) H
theorem call_maxD {X : Cx} (hc : X.calm = true) : CallRK X (.builtin "max") ["default"] (rMaxD X.K) := by
  intro pins s σ H xs zs us ws Q I va vz h
  obtain ⟨a, ns, d, rfl, rfl, hs, q⟩ := h
  obtain ⟨its, rv, hl, _⟩ := I.list hs
  rw [Vals.ref1 va]
  cases vz with
  | cons r1 r2 =>
  cases r2
  obtain ⟨u, rfl⟩ := r1
  refine maxD_raw (I.ok.hd hc) hl.isList rv.ints fun v h' tk hk hv => ?_
  rcases hv with ⟨h0, rfl⟩ | ⟨M, u2, rfl, h1, h2⟩
  · exact ⟨.int d, H, I.kept hk, ⟨_, rfl⟩, q d (.inl ⟨h0, rfl⟩)⟩
  · exact ⟨.int M, H, I.kept hk, ⟨_, rfl⟩, q M (.inr ⟨h1, h2⟩)⟩
/-! ### laid wisps and strands -/
structure Lw where
  so : Int
  ps : List (Int × Int)
  pl : Int
  le : Option Int
def letV : Option Int → V
  | none => .non
  | some n => .int n
def LaidAt (H : Hp) (a : Addr) (L : Lw) : Prop := ∃ wa, H a = some (.tup [.ref wa, .int L.pl, letV L.le]) ∧ WispAt H wa L.so L.ps
theorem LaidAt.mono {H H' : Hp} {a : Addr} {L : Lw} (h : LaidAt H a L) (t : Tups H H') : LaidAt H' a L := by
  obtain ⟨wa, h1, h2⟩ := h
  exact ⟨wa, t _ _ h1, h2.mono t⟩
def LaidsAt (H : Hp) (as : List Addr) (Ls : List Lw) : Prop := as.length = Ls.length ∧ ∀ (i : Nat) (a : Addr), as[i]? = some a → ∃ L, Ls[i]? = some L ∧ LaidAt H a L
theorem LaidsAt.mono {H H' : Hp} {as : List Addr} {Ls : List Lw} (h : LaidsAt H as Ls) (t : Tups H H') : LaidsAt H' as Ls := ⟨h.1, fun i a e => by
  obtain ⟨L, h1, h2⟩ := h.2 i a e
  exact ⟨L, h1, h2.mono t⟩⟩
theorem LaidsAt.nil {H : Hp} : LaidsAt H [] [] := ⟨rfl, fun i a h => by simp at h⟩
theorem LaidsAt.snoc {H : Hp} {as : List Addr} {Ls : List Lw} {a : Addr} {L : Lw} (h : LaidsAt H as Ls) (e : LaidAt H a L) : LaidsAt H (as ++ [a]) (Ls ++ [L]) := by
  refine ⟨by simp [h.1], fun i b hb => ?_⟩
  by_cases hi : i < as.length
  · rw [List.getElem?_append_left hi] at hb
    obtain ⟨M, h1, h2⟩ := h.2 i b hb
    exact ⟨M, by rw [List.getElem?_append_left (by rw [← h.1]; exact hi)]; exact h1, h2⟩
  · rw [List.getElem?_append_right (by omega)] at hb
    have hz : i - as.length = 0 := by
      cases hk : i - as.length with
      | zero => rfl
      | succ n =>
        rw [hk] at hb
        simp at hb
    rw [hz] at hb
    have : a = b := Option.some.inj hb
    subst this
    refine ⟨L, ?_, e⟩
    rw [List.getElem?_append_right (by rw [← h.1]; omega), ← h.1, hz]
    rfl
theorem LaidsAt.take {H : Hp} {as : List Addr} {Ls : List Lw} (h : LaidsAt H as Ls) (n : Nat) : LaidsAt H (as.take n) (Ls.take n) := by
  refine ⟨by simp [h.1], fun i a e => ?_⟩
  rw [List.getElem?_take] at e
  by_cases hi : i < n
  · rw [if_pos hi] at e
    obtain ⟨L, h1, h2⟩ := h.2 i a e
    exact ⟨L, by rw [List.getElem?_take, if_pos hi]; exact h1, h2⟩
  · rw [if_neg hi] at e
    cases e
theorem LaidsAt.set {H : Hp} {as : List Addr} {Ls : List Lw} {a : Addr} {L : Lw} (h : LaidsAt H as Ls) (e : LaidAt H a L) (n : Nat) : LaidsAt H (as.set n a) (Ls.set n L) := by
  refine ⟨by simp [h.1], fun i b hb => ?_⟩
  have hi : i < as.length := by
    have := (List.getElem?_eq_some_iff.mp hb).1
    rw [List.length_set] at this
    exact this
  by_cases hn : n = i
  · subst hn
    rw [List.getElem?_set_self hi] at hb
    have : a = b := Option.some.inj hb
    subst this
    exact ⟨L, List.getElem?_set_self (by rw [← h.1]; exact hi), e⟩
  · rw [List.getElem?_set_ne hn] at hb
    obtain ⟨M, h1, h2⟩ := h.2 i b hb
    exact ⟨M, by rw [List.getElem?_set_ne hn]; exact h1, h2⟩
def StrandAt (H : Hp) (a : Addr) (Ls : List Lw) : Prop := ∃ as, H a = some (.tup (as.map V.ref)) ∧ LaidsAt H as Ls
theorem StrandAt.mono {H H' : Hp} {a : Addr} {Ls : List Lw} (h : StrandAt H a Ls) (t : Tups H H') : StrandAt H' a Ls := by
  obtain ⟨as, h1, h2⟩ := h
  exact ⟨as, t _ _ h1, h2.mono t⟩
theorem StrandAt.keep {p l : Addr} {H H' : Hp} {T : Nat} {a : Addr} {Ls : List Lw} (h : StrandAt H a Ls) (k : Keep p l H H') (hp : Pot H p l T) : StrandAt H' a Ls := h.mono (k.tups hp)
theorem laid_get {H : Hp} {as : List Addr} {Ls : List Lw} (h : LaidsAt H as Ls) {i : Nat} {v : V} (e : (as.map V.ref)[i]? = some v) : ∃ a L, v = .ref a ∧ as[i]? = some a ∧ Ls[i]? = some L ∧ LaidAt H a L := by
  rw [List.getElem?_map] at e
  cases q : as[i]? with
  | none =>
    rw [q] at e
    cases e
  | some a =>
    rw [q] at e
    obtain ⟨L, h1, h2⟩ := h.2 i a q
    exact ⟨a, L, (Option.some.inj e).symm, rfl, h1, h2⟩
def GoodL (L : Lw) : Prop := Good L.ps ∧ 0 ≤ L.so ∧ L.so ≤ 1 ∧ 0 ≤ L.pl ∧ L.pl < 2 ^ 130 ∧ ∀ n, L.le = some n → L.pl < n ∧ n < 2 ^ 206
/-- where a laid wisp is over -/
def clip (le : Option Int) (e : Int) : Int := match le with
  | none => e
  | some n => if n < e then n else e
def lastOf (L : Lw) : Int := clip L.le (L.pl + longs L.ps)
def partsOf (le : Option Int) : List (Int × Int) → Int → List (Int × Int × Int)
  | [], _ => []
  | (t, g) :: r, st => (if st < clip le (st + g) then [(st, clip le (st + g), t)] else []) ++ partsOf le r (clip le (st + g))
def lawParts (le : Option Int) : List (Int × Int) → Int → List (Int × Int × Int)
  | [], _ => []
  | (t, g) :: r, st => (if st < clip le (st + g) then [(st, clip le (st + g), t)] else []) ++ lawParts le r (st + g)
theorem clip_le {le : Option Int} {e : Int} : clip le e ≤ e := by
  cases le with
  | none => exact Int.le_refl _
  | some n =>
    show (if n < e then n else e) ≤ e
    split <;> omega
theorem clip_mono {le : Option Int} {e f : Int} (h : e ≤ f) : clip le e ≤ clip le f := by
  cases le with
  | none => exact h
  | some n =>
    show (if n < e then n else e) ≤ (if n < f then n else f)
    split <;> split <;> omega
theorem clip_clip {le : Option Int} {e g : Int} (hg : 0 ≤ g) : clip le (clip le e + g) = clip le (e + g) := by
  cases le with
  | none => rfl
  | some n =>
    show (if n < (if n < e then n else e) + g then n else (if n < e then n else e) + g) = if n < e + g then n else e + g
    (repeat' split) <;> omega
theorem clip_idem {le : Option Int} {e : Int} : clip le (clip le e) = clip le e := by
  cases le with
  | none => rfl
  | some n =>
    show (if n < (if n < e then n else e) then n else (if n < e then n else e)) = if n < e then n else e
    (repeat' split) <;> omega
/-- all parts end at or ahead of where the wisp is over -/
theorem parts_le {le : Option Int} : ∀ (ps : List (Int × Int)) (st : Int), (∀ p ∈ ps, 1 ≤ p.2) → ∀ x ∈ partsOf le ps st, x.2.1 ≤ clip le (st + longs ps)
  | [], _, _, x, h => by cases h
  | (t, g) :: r, st, hg, x, h => by
    have hg1 : 1 ≤ g := hg (t, g) (by simp)
    have hr : ∀ p ∈ r, 1 ≤ p.2 := fun x hx => hg x (by simp [hx])
    have h0 := longs_nonneg hr
    have h : x ∈ (if st < clip le (st + g) then [(st, clip le (st + g), t)] else []) ++ partsOf le r (clip le (st + g)) := h
    rw [longs_cons]
    show x.2.1 ≤ clip le (st + (g + longs r))
    rcases List.mem_append.mp h with h | h
    · by_cases hc : st < clip le (st + g)
      · rw [if_pos hc] at h
        simp only [List.mem_cons, List.not_mem_nil, or_false] at h
        subst h
        exact clip_mono (by omega)
      · rw [if_neg hc] at h
        cases h
    · have ih := parts_le r (clip le (st + g)) hr x h
      rw [clip_clip h0] at ih
      rw [← Int.add_assoc]
      exact ih
/-- one of them ends there -/
theorem parts_has {le : Option Int} : ∀ (ps : List (Int × Int)) (st : Int), (∀ p ∈ ps, 1 ≤ p.2) → st < clip le (st + longs ps) → ∃ x ∈ partsOf le ps st, x.2.1 = clip le (st + longs ps)
  | [], st, _, h => by
    have e : longs [] = 0 := rfl
    rw [e, Int.add_zero] at h
    have := clip_le (le := le) (e := st)
    omega
  | (t, g) :: r, st, hg, h => by
    have hg1 : 1 ≤ g := hg (t, g) (by simp)
    have hr : ∀ p ∈ r, 1 ≤ p.2 := fun x hx => hg x (by simp [hx])
    have h0 := longs_nonneg hr
    rw [longs_cons] at h ⊢
    have e1 : st + ((t, g).2 + longs r) = st + g + longs r := by
      show st + (g + longs r) = _
      omega
    rw [e1] at h ⊢
    have e2 : clip le (clip le (st + g) + longs r) = clip le (st + g + longs r) := clip_clip h0
    by_cases hc : clip le (st + g) < clip le (st + g + longs r)
    · obtain ⟨x, h1, h2⟩ := parts_has r (clip le (st + g)) hr (by rw [e2]; exact hc)
      refine ⟨x, List.mem_append_right _ h1, ?_⟩
      rw [h2, e2]
    · have e3 : clip le (st + g) = clip le (st + g + longs r) := by
        have := clip_mono (le := le) (e := st + g) (f := st + g + longs r) (by omega)
        omega
      refine ⟨(st, clip le (st + g), t), List.mem_append_left _ ?_, e3⟩
      rw [if_pos (by omega)]
      simp
/-- the law's own parts: the last one ends there -/
theorem law_nil {le : Option Int} : ∀ (ps : List (Int × Int)) (st : Int), (∀ p ∈ ps, 1 ≤ p.2) → clip le st < st ∨ (∃ n, le = some n ∧ n ≤ st) → lawParts le ps st = []
  | [], _, _, _ => rfl
  | (t, g) :: r, st, hg, h => by
    have hg1 : 1 ≤ g := hg (t, g) (by simp)
    have hr : ∀ p ∈ r, 1 ≤ p.2 := fun x hx => hg x (by simp [hx])
    have hn : ∃ n, le = some n ∧ n ≤ st := by
      rcases h with h | h
      · cases le with
        | none => exact absurd h (Int.lt_irrefl _)
        | some n =>
          refine ⟨n, rfl, ?_⟩
          have h : (if n < st then n else st) < st := h
          split at h <;> omega
      · exact h
    obtain ⟨n, rfl, hn⟩ := hn
    show (if st < clip (some n) (st + g) then _ else []) ++ lawParts (some n) r (st + g) = []
    rw [law_nil r (st + g) hr (.inr ⟨n, rfl, by omega⟩), if_neg]
    · rfl
    · show ¬ st < (if n < st + g then n else st + g)
      split <;> omega
theorem law_last {le : Option Int} : ∀ (ps : List (Int × Int)) (st : Int), ps ≠ [] → (∀ p ∈ ps, 1 ≤ p.2) → (∀ n, le = some n → st < n) → ∃ ys b t, lawParts le ps st = ys ++ [(b, clip le (st + longs ps), t)]
  | [], _, h, _, _ => absurd rfl h
  | (t, g) :: r, st, _, hg, hn => by
    have hg1 : 1 ≤ g := hg (t, g) (by simp)
    have hr : ∀ p ∈ r, 1 ≤ p.2 := fun x hx => hg x (by simp [hx])
    have h0 := longs_nonneg hr
    have hc : st < clip le (st + g) := by
      cases le with
      | none => show st < st + g; omega
      | some n =>
        have := hn n rfl
        show st < (if n < st + g then n else st + g)
        split <;> omega
    have e : lawParts le ((t, g) :: r) st = (st, clip le (st + g), t) :: lawParts le r (st + g) := by
      show (if st < clip le (st + g) then _ else []) ++ lawParts le r (st + g) = _
      rw [if_pos hc]
      rfl
    rw [e, longs_cons]
    have e1 : st + ((t, g).2 + longs r) = st + g + longs r := by
      show st + (g + longs r) = _
      omega
    rw [e1]
    by_cases hz : r = [] ∨ ∃ n, le = some n ∧ n ≤ st + g
    · have e2 : lawParts le r (st + g) = [] := by
        rcases hz with rfl | hz
        · rfl
        · exact law_nil r (st + g) hr (.inr hz)
      refine ⟨[], st, t, ?_⟩
      rw [e2]
      have e3 : clip le (st + g) = clip le (st + g + longs r) := by
        rcases hz with rfl | ⟨n, rfl, hz⟩
        · show clip le (st + g) = clip le (st + g + 0)
          rw [Int.add_zero]
        · show (if n < st + g then n else st + g) = if n < st + g + longs r then n else st + g + longs r
          split <;> split <;> omega
      rw [e3]
      rfl
    · have hr0 : r ≠ [] := fun z => hz (.inl z)
      have hn2 : ∀ n, le = some n → st + g < n := fun n e => by
        by_cases h : st + g < n
        · exact h
        · exact absurd (.inr ⟨n, e, by omega⟩) hz
      obtain ⟨ys, b, t', h⟩ := law_last r (st + g) hr0 hr hn2
      exact ⟨_ :: ys, b, t', by rw [h]; rfl⟩
theorem law_len {le : Option Int} : ∀ (ps : List (Int × Int)) (st : Int), (lawParts le ps st).length ≤ ps.length
  | [], _ => Nat.le_refl _
  | (t, g) :: r, st => by
    show ((if st < clip le (st + g) then [(st, clip le (st + g), t)] else []) ++ lawParts le r (st + g)).length ≤ r.length + 1
    rw [List.length_append]
    have := law_len (le := le) r (st + g)
    split
    · show 1 + _ ≤ _
      omega
    · show 0 + _ ≤ _
      omega
theorem part_len {le : Option Int} : ∀ (ps : List (Int × Int)) (st : Int), (partsOf le ps st).length ≤ ps.length
  | [], _ => Nat.le_refl _
  | (t, g) :: r, st => by
    show ((if st < clip le (st + g) then [(st, clip le (st + g), t)] else []) ++ partsOf le r (clip le (st + g))).length ≤ r.length + 1
    rw [List.length_append]
    have := part_len (le := le) r (clip le (st + g))
    split
    · show 1 + _ ≤ _
      omega
    · show 0 + _ ≤ _
      omega
/-- how thick a laid wisp is at a place -/
def thickL (L : Lw) (p : Int) : Int := if p < L.pl then 0 else match L.le with
  | none => thickAt L.ps (p - L.pl)
  | some n => if n ≤ p then 0 else thickAt L.ps (p - L.pl)
theorem thick_pos : ∀ (ps : List (Int × Int)) (k : Int), 0 ≤ k → (∀ p ∈ ps, 1 ≤ p.1 ∧ 1 ≤ p.2) → (0 < thickAt ps k ↔ k < longs ps)
  | [], k, h, _ => by
    have e : longs [] = 0 := rfl
    show (0 : Int) < 0 ↔ k < longs []
    omega
  | (t, g) :: r, k, h, hg => by
    have hg1 := hg (t, g) (by simp)
    have ht : 1 ≤ t := hg1.1
    have hgg : 1 ≤ g := hg1.2
    have hr : ∀ p ∈ r, 1 ≤ p.1 ∧ 1 ≤ p.2 := fun x hx => hg x (by simp [hx])
    have h0 := longs_nonneg fun x hx => (hr x hx).2
    rw [longs_cons]
    show 0 < (if k < g then t else thickAt r (k - g)) ↔ k < g + longs r
    by_cases hk : k < g
    · rw [if_pos hk]
      constructor <;> intro _ <;> omega
    · rw [if_neg hk, thick_pos r (k - g) (by omega) hr]
      omega
theorem thick_runs {L : Lw} (g : GoodL L) (p : Int) : 0 < thickL L p ↔ L.pl ≤ p ∧ p < lastOf L := by
  have hp : ∀ x ∈ L.ps, 1 ≤ x.1 ∧ 1 ≤ x.2 := fun x hx => ⟨(g.1.2.2 x hx).1, (g.1.2.2 x hx).2.2.1⟩
  unfold thickL lastOf clip
  by_cases h : p < L.pl
  · rw [if_pos h]
    omega
  · rw [if_neg h]
    have tp := thick_pos L.ps (p - L.pl) (by omega) hp
    cases q : L.le with
    | none =>
      show 0 < thickAt L.ps (p - L.pl) ↔ L.pl ≤ p ∧ p < L.pl + longs L.ps
      rw [tp]
      omega
    | some n =>
      show 0 < (if n ≤ p then 0 else thickAt L.ps (p - L.pl)) ↔ L.pl ≤ p ∧ p < (if n < L.pl + longs L.ps then n else L.pl + longs L.ps)
      by_cases h2 : n ≤ p
      · rw [if_pos h2]
        split <;> omega
      · rw [if_neg h2, tp]
        split <;> omega
theorem last_gt {L : Lw} (g : GoodL L) : L.pl < lastOf L := by
  have hp : ∀ x ∈ L.ps, 1 ≤ x.2 := fun x hx => (g.1.2.2 x hx).2.2.1
  have hl : 1 ≤ longs L.ps := by
    cases q : L.ps with
    | nil =>
      have := g.1.1
      rw [q] at this
      exact absurd this (by decide)
    | cons p r =>
      rw [q] at hp
      have h1 := hp p (by simp)
      have h2 := longs_nonneg (ps := r) fun x hx => hp x (by simp [hx])
      rw [longs_cons]
      omega
  unfold lastOf clip
  cases q : L.le with
  | none => show L.pl < L.pl + longs L.ps; omega
  | some n =>
    have := (g.2.2.2.2.2 n q).1
    show L.pl < (if n < L.pl + longs L.ps then n else L.pl + longs L.ps)
    split <;> omega
def spThickOf : Sp := fun vs H Q _ => ∃ (a : Addr) (L : Lw) (p : Int), vs = [.ref a, .int p] ∧ LaidAt H a L ∧ Q (.int (thickL L p)) H
def spPartsOf : Sp := fun vs H Q _ => ∃ (a : Addr) (L : Lw), vs = [.ref a] ∧ LaidAt H a L ∧ L.ps.length ≤ 10 ∧ ∀ H' o, Same H H' → H o = none → TableAt H' o (partsOf L.le L.ps L.pl) → Q (.ref o) H'
def spThicks : Sp := fun vs H Q _ => ∃ (a : Addr) (Ls : List Lw) (p : Int), vs = [.ref a, .int p] ∧ StrandAt H a Ls ∧ Ls.length ≤ 60 ∧ ∀ H' o, Same H H' → H o = none → H' o = some (.lst ((Ls.map fun L => thickL L p).map V.int)) → Q (.ref o) H'
def numsFrom : Nat → List Int → List Int
  | _, [] => []
  | k, x :: r => (if 0 < x then [(k : Int)] else []) ++ numsFrom (k + 1) r
theorem nums_snoc : ∀ (xs : List Int) (k : Nat) (x : Int), numsFrom k (xs ++ [x]) = numsFrom k xs ++ (if 0 < x then [((k + xs.length : Nat) : Int)] else [])
  | [], k, x => by
    show (if 0 < x then [(k : Int)] else []) ++ [] = [] ++ _
    rw [List.append_nil]
    rfl
  | y :: r, k, x => by
    show (if 0 < y then [(k : Int)] else []) ++ numsFrom (k + 1) (r ++ [x]) = (if 0 < y then [(k : Int)] else []) ++ numsFrom (k + 1) r ++ _
    rw [nums_snoc r (k + 1) x, List.append_assoc, show k + 1 + r.length = k + (y :: r).length by rw [List.length_cons]; omega]
theorem nums_nil : ∀ (xs : List Int) (k : Nat), (∀ x ∈ xs, ¬ 0 < x) → numsFrom k xs = []
  | [], _, _ => rfl
  | y :: r, k, h => by
    show (if 0 < y then [(k : Int)] else []) ++ numsFrom (k + 1) r = []
    rw [if_neg (h y (by simp)), nums_nil r (k + 1) fun x hx => h x (by simp [hx])]
    rfl
theorem nums_ne : ∀ (xs : List Int) (k : Nat) (x : Int), x ∈ xs → 0 < x → numsFrom k xs ≠ []
  | y :: r, k, x, h, hx => by
    show (if 0 < y then [(k : Int)] else []) ++ numsFrom (k + 1) r ≠ []
    rcases List.mem_cons.mp h with rfl | h
    · rw [if_pos hx]
      exact fun z => by cases z
    · intro z
      exact nums_ne r (k + 1) x h hx (List.append_eq_nil_iff.mp z).2
theorem nums_len : ∀ (xs : List Int) (k : Nat), (numsFrom k xs).length ≤ xs.length
  | [], _ => Nat.le_refl _
  | y :: r, k => by
    show ((if 0 < y then [(k : Int)] else []) ++ numsFrom (k + 1) r).length ≤ r.length + 1
    rw [List.length_append]
    have := nums_len r (k + 1)
    split
    · show 1 + _ ≤ _
      omega
    · show 0 + _ ≤ _
      omega
def spNumbers : Sp := fun vs H Q _ => ∃ (a : Addr) (ns : List Int), vs = [.ref a] ∧ H a = some (.lst (ns.map V.int)) ∧ ns.length ≤ 60 ∧ ∀ H' o, Same H H' → H o = none → H' o = some (.tup ((numsFrom 0 ns).map V.int)) → Q (.ref o) H'
def spRunning : Sp := fun vs H Q _ => ∃ (a : Addr) (Ls : List Lw) (p : Int), vs = [.ref a, .int p] ∧ StrandAt H a Ls ∧ Ls.length ≤ 60 ∧ ∀ H' o, Same H H' → H o = none → H' o = some (.tup ((numsFrom 0 (Ls.map fun L => thickL L p)).map V.int)) → Q (.ref o) H'
def IsEnd (Ls : List Lw) (m : Int) : Prop := (Ls = [] → m = 0) ∧ (Ls ≠ [] → ∃ L ∈ Ls, m = lastOf L) ∧ ∀ L ∈ Ls, lastOf L ≤ m
def spEnd : Sp := fun vs H Q _ => ∃ (a : Addr) (Ls : List Lw), vs = [.ref a] ∧ StrandAt H a Ls ∧ Ls.length ≤ 60 ∧ (∀ L ∈ Ls, GoodL L) ∧ ∀ H' m, Same H H' → IsEnd Ls m → Q (.int m) H'
theorem letV_none : (!decide (letV none = V.non)) = false := by decide
theorem letV_some (n : Int) : (!decide (letV (some n) = V.non)) = true := by
  rw [decide_eq_false (fun z : letV (some n) = V.non => by cases z)]
  rfl
theorem letV_some' (n : Int) : decide (letV (some n) = V.non) = false := decide_eq_false (fun z : letV (some n) = V.non => by cases z)
theorem iteEqT {b : Bool} {A B : Prop} (e : b = true) (h : A) : if b = true then A else B := by
  rw [if_pos e]
  exact h
theorem iteEqF {b : Bool} {A B : Prop} (e : b = false) (h : B) : if b = true then A else B := by
  rw [e, if_neg Bool.false_ne_true]
  exact h
def endsOf (L : Lw) : List Int := (partsOf L.le L.ps L.pl).map fun t => t.2.1
theorem ends_ok {Ls : List Lw} (g : ∀ L ∈ Ls, GoodL L) {m : Int} (h : (Ls.map endsOf).flatten = [] ∧ m = 0 ∨ m ∈ (Ls.map endsOf).flatten ∧ ∀ y, y ∈ (Ls.map endsOf).flatten → y ≤ m) : IsEnd Ls m := by
  have has : ∀ L ∈ Ls, lastOf L ∈ (Ls.map endsOf).flatten := fun L hL => by
    have gL := g L hL
    have hp : ∀ x ∈ L.ps, 1 ≤ x.2 := fun x hx => (gL.1.2.2 x hx).2.2.1
    obtain ⟨x, h1, h2⟩ := parts_has (le := L.le) L.ps L.pl hp (last_gt gL)
    refine List.mem_flatten.mpr ⟨endsOf L, List.mem_map.mpr ⟨L, hL, rfl⟩, List.mem_map.mpr ⟨x, h1, h2⟩⟩
  have at_ : ∀ y ∈ (Ls.map endsOf).flatten, ∃ L ∈ Ls, y ≤ lastOf L := fun y hy => by
    obtain ⟨l, h1, h2⟩ := List.mem_flatten.mp hy
    obtain ⟨L, hL, rfl⟩ := List.mem_map.mp h1
    obtain ⟨x, h3, rfl⟩ := List.mem_map.mp h2
    have gL := g L hL
    exact ⟨L, hL, parts_le L.ps L.pl (fun x hx => (gL.1.2.2 x hx).2.2.1) x h3⟩
  rcases h with ⟨h0, rfl⟩ | ⟨h1, h2⟩
  · have hn : Ls = [] := by
      cases Ls with
      | nil => rfl
      | cons L r =>
        have := has L (by simp)
        rw [h0] at this
        cases this
    exact ⟨fun _ => rfl, fun z => absurd hn z, fun L hL => by rw [hn] at hL; cases hL⟩
  · have hn : Ls ≠ [] := fun z => by
      rw [z] at h1
      cases h1
    obtain ⟨L, hL, hle⟩ := at_ m h1
    have := h2 _ (has L hL)
    exact ⟨fun z => absurd z hn, fun _ => ⟨L, hL, by omega⟩, fun L' hL' => h2 _ (has L' hL')⟩
theorem LaidAt.same {H H' : Hp} {a : Addr} {L : Lw} (e : Same H H') (h : LaidAt H a L) : LaidAt H' a L := h.mono (Tups.same e)
def spPick : Sp := fun vs H Q _ => ∃ (p l : Addr) (T : Nat) (a : Addr) (xs : List V), vs = [.ref p, .ref a] ∧ Pot H p l T ∧ T < 2 ^ 39 ∧ H a = some (.lst xs) ∧ a ≠ p ∧ a ≠ l ∧ 1 ≤ xs.length ∧ xs.length ≤ 2000 ∧
  ∀ H' (j : Nat) x, xs[j]? = some x → Pot H' p l (T + 1) → Keep p l H H' → Q x H'
def LPartsAt (H : Hp) (bs : List Addr) (Ls : List Lw) : Prop := bs.length = Ls.length ∧ ∀ (i : Nat) (b : Addr), bs[i]? = some b → ∃ L, Ls[i]? = some L ∧ TableAt H b (lawParts L.le L.ps L.pl)
theorem TableAt.same {H H' : Hp} {o : Addr} {ts : List (Int × Int × Int)} (e : Same H H') (h : TableAt H o ts) : TableAt H' o ts := by
  obtain ⟨as, h1, h2⟩ := h
  exact ⟨as, e _ _ h1, h2.mono (Tups.same e)⟩
theorem LPartsAt.same {H H' : Hp} {bs : List Addr} {Ls : List Lw} (e : Same H H') (h : LPartsAt H bs Ls) : LPartsAt H' bs Ls := ⟨h.1, fun i b hb => by
  obtain ⟨L, h1, h2⟩ := h.2 i b hb
  exact ⟨L, h1, TableAt.same e h2⟩⟩
theorem LPartsAt.nil {H : Hp} : LPartsAt H [] [] := ⟨rfl, fun i a h => by simp at h⟩
theorem LPartsAt.snoc {H : Hp} {as : List Addr} {Ls : List Lw} {a : Addr} {L : Lw} (h : LPartsAt H as Ls) (e : TableAt H a (lawParts L.le L.ps L.pl)) : LPartsAt H (as ++ [a]) (Ls ++ [L]) := by
  refine ⟨by simp [h.1], fun i b hb => ?_⟩
  by_cases hi : i < as.length
  · rw [List.getElem?_append_left hi] at hb
    obtain ⟨M, h1, h2⟩ := h.2 i b hb
    exact ⟨M, by rw [List.getElem?_append_left (by rw [← h.1]; exact hi)]; exact h1, h2⟩
  · rw [List.getElem?_append_right (by omega)] at hb
    have hz : i - as.length = 0 := by
      cases hk : i - as.length with
      | zero => rfl
      | succ n =>
        rw [hk] at hb
        simp at hb
    rw [hz] at hb
    have : a = b := Option.some.inj hb
    subst this
    refine ⟨L, ?_, e⟩
    rw [List.getElem?_append_right (by rw [← h.1]; omega), ← h.1, hz]
    rfl
def spLawParts : Sp := fun vs H Q _ => ∃ (a : Addr) (Ls : List Lw), vs = [.ref a] ∧ StrandAt H a Ls ∧ Ls.length ≤ 60 ∧ (∀ L ∈ Ls, GoodL L) ∧ ∀ (H' : Hp) (o : Addr) (bs : List Addr), Same H H' → H o = none → H' o = some (.lst (bs.map V.ref)) → LPartsAt H' bs Ls → Q (.ref o) H'
/-- the last part of the law's own -/
theorem lp_last {H : Hp} {b : Addr} {L : Lw} (g : GoodL L) (h : TableAt H b (lawParts L.le L.ps L.pl)) : ∃ (as : List Addr) (z : Addr) (t b' : Int), H b = some (.lst (as.map V.ref)) ∧ atI (as.map V.ref) (-1) = some (.ref z) ∧ H z = some (.tup [.int b', .int (lastOf L), .int t]) := by
  obtain ⟨as, h1, h2⟩ := h
  have hp : ∀ x ∈ L.ps, 1 ≤ x.2 := fun x hx => (g.1.2.2 x hx).2.2.1
  have hne : L.ps ≠ [] := fun e => by
    have := g.1.1
    rw [e] at this
    exact absurd this (by decide)
  obtain ⟨ys, b', t, e⟩ := law_last (le := L.le) L.ps L.pl hne hp fun n hn => (g.2.2.2.2.2 n hn).1
  rw [e] at h2
  have hl : as.length = ys.length + 1 := by
    have := h2.1
    simpa using this
  have hi : ys.length < as.length := by omega
  have e1 : (as.map V.ref)[ys.length]? = some (.ref as[ys.length]) := by
    rw [List.getElem?_map, List.getElem?_eq_getElem hi]
    rfl
  obtain ⟨z, b2, c2, d2, e2, e3, e4⟩ := row_get h2 e1
  rw [List.getElem?_append_right (Nat.le_refl _), Nat.sub_self] at e3
  have e5 := Option.some.inj e3
  obtain ⟨e6, e7⟩ := Prod.mk.inj e5
  obtain ⟨e8, e9⟩ := Prod.mk.inj e7
  refine ⟨as, z, t, b', h1, ?_, ?_⟩
  · have h0 : as.map V.ref ≠ [] := fun q => by
      have := congrArg List.length q
      rw [List.length_map, hl] at this
      exact absurd this (by simp)
    have h3 : (as.map V.ref).getLast h0 = .ref z := by
      have := List.getLast?_eq_getLast h0
      rw [List.getLast?_eq_getElem?, List.length_map, hl, Nat.add_sub_cancel, e1] at this
      exact (Option.some.inj this).symm.trans e2
    have h4 := List.dropLast_concat_getLast h0
    rw [h3] at h4
    rw [← h4]
    exact atI_last _ _
  · rw [e4, ← e6, ← e8, ← e9]
    rfl
theorem LPartsAt.other {H : Hp} {bs : List Addr} {Ls : List Lw} {o : Addr} {xs : List V} {u : HO} (h : LPartsAt H bs Ls) (hne : ∀ b ∈ bs, b ≠ o) (eo : H o = some (.lst xs)) : LPartsAt (upd H o u) bs Ls := ⟨h.1, fun i b hb => by
  obtain ⟨L, h1, as, h2, h3⟩ := h.2 i b hb
  exact ⟨L, h1, as, by rw [upd_ne (hne b (List.mem_of_getElem? hb))]; exact h2, h3.mono (Tups.ls eo)⟩⟩
def Sf (p l S : Addr) (as : List Addr) (Ls : List Lw) (H H' : Hp) (T : Nat) : Prop := H' S = some (.lst (as.map V.ref)) ∧ LaidsAt H' as Ls ∧ Pot H' p l T ∧ Keep p l H H'
theorem Sf.keep {p l S : Addr} {as : List Addr} {Ls : List Lw} {H H' H2 : Hp} {T U : Nat} (h : Sf p l S as Ls H H' T) (n1 : S ≠ p) (n2 : S ≠ l) (k : Keep p l H' H2) (hp : Pot H2 p l U) : Sf p l S as Ls H H2 U := ⟨k _ _ n1 n2 h.1, h.2.1.mono (k.tups h.2.2.1), hp, h.2.2.2.trans k⟩
theorem Sf.new {p l S a : Addr} {as : List Addr} {Ls : List Lw} {H H' : Hp} {T : Nat} {o : HO} (h : Sf p l S as Ls H H' T) (n : H' a = none) : Sf p l S as Ls H (upd H' a o) T := ⟨by rw [upd_ne (ne_of_none h.1 n)]; exact h.1, h.2.1.mono (Tups.new n), h.2.2.1.new n, h.2.2.2.new n⟩
theorem Sf.up {p l S : Addr} {as : List Addr} {Ls : List Lw} {H H' : Hp} {T U : Nat} (h : Sf p l S as Ls H H' T) (e : T ≤ U) : Sf p l S as Ls H H' U := ⟨h.1, h.2.1, h.2.2.1.mono e, h.2.2.2⟩
theorem cut_take (xs : List V) (n : Nat) : cutV xs none (some (n : Int)) = xs.take n := by
  unfold cutV
  rw [HT.sIx_none, HT.sIx_nat]
  show (xs.drop 0).take (min n xs.length - 0) = xs.take n
  rw [List.drop_zero, Nat.sub_zero]
  by_cases h : n ≤ xs.length
  · rw [Nat.min_eq_left h]
  · rw [Nat.min_eq_right (by omega), List.take_length, List.take_of_length_le (by omega)]
def spStrand : Sp := fun vs H Q _ => ∃ (p l : Addr) (T : Nat) (most : Int) (small : Bool), vs = [.ref p, .int most, .bl small] ∧ Pot H p l T ∧ T < 2 ^ 37 ∧ (most = 8 ∨ most = 60) ∧
  ∀ H' a Ls, Pot H' p l (T + 20000) → Keep p l H H' → StrandAt H' a Ls → Ls.length ≤ 60 → (∀ L ∈ Ls, GoodL L) → Q (.ref a) H'
theorem first_of {ns : List Int} {M : Int} (h : M ∈ ns) : ∃ j : Nat, ns[j]? = some M ∧ ∀ m z, m < j → ns[m]? = some z → z ≠ M := by
  induction ns with
  | nil => cases h
  | cons y r ih =>
    by_cases e : y = M
    · exact ⟨0, by rw [e]; rfl, fun m z hm _ => absurd hm (Nat.not_lt_zero _)⟩
    · have hr : M ∈ r := by
        rcases List.mem_cons.mp h with h | h
        · exact absurd h.symm e
        · exact h
      obtain ⟨j, h1, h2⟩ := ih hr
      refine ⟨j + 1, h1, fun m z hm hz => ?_⟩
      cases m with
      | zero =>
        have : y = z := Option.some.inj hz
        rw [← this]
        exact e
      | succ m => exact h2 m z (by omega) hz
theorem cut_drop (xs : List V) (n : Nat) (h : n ≤ xs.length) : cutV xs (some (n : Int)) none = xs.drop n := by
  unfold cutV
  rw [HT.sIx_none, HT.sIx_nat, Nat.min_eq_left h]
  exact List.take_of_length_le (by rw [List.length_drop]; exact Nat.le_refl _)
theorem LaidsAt.parts {H : Hp} {as : List Addr} {Ls : List Lw} {n : Nat} {b : Addr} {L : Lw} (h : LaidsAt H as Ls) (hn : n < as.length) (e : LaidAt H b L) : LaidsAt H (as.take n ++ [b] ++ as.drop (n + 1)) (Ls.set n L) := by
  have e1 : as.take n ++ [b] ++ as.drop (n + 1) = as.set n b := by
    rw [List.set_eq_take_append_cons_drop, if_pos hn, List.append_assoc]
    rfl
  rw [e1]
  exact h.set e n
def lasts (Ls : List Lw) : List Int := Ls.map lastOf
def spLetLast : Sp := fun vs H Q _ => ∃ (p l : Addr) (T : Nat) (a : Addr) (Ls : List Lw), vs = [.ref p, .ref a] ∧ Pot H p l T ∧ T < 2 ^ 38 ∧ StrandAt H a Ls ∧ Ls ≠ [] ∧ Ls.length ≤ 60 ∧ (∀ L ∈ Ls, GoodL L) ∧
  ∀ (H' : Hp) (b : Addr) (Ms : List Lw), Pot H' p l (T + 1) → Keep p l H H' → StrandAt H' b Ms → Ms.length = Ls.length → (∀ L ∈ Ms, GoodL L) → Q (.ref b) H'
theorem last_lt {L : Lw} (g : GoodL L) : lastOf L < 2 ^ 205 := by
  have h1 := longs_lt g.1
  have h2 := g.2.2.2.2.1
  have h3 : (2 : Int) ^ 204 + 2 ^ 130 < 2 ^ 205 := by decide
  have h4 := clip_le (le := L.le) (e := L.pl + longs L.ps)
  unfold lastOf
  omega
theorem slA {K : PySem.W.Frag} {H : Hp} {a : Addr} {xs : List V} {lo hi : Option Int} {Q : VK} (h : H a = some (.tup xs)) (q : ∀ H' p, Same H H' → H' p = some (.tup (cutV xs lo hi)) → Q (.ref p) H') : rSlA K (.ref a) lo hi H Q := by
  refine ⟨a, xs, rfl, SqT.of h, fun e => ?_, fun _ p np => q _ p (same_new (Same.refl H) np) upd_same⟩
  refine q H a (Same.refl H) ?_
  rw [h]
  unfold cutV
  rw [e.1, e.2, List.drop_zero, Nat.sub_zero, List.take_length]
theorem catA {K : PySem.W.Frag} {H : Hp} {a b : Addr} {xs ys : List V} {Q : VK} (ha : H a = some (.tup xs)) (hb : H b = some (.tup ys)) (hz : xs.length + ys.length ≤ sizeLine) (q : ∀ H' p, Same H H' → H' p = some (.tup (xs ++ ys)) → Q (.ref p) H') : rCatA K (.ref a) (.ref b) H Q := by
  refine ⟨a, b, xs, ys, rfl, rfl, SqT.of ha, SqT.of hb, hz, fun e => ?_, fun _ e => ?_, fun _ _ p np => q _ p (same_new (Same.refl H) np) upd_same⟩
  · refine q H b (Same.refl H) ?_
    rw [hb, e]
    rfl
  · refine q H a (Same.refl H) ?_
    rw [ha, e, List.append_nil]
theorem can_all {xs : List PyData} (h : ∀ x ∈ xs, x.canLay0 = true) : PyData.canLayAll0 xs = true := by
  induction xs with
  | nil => rfl
  | cons x r ih =>
    show (x.canLay0 && PyData.canLayAll0 r) = true
    rw [h x (by simp), ih fun y hy => h y (by simp [hy])]
    rfl
theorem Sh.can {d : PyData} (h : Sh d) : d.canLay0 = true := by
  induction h with
  | non => rfl
  | bl b => rfl
  | int h => rfl
  | lst _ ih => exact can_all ih
  | tup _ ih => exact can_all ih
theorem depth_all {xs : List PyData} {n : Nat} (h : ∀ x ∈ xs, x.depth ≤ n) : PyData.depthAll xs ≤ n := by
  induction xs with
  | nil => exact Nat.zero_le _
  | cons x r ih => exact Nat.max_le.mpr ⟨h x (by simp), ih fun y hy => h y (by simp [hy])⟩
def letD : Option Int → PyData
  | none => .none
  | some n => .int n
def laidD (L : Lw) : PyData := .tuple [wispD L.so L.ps, .int L.pl, letD L.le]
def strandD (Ls : List Lw) : PyData := .tuple (Ls.map laidD)
theorem laid_sh {L : Lw} (g : GoodL L) : Sh (laidD L) := by
  refine .tup fun x hx => ?_
  simp only [List.mem_cons, List.not_mem_nil, or_false] at hx
  rcases hx with rfl | rfl | rfl
  · exact wisp_sh g.2.1 g.2.2.1 g.1
  · exact sh_nat g.2.2.2.1 (Int.lt_trans g.2.2.2.2.1 (by decide))
  · cases h : L.le with
    | none => exact .non
    | some n =>
      have := g.2.2.2.2.2 n h
      have h0 := g.2.2.2.1
      exact .int (log_lt (by omega) (Int.lt_trans this.2 (by decide)))
theorem laid_depth (L : Lw) : (laidD L).depth ≤ 4 := by
  have := wisp_depth L.so L.ps
  refine Nat.succ_le_succ (depth_all fun x hx => ?_)
  simp only [List.mem_cons, List.not_mem_nil, or_false] at hx
  rcases hx with rfl | rfl | rfl
  · exact this
  · exact Nat.zero_le _
  · cases L.le with
    | none => exact Nat.zero_le _
    | some n => exact Nat.zero_le _
theorem strand_sh {Ls : List Lw} (g : ∀ L ∈ Ls, GoodL L) : Sh (strandD Ls) := .tup fun x hx => by
  obtain ⟨L, hL, rfl⟩ := List.mem_map.mp hx
  exact laid_sh (g L hL)
theorem strand_depth (Ls : List Lw) : (strandD Ls).depth ≤ 5 := Nat.succ_le_succ (depth_all fun x hx => by
  obtain ⟨L, hL, rfl⟩ := List.mem_map.mp hx
  exact laid_depth L)
theorem Sh.shaped {d : PyData} (h : Sh d) (hd : d.depth ≤ 64) : SeqAt.shaped d = true := Bool.and_eq_true_iff.mpr ⟨h.can, decide_eq_true hd⟩
theorem LaidAt.dp {K : PySem.W.Frag} {H : Hp} {a : Addr} {L : Lw} (h : LaidAt H a L) : Dp K H (.ref a) (laidD L) := by
  obtain ⟨wa, h1, h2⟩ := h
  refine .tup (SqT.of h1) (.cons h2.dp (.cons (.int _) (.cons ?_ .nil)))
  cases L.le with
  | none => exact .non
  | some n => exact .int n
theorem laids_dp {K : PySem.W.Frag} {H : Hp} : ∀ {as : List Addr} {Ls : List Lw}, LaidsAt H as Ls → DpAll K H (as.map V.ref) (Ls.map laidD)
  | [], [], _ => .nil
  | [], L :: r, h => absurd h.1 (by simp)
  | a :: r, [], h => absurd h.1 (by simp)
  | a :: as, L :: Ls, h => by
    obtain ⟨M, h1, h2⟩ := h.2 0 a rfl
    have e : L = M := Option.some.inj h1
    subst e
    exact .cons h2.dp (laids_dp ⟨Nat.succ.inj (by simpa using h.1), fun i b hb => h.2 (i + 1) b hb⟩)
theorem StrandAt.dp {K : PySem.W.Frag} {H : Hp} {a : Addr} {Ls : List Lw} (h : StrandAt H a Ls) : Dp K H (.ref a) (strandD Ls) := by
  obtain ⟨as, h1, h2⟩ := h
  exact .tup (SqT.of h1) (laids_dp h2)
theorem eq_nil (ds : List PyData) : PyData.eqv (.tuple ds) (.tuple []) = ds.isEmpty := by
  cases ds with
  | nil => rfl
  | cons x r => rfl
theorem ints_dp {K : PySem.W.Frag} {H : Hp} : ∀ ns : List Int, DpAll K H (ns.map V.int) (ns.map PyData.int)
  | [] => .nil
  | n :: r => .cons (.int n) (ints_dp r)
theorem ints_shaped (ns : List Int) : SeqAt.shaped (.tuple (ns.map PyData.int)) = true := by
  refine Bool.and_eq_true_iff.mpr ⟨can_all fun x hx => ?_, decide_eq_true (Nat.le_trans (Nat.succ_le_succ (depth_all (n := 0) fun x hx => ?_)) (by decide))⟩
  · obtain ⟨n, _, rfl⟩ := List.mem_map.mp hx
    rfl
  · obtain ⟨n, _, rfl⟩ := List.mem_map.mp hx
    exact Nat.le_refl _
def spRight7 : Sp := fun vs H Q _ => ∃ (p l : Addr) (T : Nat) (a : Addr) (Ls : List Lw), vs = [.ref p, .ref a] ∧ Pot H p l T ∧ T < 2 ^ 38 ∧ StrandAt H a Ls ∧ Ls.length ≤ 60 ∧ (∀ L ∈ Ls, GoodL L) ∧
  ∀ (H' : Hp), Pot H' p l (T + 5) → Keep p l H H' → Q (.bl true) H'
theorem end_is {Ls : List Lw} (g : ∀ L ∈ Ls, GoodL L) {m M : Int} (h : IsEnd Ls m) (h1 : M ∈ 0 :: lasts Ls) (h2 : ∀ y, y ∈ 0 :: lasts Ls → y ≤ M) : m = M := by
  obtain ⟨a1, a2, a3⟩ := h
  have h0 := h2 0 (by simp)
  by_cases hn : Ls = []
  · have e := a1 hn
    rw [hn] at h1
    have : M = 0 := by simpa [lasts] using h1
    omega
  · obtain ⟨L, hL, e⟩ := a2 hn
    have h3 := h2 m (List.mem_cons_of_mem _ (List.mem_map.mpr ⟨L, hL, e.symm⟩))
    have h4 := last_gt (g L hL)
    have h5 := (g L hL).2.2.2.1
    rcases List.mem_cons.mp h1 with h | h
    · omega
    · obtain ⟨L', hL', e'⟩ := List.mem_map.mp h
      have := a3 L' hL'
      omega
def Strs (H : Hp) (cs : List Addr) : Prop := ∀ c ∈ cs, ∃ Ls, StrandAt H c Ls ∧ Ls.length ≤ 60 ∧ ∀ L ∈ Ls, GoodL L
theorem Strs.mono {H H' : Hp} {cs : List Addr} (h : Strs H cs) (t : Tups H H') : Strs H' cs := fun c hc => by
  obtain ⟨Ls, h1, h2⟩ := h c hc
  exact ⟨Ls, h1.mono t, h2⟩
theorem ref_get {bs : List Addr} {i : Nat} {x : V} (h : (bs.map V.ref)[i]? = some x) : ∃ b, x = .ref b ∧ bs[i]? = some b := by
  rw [List.getElem?_map] at h
  cases q : bs[i]? with
  | none =>
    rw [q] at h
    cases h
  | some b =>
    rw [q] at h
    exact ⟨b, (Option.some.inj h).symm, rfl⟩
/-! ### dicts of numbers: update, sorted -/
section
variable {X : Cx}
def rUpd : V → List V → Hp → VK → Prop := fun x vs H Q => ∃ (a b : Addr) (kvs more : List (Key × V)), x = .ref a ∧ vs = [.ref b] ∧ H a = some (.dK kvs) ∧ H b = some (.dK more) ∧ a ≠ b ∧ kvs.length + more.length ≤ sizeLine ∧ Q .non (upd H a (.dK (mergeK kvs more)))
theorem mt_dupdate : MtR X "dict.update" rUpd := by
  intro pins s σ H x vs v us Q I rx rv h
  obtain ⟨a, b, kvs, more, rfl, rfl, ea, eb, ne, hz, q⟩ := h
  cases (show v = Value.ref a from rx)
  rw [Vals.ref1 rv]
  obtain ⟨z1, y1, vs1, rel1, dd1⟩ := dk_of I.hok ea
  obtain ⟨z2, y2, vs2, rel2, dd2⟩ := dk_of I.hok eb
  refine call_meetsIn PySem.F.slot_dict_update dd1.typeIs PySem.F.entry_dict_update (PySem.F.args_dict_update_2 _ _) (meets_dict_update (mixKind X.prog X.w) a b ne y2) ⟨vs1, vs2, dd1, dd2, by rw [← rel1.length, ← rel2.length]; exact hz, fun h' dd' _ hs => ?_⟩
  have he : ∃ o, h'.get? a = some o := dd'.elim fun o z => z.elim fun _ z => z.elim fun _ z => ⟨o, z.1⟩
  exact ⟨.non, _, d_write I (by rw [ea]; exact True.intro) hs he (dk_new (Nat.le_trans (length_mergeK more kvs) hz) y1 (KV.merge rel2 rel1) dd'), rfl, q⟩
def rSortD : List V → Hp → VK → Prop := fun xs H Q => ∃ (a : Addr) (kvs : List (Key × V)) (ks : List Int), xs = [.ref a] ∧ H a = some (.dK kvs) ∧ kvs.map (·.1) = ks.map Sum.inl ∧ ∀ (ys : List Int) (p : Addr), ys.Perm ks → ys.Pairwise (· ≤ ·) → H p = none → Q (.ref p) (upd H p (.lst (ys.map V.int)))
theorem call_sortD (hc : X.calm = true) : CallR X (.builtin "sorted") rSortD := by
  intro pins s σ H xs us Q I va h
  obtain ⟨a, kvs, ks, rfl, ea, hks, q⟩ := h
  rw [Vals.ref1 va]
  obtain ⟨z, lo, vs, rel, dd⟩ := dk_of I.hok ea
  obtain ⟨ep, hat⟩ := dd.dictAt
  have ek : vs.map (·.1) = ks.map Sum.inl := rel.keys.symm.trans hks
  have hl : vs.length = ks.length := by
    have e := congrArg List.length ek
    rw [List.length_map, List.length_map] at e
    exact e
  have hz : vs.length ≤ sizeLine := by rw [← rel.length]; exact z
  refine Calls.call_function_entry PyProof.Rows.kind_sorted PyProof.Rows.plain_sorted PyProof.Rows.entry_sorted (PyProof.Rows.args_sorted1 _) ?_
  unfold Builtin.«sorted»
  refine wpAny_bind (m := checkCount "sorted" 1 1 _) (wpAny_pure (wpAny_bind (PySem.W.kdu_collect (A := X.A.in1) (PySem.W.kdl_dict (knd := mixKind X.prog X.w) (kvs := vs) (ep := ep) lo) (I.ok.hd hc) hat hz fun h1 tk acc hk hacc => ?_)))
  have hal : acc.toList.length = ks.length := by rw [Array.length_toList, hacc.1, hl]
  have hS : IntsAre acc.toList ks := ints_each hal fun j v e => by
    obtain ⟨k, x, e1, e2⟩ := hacc.2 j v (by rw [← Array.getElem?_toList]; exact e)
    have e3 : (vs.map (·.1))[j]? = some k := by rw [List.getElem?_map, e1]; rfl
    rw [ek, List.getElem?_map] at e3
    cases e4 : ks[j]? with
    | none => rw [e4] at e3; cases e3
    | some y =>
      rw [e4] at e3
      cases (show Sum.inl y = k from Option.some.inj e3)
      rcases keyIs_shape (show keyIs (Sum.inl y) v = true from e2) with ⟨i, t, q1, q2⟩ | ⟨i, t, q1, q2⟩
      · cases q1
        exact ⟨y, t, rfl, q2⟩
      · cases q1
  have J : Inv X pins σ H { s with heap := h1, toks := tk } := I.kept hk
  have hz2 : acc.toList.length ≤ sizeLine := by rw [hal, ← hl]; exact hz
  refine wpAny_bind (wpAny_newList ?_ hz2)
  have hoL : (h1.push (seqObj "list" acc.toList.toArray 0)).get? h1.objs.size = some (seqObj "list" acc.toList.toArray 0) := Heap.get?_push_size _ rfl
  show wpAny _ _ _ _ _ { s with heap := h1.push (seqObj "list" acc.toList.toArray 0), toks := tk }
  refine wpAny_bind (wpAny_holding (wpAny_call_entry PyProof.Rows.slot_list_sort ⟨_, hoL, rfl⟩ PyProof.Rows.entry_list_sort (SrtO.list_sort_ord SrtO.swo_int hoL hz2 (fun h2 => SrtO.ints_sortable hS h2) fun out g1 g2 => ⟨_, rfl, ?_⟩) (PyProof.Rows.args_list_sort _)))
  obtain ⟨k1, k2, k3⟩ := SrtO.ints_out hS g1 g2
  obtain ⟨ep2, he2⟩ := PyProof.Rows.sortedHeap_at (vs := acc.toList) (out := out.toArray) hoL
  have hz3 : ((out.map SrtO.iv).map V.int).length ≤ sizeLine := by rw [List.length_map, k2.length_eq, ← hal]; exact hz2
  refine wpAny_pure ⟨_, rfl, .ref h1.objs.size, upd H h1.objs.size (.lst ((out.map SrtO.iv).map V.int)), J.laid (t' := tk) (fun b u e => ?_) (Nat.le_refl _) (show ObjOk X.prog X.w _ _ _ (.lst ((out.map SrtO.iv).map V.int)) from ⟨hz3, out, ep2, vals_of_ints k1, he2⟩), rfl, q _ _ k2 k3 (J.hok.fresh (Nat.le_refl _))⟩
  have hb : b < h1.objs.size := Heap.lt_size e
  rw [PyProof.Rows.sortedHeap_old (Nat.ne_of_lt hb) (by rw [size_push']; exact Nat.lt_succ_of_lt hb)]
  exact Heap.get?_push_of_some _ e
end
/-! ### zip of a tuple and a list -/
section
open PySem
variable {prog : Program} {w : World} {A : Around} {E : Value → Shared → Prop} {s : Shared}
theorem mixItem {z tI tO j1 j2 m1 m2 : Addr} {k : Nat} {us vs : Array Value} {u v a b : Value} {Q : Value → Shared → Prop} (D : ZipApart z tI tO j1 j2 m1 m2)
    (gz : IsZip s.heap z tI tO .none) (gI : IsPair s.heap tI (.ref j1) (.ref j2)) (gO : IsPair s.heap tO a b) (g1 : s.heap.IsTupleIter j1 m1 k) (g2 : s.heap.IsListIter j2 m2 k) (t1 : s.heap.IsTuple m1 us) (t2 : s.heap.IsList m2 vs) (e1 : us[k]? = some u) (e2 : vs[k]? = some v)
    (q : ∀ h', IsZip h' z tI tO (rawInt s.heap.objs.size) → IsPair h' tO u v → h'.IsTupleIter j1 m1 (k + 1) → h'.IsListIter j2 m2 (k + 1) → IsPair h' s.heap.objs.size u v → h'.objs.size = s.heap.objs.size + 1 →
      (∀ c o, ¬ c ∈ [z, tI, tO, j1, j2] ∨ c = tI → s.heap.get? c = some o → h'.get? c = some o) → Q (.ref s.heap.objs.size) { s with heap := h' }) :
    wpAny (model prog w) A (Builtin.«zip.__next__» ⟨[.ref z], []⟩) (fun r s' => ∃ x, r = .done (.ret x) ∧ Q x s') E s := by
  show wpAny _ _ (field (.ref z) 2 >>= _) _ _ _
  refine wpAny_bind (wpAny_field gz rfl (x := .bool false) rfl ?_)
  show wpAny _ _ (field (.ref z) 3 >>= _) _ _ _
  refine wpAny_bind (wpAny_field gz rfl (x := .ref tI) rfl (wpAny_bind (wpAny_seqItems gI rfl ?_)))
  show wpAny _ _ (Builtin.SmallTypes.ownedTupleIsFree (.ref z) >>= _) _ _ s
  refine wpAny_bind ?_; unfold Builtin.SmallTypes.ownedTupleIsFree
  refine wpAny_bind (wpAny_field gz rfl (x := .none) rfl (wpAny_pure ?_)); simp only [if_true]
  refine wpAny_bind (wpAny_rule (wpAny_bind (wpAny_field gz rfl (x := .ref tO) rfl (wpAny_bind (wpAny_setField_rec gz (by simp) fun p1 gz1 b1 => ?_)))))
  have gz1 : IsZip p1 z tI tO .ellipsis := gz1
  refine wpAny_bind ?_; simp only [List.forIn_cons, List.zipIdx_cons, List.forIn_nil, List.zipIdx_nil]
  -- the tuple's next one
  refine wpAny_bind (wpAny_bind (wpAny_onRaise ?_))
  show wpAny _ _ (Builtin.SmallTypes.nextOf (.ref j1) >>= _) _ _ _
  refine wpAny_bind (RZ.nextOf_tuple_item (g1.extBut b1.extBut D.i1z) (t1.extBut b1.extBut D.l1z) e1 fun p2 g12 b2 => wpAny_pure ?_)
  have gO2 : IsPair p2 tO a b := b2.extBut _ _ D.TOi1 (b1.extBut _ _ D.TOz gO)
  refine wpAny_bind (wpAny_seqItems gO2 rfl (wpAny_bind (wpAny_updateSeq_pair gO2 fun p3 gO3 b3 => wpAny_bind (wpAny_letGo (wpAny_pure ?_)))))
  have gO3 : IsPair p3 tO u b := gO3
  -- the list's next one
  refine wpAny_bind (wpAny_bind (wpAny_onRaise ?_))
  show wpAny _ _ (Builtin.SmallTypes.nextOf (.ref j2) >>= _) _ _ _
  have g23 := ((g2.extBut b1.extBut D.i2z).extBut b2.extBut D.i12.symm).extBut b3.extBut D.TOi2.symm
  have t23 := ((t2.extBut b1.extBut D.l2z).extBut b2.extBut D.l2i1).extBut b3.extBut D.l2TO
  refine wpAny_bind (wpAny_nextOf_list_item g23 t23 e2 fun p4 g24 b4 => wpAny_pure ?_)
  have gO4 : IsPair p4 tO u b := b4.extBut _ _ D.TOi2 gO3
  refine wpAny_bind (wpAny_seqItems gO4 rfl (wpAny_bind (wpAny_updateSeq_pair gO4 fun p5 gO5 b5 => wpAny_bind (wpAny_letGo (wpAny_pure (wpAny_pure ?_))))))
  have gO5 : IsPair p5 tO u v := gO5
  refine wpAny_bind (wpAny_seqItems gO5 rfl (wpAny_bind (wpAny_newTuple ?_)))
  have zs : p5.objs.size = s.heap.objs.size := by rw [b5.1, b4.1, b3.1, b2.1, b1.1]
  have gz5 : IsZip p5 z tI tO .ellipsis := b5.extBut _ _ D.TOz.symm (b4.extBut _ _ D.i2z.symm (b3.extBut _ _ D.TOz.symm (b2.extBut _ _ D.i1z.symm gz1)))
  have kp : ∀ c o, c ≠ z → c ≠ tO → c ≠ j1 → c ≠ j2 → s.heap.get? c = some o → p5.get? c = some o := fun c o n1 n2 n3 n4 e => by
    rw [b5.2 c n2, b4.2 c n4, b3.2 c n2, b2.2 c n3, b1.2 c n1]
    exact e
  have g15 : p5.IsTupleIter j1 m1 (k + 1) := g12.at fun o e => by
    rw [b5.2 _ D.TOi1.symm, b4.2 _ D.i12, b3.2 _ D.TOi1.symm]
    exact e
  have g25 : p5.IsListIter j2 m2 (k + 1) := g24.at fun o e => (b5.2 _ D.TOi2.symm).trans e
  have lz : z < p5.objs.size := Heap.lt_size gz5
  show wpAny _ _ (Builtin.SmallTypes.ownedTupleHandOut (.ref z) (.ref p5.objs.size) >>= _) _ _ _
  refine wpAny_bind ?_; unfold Builtin.SmallTypes.ownedTupleHandOut
  have gz6 : IsZip (p5.push { cls := .type "tuple", data := .seq #[u, v] }) z tI tO .ellipsis := Heap.get?_push_of_some _ gz5
  refine wpAny_bind (wpAny_setField_rec gz6 (by simp) fun p7 gz7 b7 => ?_)
  have gz7 : IsZip p7 z tI tO (rawInt p5.objs.size) := gz7
  refine wpAny_setField_rec gz7 (by simp) fun p8 gz8 b8 => wpAny_pure ⟨_, rfl, ?_⟩
  have gz8 : IsZip p8 z tI tO (rawInt p5.objs.size) := gz8
  have up : ∀ c o, c ≠ z → p5.get? c = some o → p8.get? c = some o := fun c o n e => by
    rw [b8.2 c n, b7.2 c n]
    exact Heap.get?_push_of_some _ e
  have gT : IsPair p8 p5.objs.size u v := by
    show p8.get? _ = _
    rw [b8.2 _ (Nat.ne_of_gt lz), b7.2 _ (Nat.ne_of_gt lz)]
    exact Heap.get?_push_size _ rfl
  have z8 : p8.objs.size = p5.objs.size + 1 := by rw [b8.1, b7.1, Heap.size_push]
  rw [zs] at gz8 gT z8
  show Q (.ref p5.objs.size) _
  rw [zs]
  refine q p8 gz8 (up _ _ D.TOz gO5) (g15.at fun o e => up _ o D.i1z e) (g25.at fun o e => up _ o D.i2z e) gT z8 fun c o n e => ?_
  have n4 : c ≠ z ∧ c ≠ tO ∧ c ≠ j1 ∧ c ≠ j2 := by
    rcases n with n | n
    · simp only [List.mem_cons, List.not_mem_nil, or_false, not_or] at n
      exact ⟨n.1, n.2.2.1, n.2.2.2.1, n.2.2.2.2⟩
    · subst n
      exact ⟨D.TIz, D.TITO, D.TIi1, D.TIi2⟩
  exact up c o n4.1 (kp c o n4.1 n4.2.1 n4.2.2.1 n4.2.2.2 e)
theorem mixEnd {z tI tO j1 j2 m1 m2 : Addr} {k : Nat} {us vs : Array Value} {a b : Value} {Q : Fin → Shared → Prop} (hh : A.handled = none) (D : ZipApart z tI tO j1 j2 m1 m2)
    (gz : IsZip s.heap z tI tO .none) (gI : IsPair s.heap tI (.ref j1) (.ref j2)) (gO : IsPair s.heap tO a b) (g1 : s.heap.IsTupleIter j1 m1 k) (g2 : s.heap.IsListIter j2 m2 k) (t1 : s.heap.IsTuple m1 us) (t2 : s.heap.IsList m2 vs) (hend : us[k]? = none ∨ vs[k]? = none)
    (q : ∀ h' x, (∀ c o, ¬ c ∈ [z, tI, tO, j1, j2] → s.heap.get? c = some o → h'.get? c = some o) → (∃ o, h'.get? x = some o ∧ o.cls = .type "StopIteration") → E (.ref x) { s with heap := h' }) :
    wpAny (model prog w) A (Builtin.«zip.__next__» ⟨[.ref z], []⟩) Q E s := by
  have four : ∀ c, ¬ c ∈ [z, tI, tO, j1, j2] → c ≠ z ∧ c ≠ tO ∧ c ≠ j1 ∧ c ≠ j2 := fun c n => by
    simp only [List.mem_cons, List.not_mem_nil, or_false, not_or] at n
    exact ⟨n.1, n.2.2.1, n.2.2.2.1, n.2.2.2.2⟩
  show wpAny _ _ (field (.ref z) 2 >>= _) _ _ _
  refine wpAny_bind (wpAny_field gz rfl (x := .bool false) rfl ?_)
  show wpAny _ _ (field (.ref z) 3 >>= _) _ _ _
  refine wpAny_bind (wpAny_field gz rfl (x := .ref tI) rfl (wpAny_bind (wpAny_seqItems gI rfl ?_)))
  show wpAny _ _ (Builtin.SmallTypes.ownedTupleIsFree (.ref z) >>= _) _ _ s
  refine wpAny_bind ?_; unfold Builtin.SmallTypes.ownedTupleIsFree
  refine wpAny_bind (wpAny_field gz rfl (x := .none) rfl (wpAny_pure ?_)); simp only [if_true]
  refine wpAny_bind (wpAny_rule (wpAny_bind (wpAny_field gz rfl (x := .ref tO) rfl (wpAny_bind (wpAny_setField_rec gz (by simp) fun p1 gz1 b1 => ?_)))))
  have gz1 : IsZip p1 z tI tO .ellipsis := gz1
  refine wpAny_bind ?_; simp only [List.forIn_cons, List.zipIdx_cons, List.forIn_nil, List.zipIdx_nil]
  refine wpAny_bind (wpAny_bind (wpAny_onRaise ?_))
  show wpAny _ _ (Builtin.SmallTypes.nextOf (.ref j1) >>= _) _ _ _
  have last : ∀ (h : Heap) (x : Addr), IsZip h z tI tO .ellipsis → (∃ o, h.get? x = some o ∧ o.cls = .type "StopIteration") → x ≠ z := fun h x gz ⟨o, e, ec⟩ n => by
    subst n
    rw [gz] at e
    cases e
    simp at ec
  cases e1 : us[k]? with
  | none =>
    refine wpAny_bind (RZ.nextOf_tuple_end hh (g1.extBut b1.extBut D.i1z) (t1.extBut b1.extBut D.l1z) e1 fun p2 x b2 ex => ?_)
    have gz2 : IsZip p2 z tI tO .ellipsis := b2 _ _ D.i1z.symm gz1
    have nz := last p2 x gz2 ex
    obtain ⟨o, eo, ec⟩ := ex
    refine wpAny_setField_rec gz2 (by simp) fun p3 _ b3 => q p3 x (fun c o n e => ?_) ⟨o, (b3.2 _ nz).trans eo, ec⟩
    have n4 := four c n
    rw [b3.2 c n4.1]
    exact b2 _ _ n4.2.2.1 ((b1.2 c n4.1).trans e)
  | some u =>
    have e2 : vs[k]? = none := by
      rcases hend with h | h
      · rw [e1] at h
        cases h
      · exact h
    refine wpAny_bind (RZ.nextOf_tuple_item (g1.extBut b1.extBut D.i1z) (t1.extBut b1.extBut D.l1z) e1 fun p2 g12 b2 => wpAny_pure ?_)
    have gO2 : IsPair p2 tO a b := b2.extBut _ _ D.TOi1 (b1.extBut _ _ D.TOz gO)
    refine wpAny_bind (wpAny_seqItems gO2 rfl (wpAny_bind (wpAny_updateSeq_pair gO2 fun p3 gO3 b3 => wpAny_bind (wpAny_letGo (wpAny_pure ?_)))))
    refine wpAny_bind (wpAny_bind (wpAny_onRaise ?_))
    show wpAny _ _ (Builtin.SmallTypes.nextOf (.ref j2) >>= _) _ _ _
    have g23 := ((g2.extBut b1.extBut D.i2z).extBut b2.extBut D.i12.symm).extBut b3.extBut D.TOi2.symm
    have t23 := ((t2.extBut b1.extBut D.l2z).extBut b2.extBut D.l2i1).extBut b3.extBut D.l2TO
    refine wpAny_bind (wpAny_nextOf_list_end hh g23 t23 e2 fun p4 x b4 ex => ?_)
    have gz4 : IsZip p4 z tI tO .ellipsis := b4 _ _ D.i2z.symm (b3.extBut _ _ D.TOz.symm (b2.extBut _ _ D.i1z.symm gz1))
    have nz := last p4 x gz4 ex
    obtain ⟨o, eo, ec⟩ := ex
    refine wpAny_setField_rec gz4 (by simp) fun p5 _ b5 => q p5 x (fun c o n e => ?_) ⟨o, (b5.2 _ nz).trans eo, ec⟩
    have n4 := four c n
    rw [b5.2 c n4.1]
    refine b4 _ _ n4.2.2.2 ?_
    rw [b3.2 c n4.2.1, b2.2 c n4.2.2.1, b1.2 c n4.1]
    exact e
theorem mixNextItem {z tI tO j1 j2 m1 m2 : Addr} {k : Nat} {us vs : Array Value} {u v a b : Value} {Q : Option Value → Shared → Prop} (D : ZipApart z tI tO j1 j2 m1 m2)
    (gz : IsZip s.heap z tI tO .none) (gI : IsPair s.heap tI (.ref j1) (.ref j2)) (gO : IsPair s.heap tO a b) (g1 : s.heap.IsTupleIter j1 m1 k) (g2 : s.heap.IsListIter j2 m2 k) (t1 : s.heap.IsTuple m1 us) (t2 : s.heap.IsList m2 vs) (e1 : us[k]? = some u) (e2 : vs[k]? = some v)
    (q : ∀ h', IsZip h' z tI tO (rawInt s.heap.objs.size) → IsPair h' tO u v → h'.IsTupleIter j1 m1 (k + 1) → h'.IsListIter j2 m2 (k + 1) → IsPair h' s.heap.objs.size u v → h'.objs.size = s.heap.objs.size + 1 →
      (∀ c o, ¬ c ∈ [z, tI, tO, j1, j2] ∨ c = tI → s.heap.get? c = some o → h'.get? c = some o) → Q (some (.ref s.heap.objs.size)) { s with heap := h' }) :
    wpAny (model prog w) A (pyNext (.ref z)) Q E s := by
  have ty : s.TypeIs (.ref z) "zip" := ⟨_, gz, rfl⟩
  unfold pyNext; refine wpAny_bind (wpAny_attempt (wpAny_callSpecial?_slot (name := Str.ofString "__next__") ty F.slot_zip_next ?_))
  exact wpAny_call_entry F.slot_zip_next ty F.entry_zip_next (mixItem D gz gI gO g1 g2 t1 t2 e1 e2 fun h' r1 r2 r3 r4 r5 r6 r7 => wpAny_pure (q h' r1 r2 r3 r4 r5 r6 r7)) (F.args_zip_next_1 _)
theorem mixNextEnd {z tI tO j1 j2 m1 m2 : Addr} {k : Nat} {us vs : Array Value} {a b : Value} {Q : Option Value → Shared → Prop} (hh : A.handled = none) (D : ZipApart z tI tO j1 j2 m1 m2)
    (gz : IsZip s.heap z tI tO .none) (gI : IsPair s.heap tI (.ref j1) (.ref j2)) (gO : IsPair s.heap tO a b) (g1 : s.heap.IsTupleIter j1 m1 k) (g2 : s.heap.IsListIter j2 m2 k) (t1 : s.heap.IsTuple m1 us) (t2 : s.heap.IsList m2 vs) (hend : us[k]? = none ∨ vs[k]? = none)
    (q : ∀ h', (∀ c o, ¬ c ∈ [z, tI, tO, j1, j2] → s.heap.get? c = some o → h'.get? c = some o) → Q none { s with heap := h' }) : wpAny (model prog w) A (pyNext (.ref z)) Q E s := by
  have ty : s.TypeIs (.ref z) "zip" := ⟨_, gz, rfl⟩
  unfold pyNext; refine wpAny_bind (wpAny_attempt (wpAny_callSpecial?_slot (name := Str.ofString "__next__") ty F.slot_zip_next ?_))
  refine wpAny_call_entry F.slot_zip_next ty F.entry_zip_next (mixEnd hh D gz gI gO g1 g2 t1 t2 hend fun h' x kp ⟨o, eo, ec⟩ => ?_) (F.args_zip_next_1 _)
  exact wpAny_bind (wpAny_isInstance (T := "StopIteration") (b := true) ⟨o, eo, ec⟩ isSubtype_stop (wpAny_pure (q _ kp)))
end
section
open PySem
/-- the tuple at a and the list at b as they stand at each turn -/
def ItzM (K : PySem.W.Frag) (a b : Addr) : It where
  go i H := ∃ (us vs : List V) (x y : V), SqT K H a us ∧ SqL K H b vs ∧ us[i]? = some x ∧ vs[i]? = some y
  yld i H v H' := ∃ c x y, v = .ref c ∧ H c = none ∧ H' = upd H c (.tup [x, y]) ∧ (∀ us, SqT K H a us → us[i]? = some x) ∧ ∀ vs, SqL K H b vs → vs[i]? = some y
  stop i H := ∃ us vs : List V, SqT K H a us ∧ SqL K H b vs ∧ (us.length ≤ i ∨ vs.length ≤ i)
theorem turnMix {P : Program} {w : World} {K : PySem.W.Frag} {el : List Expr} {n : Nat} {tp : Pos} {a b z tI tO j1 j2 : Addr} (D : ZipApart z tI tO j1 j2 a b) :
    Turn P w K (.Tuple el n tp) (ItzM K a b) [z, tI, tO, j1, j2] z (fun i h => IsZip h z tI tO .none ∧ IsPair h tI (.ref j1) (.ref j2) ∧ (∃ x y, IsPair h tO x y) ∧ h.IsTupleIter j1 a i ∧ h.IsListIter j2 b i) where
  mem := by simp
  obj := fun i h st c hc => by
    obtain ⟨gz, gI, ⟨x, y, gO⟩, ⟨o1, e1, _, d1⟩, o2, e2, _, d2⟩ := st
    simp only [List.mem_cons, List.not_mem_nil, or_false] at hc
    rcases hc with rfl | rfl | rfl | rfl | rfl
    · exact ⟨_, gz, fun v e => nomatch e⟩
    · exact ⟨_, gI, fun v e => nomatch e⟩
    · exact ⟨_, gO, fun v e => nomatch e⟩
    · exact ⟨o1, e1, fun v e => by rw [d1] at e; cases e⟩
    · exact ⟨o2, e2, fun v e => by rw [d2] at e; cases e⟩
  keep := fun i h h' st k => by
    obtain ⟨gz, gI, ⟨x, y, gO⟩, g1, g2⟩ := st
    exact ⟨k _ (by simp) _ gz, k _ (by simp) _ gI, ⟨x, y, k _ (by simp) _ gO⟩, g1.at fun o e => k _ (by simp) o e, g2.at fun o e => k _ (by simp) o e⟩
  item := by
    intro X eP ew eK hc i pins s σ H E I hf st hg
    subst eP ew eK
    obtain ⟨gz, gI, ⟨x0, y0, gO⟩, g1, g2⟩ := st
    obtain ⟨us, vs, x, y, s1, s2, e1, e2⟩ := hg
    obtain ⟨as, r1, t1, _⟩ := I.tuple s1
    obtain ⟨bs, r2, t2, _⟩ := I.list s2
    obtain ⟨u, eu, ru⟩ := r1.get e1
    obtain ⟨v, ev, rv⟩ := r2.get e2
    have lz : z < s.heap.objs.size := Heap.lt_size gz
    refine mixNextItem D gz gI gO g1 g2 t1 t2.isList (u := u) (v := v) (by simpa using eu) (by simpa using ev) fun h' k1 k2 k3 k4 k5 k6 k7 => ⟨_, rfl, ?_⟩
    refine wpAny_letOwnedTupleGo_zip (s := { s with heap := h' }) k1 fun h2 l1 sb => ?_
    have pr : h2.get? s.heap.objs.size = some { cls := .type "tuple", data := .seq #[u, v] } := (sb.2 _ (Nat.ne_of_gt lz)).trans k5
    have ok : ObjOk X.prog X.w (upd H s.heap.objs.size (.tup [x, y])) h2 s.heap.objs.size (.tup [x, y]) := ⟨by show 2 ≤ sizeLine; decide, [u, v], .cons ru (.cons rv .nil), _, pr, rfl, _, rfl⟩
    have J : Inv X pins σ (upd H s.heap.objs.size (.tup [x, y])) { s with heap := h2 } := I.turnedNew (t' := s.toks) (ch := [z, tI, tO, j1, j2]) (fun c o n e => by
      have nz : c ≠ z := fun e => n (by simp [e])
      exact (sb.2 c nz).trans (k7 c o (.inl n) e)) hf (Nat.le_refl _) ok
    refine ⟨.ref s.heap.objs.size, _, J, rfl, ⟨_, x, y, rfl, I.hok.fresh (Nat.le_refl _), rfl, fun l hl => ?_, fun l hl => ?_⟩, ⟨l1, ?_, ⟨u, v, ?_⟩, ?_, ?_⟩, fun c hcm => ?_⟩
    · rw [I.tuple_inj hl s1]
      exact e1
    · rw [I.list_inj hl s2]
      exact e2
    · exact (sb.2 _ D.TIz).trans (k7 _ _ (.inr rfl) gI)
    · exact (sb.2 _ D.TOz).trans k2
    · exact k3.at fun o e => (sb.2 _ D.i1z).trans e
    · exact k4.at fun o e => (sb.2 _ D.i2z).trans e
    · have lt : c < s.heap.objs.size := by
        have hc' := hcm
        simp only [List.mem_cons, List.not_mem_nil, or_false] at hc'
        rcases hc' with rfl | rfl | rfl | rfl | rfl
        · exact lz
        · exact Heap.lt_size gI
        · exact Heap.lt_size gO
        · exact g1.elim fun _ e => Heap.lt_size e.1
        · exact g2.elim fun _ e => Heap.lt_size e.1
      rw [upd_ne (Nat.ne_of_lt lt)]
      exact (hf c hcm).1
  done := by
    intro X eP ew eK hc i pins s σ H E I hf st hg
    subst eP ew eK
    obtain ⟨gz, gI, ⟨x0, y0, gO⟩, g1, g2⟩ := st
    obtain ⟨us, vs, s1, s2, he⟩ := hg
    obtain ⟨as, r1, t1, _⟩ := I.tuple s1
    obtain ⟨bs, r2, t2, _⟩ := I.list s2
    have l1 := r1.length
    have l2 := r2.length
    refine mixNextEnd (I.ok.hd hc) D gz gI gO g1 g2 t1 t2.isList ?_ fun h' kp => ⟨rfl, I.turnedL (t' := s.toks) (ch := [z, tI, tO, j1, j2]) (fun c o n e => kp c o n e) hf⟩
    rcases he with h | h
    · exact .inl (by simp; omega)
    · exact .inr (by simp; omega)
  self := fun A i s Q E st h => wpAny_pyIter_zip st.1 h
abbrev mx1 (h : Heap) (a : Addr) : Heap := h.push { cls := .type "tuple_iterator", data := .fields #[.ref a, .int 0 0] }
abbrev mx2 (h : Heap) (a b : Addr) : Heap := (mx1 h a).push { cls := .type "list_iterator", data := .fields #[.ref b, .int 0 0] }
abbrev mx3 (h : Heap) (a b : Addr) : Heap := (mx2 h a b).push { cls := .type "tuple", data := .seq #[.ref h.objs.size, .ref (mx1 h a).objs.size] }
abbrev mx4 (h : Heap) (a b : Addr) : Heap := (mx3 h a b).push { cls := .type "tuple", data := .seq #[.none, .none] }
abbrev mx5 (h : Heap) (a b : Addr) : Heap := (mx4 h a b).push { cls := .type "zip", data := .fields #[.none, .bool false, .bool false, .ref (mx2 h a b).objs.size, .ref (mx3 h a b).objs.size] }
theorem mixMade (a b : Addr) (us vs : Array Value) : Meets (Builtin.«zip.__new__» ⟨[.type "zip", .ref a, .ref b], []⟩) (fun _ R s => s.heap.IsTuple a us ∧ s.heap.IsList b vs ∧ R (.ok (.ret (.ref (mx4 s.heap a b).objs.size))) { s with heap := mx5 s.heap a b }) :=
  .of_wp fun prog w A R s h => by
    obtain ⟨hp, g, d, tk, os⟩ := s
    obtain ⟨t1, t2, q⟩ := h
    have sz := sub_zip
    have T1 : Heap.IsTuple (Shared.heap ⟨hp, g, d, tk, os⟩) a us := t1
    have T2 : Heap.IsList (Shared.heap ⟨hp.push { cls := .type "tuple_iterator", data := .fields #[.ref a, .int 0 0] }, g, d, tk, os⟩) b vs := Heap.IsList.push t2 _
    wp_walk using wpAny_pyIter_tuple T1, wpAny_pyIter_list T2
    exact ⟨_, rfl, q⟩
theorem mixCall {prog : Program} {w : World} {A : Around} {E : Value → Shared → Prop} {s : Shared} {a b : Addr} {us vs : Array Value} {Q : Value → Shared → Prop} (t1 : s.heap.IsTuple a us) (t2 : s.heap.IsList b vs)
    (q : ∀ h', IsZip h' (s.heap.objs.size + 4) (s.heap.objs.size + 2) (s.heap.objs.size + 3) .none ∧ IsPair h' (s.heap.objs.size + 2) (.ref s.heap.objs.size) (.ref (s.heap.objs.size + 1)) ∧ IsPair h' (s.heap.objs.size + 3) .none .none ∧ h'.IsTupleIter s.heap.objs.size a 0 ∧ h'.IsListIter (s.heap.objs.size + 1) b 0 →
      (∀ c o, s.heap.get? c = some o → h'.get? c = some o) → Q (.ref (s.heap.objs.size + 4)) { s with heap := h' }) : wpAny (model prog w) A (call (.type "zip") [.ref a, .ref b]) Q E s := by
  refine callType_new F.called_zip (by decide) (F.typeCall_zip_2 _ _) (F.newCall_zip_2 _ _) (fun ob => F.args_object_init_3 ob _ _) F.entry_zip_new (mixMade a b us vs) ⟨t1, t2, ?_⟩
  have n1 : (mx1 s.heap a).objs.size = s.heap.objs.size + 1 := Heap.size_push ..
  have n2 : (mx2 s.heap a b).objs.size = s.heap.objs.size + 2 := by rw [Heap.size_push, n1]
  have n3 : (mx3 s.heap a b).objs.size = s.heap.objs.size + 3 := by rw [Heap.size_push, n2]
  have n4 : (mx4 s.heap a b).objs.size = s.heap.objs.size + 4 := by rw [Heap.size_push, n3]
  have on : ∀ {h : Heap} {c : Addr} {o p : Obj}, h.get? c = some o → (h.push p).get? c = some o := fun e => Heap.get?_push_of_some _ e
  have f5 : (mx5 s.heap a b).get? (mx4 s.heap a b).objs.size = some _ := Heap.get?_push_size _ rfl
  have f4 : (mx5 s.heap a b).get? (mx3 s.heap a b).objs.size = some _ := on (Heap.get?_push_size _ rfl)
  have f3 : (mx5 s.heap a b).get? (mx2 s.heap a b).objs.size = some _ := on (on (Heap.get?_push_size _ rfl))
  have f2 : (mx5 s.heap a b).get? (mx1 s.heap a).objs.size = some _ := on (on (on (Heap.get?_push_size _ rfl)))
  have f1 : (mx5 s.heap a b).get? s.heap.objs.size = some _ := on (on (on (on (Heap.get?_push_size _ rfl))))
  rw [n2, n3, n4] at f5
  rw [n1, n2] at f3
  rw [n3] at f4
  rw [n1] at f2
  show _ ∧ _
  rw [n4]
  exact ⟨⟨_, f5, rfl⟩, q _ ⟨f5, f3, f4, ⟨_, f1, rfl, rfl⟩, _, f2, rfl, rfl⟩ fun c o e => on (on (on (on (on e))))⟩
def iMix (K : PySem.W.Frag) (ta : TA) : L2.TI := fun σ H R => ta σ H fun vs H1 => ∃ a b xs ys, vs = [.ref a, .ref b] ∧ SqT K H1 a xs ∧ SqL K H1 b ys ∧ R (ItzM K a b) H1
theorem pi_mix {X : Cx} {e e2 : Expr} {ta : TA} {p pos tp : Pos} {el : List Expr} {n : Nat} (hg : Gl X "zip") (hm : X.mg "zip" = none) (ha : PA X [e, e2] ta)
    (h1 : starEach [e, e2] X.env = (false, eval e X.env) :: starEach [e2] X.env := by rfl) (h2 : (backTo pos (starEach [e2] X.env)).any (·.1) = false := by rfl) : PI X (.Tuple el n tp) (.Call (.Name "zip" p) [e, e2] [] pos) (iMix X.K ta) := by
  constructor
  intro pins s σ H R I h
  refine Call_ (ld_blt I hg hm PyProof.Rows.boot_zip (PyProof.Rows.callWith_type1 (thn (ha.run pos pins s σ H _ I h) fun us s1 hz => ?_) h1 h2))
  obtain ⟨vs, H1, J, va, a, b, xs, ys, rfl, hx, hy, q⟩ := hz
  match us, va with
  | [_, _], .cons r1 (.cons r2 .nil) =>
    cases r1
    cases r2
    obtain ⟨as, rv1, t1, _⟩ := J.tuple hx
    obtain ⟨bs, rv2, t2, _⟩ := J.list hy
    have la : a < s1.heap.objs.size := t1.elim fun _ z => Heap.lt_size z.1
    refine mixCall t1 t2.isList fun h' st kp => wpAny_pyIter_zip st.1 ?_
    refine ⟨s1.heap.objs.size + 4, [s1.heap.objs.size + 4, s1.heap.objs.size + 2, s1.heap.objs.size + 3, s1.heap.objs.size, s1.heap.objs.size + 1], _, _, H1, rfl, J.kept (t' := s1.toks) kp, turnMix (PySem.W.ktu_apart s1.heap.objs.size a b la t2.lt), ⟨st.1, st.2.1, ⟨_, _, st.2.2.1⟩, st.2.2.2.1, st.2.2.2.2⟩, fun c hc => ?_, q⟩
    have le : s1.heap.objs.size ≤ c := by
      simp only [List.mem_cons, List.not_mem_nil, or_false] at hc
      rcases hc with rfl | rfl | rfl | rfl | rfl
      · exact Nat.le_add_right _ _
      · exact Nat.le_add_right _ _
      · exact Nat.le_add_right _ _
      · exact Nat.le_refl _
      · exact Nat.le_add_right _ _
    exact J.fpOk le (J.hok.fresh le)
theorem walk_mix {K : PySem.W.Frag} {a b : Addr} {xs ys : List V} (hl : xs.length = ys.length) : Walk (ItzM K a b) xs.length (fun H => SqT K H a xs ∧ SqL K H b ys) (YPair (fun i => xs[i]?) (fun i => ys[i]?)) where
  goes i H hi q := ⟨xs, ys, xs[i], ys[i]'(hl ▸ hi), q.1, q.2, List.getElem?_eq_getElem hi, List.getElem?_eq_getElem (hl ▸ hi)⟩
  stops H q := ⟨xs, ys, q.1, q.2, .inl (Nat.le_refl _)⟩
  yields i H v H' _ q y := by
    obtain ⟨c, x, z, k1, k2, k3, k4, k5⟩ := y
    exact ⟨c, x, z, k1, k2, k3, k4 xs q.1, k5 ys q.2⟩
end
/-! ### enumerate of a tuple -/
section
open PySem
theorem enuMade (a : Addr) (us : Array Value) (n : Nat) (dc : Option Addr) (sl : Array (Option Value)) : Meets (Builtin.«enumerate.__new__» ⟨[.type "enumerate", .ref a], []⟩) (fun _ R s => s.heap.get? a = some { cls := .type "tuple", dict := dc, data := .seq us n, slots := sl } ∧
      R (.ok (.ret (.ref (s.heap.push { cls := .type "tuple_iterator", data := .fields #[.ref a, .int 0 0] }).objs.size)))
        { s with heap := (s.heap.push { cls := .type "tuple_iterator", data := .fields #[.ref a, .int 0 0] }).push { cls := .type "enumerate", data := .fields #[.none, .bool false, .ref s.heap.objs.size, rawInt 0, .none, .none] } }) :=
  .of_wp fun prog w A R s h => by
    obtain ⟨hp, g, d, tk, os⟩ := s
    obtain ⟨e, q⟩ := h
    have su := sub_enumerate
    have T : Heap.IsTuple (Shared.heap ⟨hp, g, d, tk, os⟩) a us := ⟨_, e, rfl, n, rfl⟩
    wp_walk using PySem.AutoSeq1.wpAny_loadPart' e
    refine wpAny_stack_any fun st => wpAny_pure ?_
    split
    · rename_i c _ _ _ _ _
      cases (c == Value.type "enumerate")
      · wp_walk using PySem.AutoSeq1.wpAny_loadPart' e, wpAny_pyIter_tuple T
        exact ⟨_, rfl, q⟩
      · wp_walk using PySem.AutoSeq1.wpAny_loadPart' e, wpAny_pyIter_tuple T
        exact ⟨_, rfl, q⟩
    · wp_walk using PySem.AutoSeq1.wpAny_loadPart' e, wpAny_pyIter_tuple T
      exact ⟨_, rfl, q⟩
variable {prog : Program} {w : World} {A : Around} {E : Value → Shared → Prop} {s : Shared}
theorem enuCall {a : Addr} {us : Array Value} {Q : Value → Shared → Prop} (t : s.heap.IsTuple a us)
    (q : ∀ h', IsEnum h' (s.heap.objs.size + 1) s.heap.objs.size 0 .none → h'.IsTupleIter s.heap.objs.size a 0 → (∀ b o, s.heap.get? b = some o → h'.get? b = some o) → Q (.ref (s.heap.objs.size + 1)) { s with heap := h' }) :
    wpAny (model prog w) A (call (.type "enumerate") [.ref a]) Q E s := by
  obtain ⟨⟨c, dc, dt, sl⟩, e, ec, n, ed⟩ := t
  have ec : c = .type "tuple" := ec
  have ed : dt = .seq us n := ed
  subst ec ed
  refine callType_new F.called_enumerate (by decide) (F.typeCall_enumerate_1 _) (F.newCall_enumerate_1 _) (fun ob => F.args_object_init_2 ob _) F.entry_enumerate_new (enuMade a us n dc sl) ⟨e, ?_⟩
  have z : (s.heap.push { cls := .type "tuple_iterator", data := .fields #[.ref a, .int 0 0] }).objs.size = s.heap.objs.size + 1 := Heap.size_push ..
  have g2 : ((s.heap.push { cls := .type "tuple_iterator", data := .fields #[.ref a, .int 0 0] }).push { cls := .type "enumerate", data := .fields #[.none, .bool false, .ref s.heap.objs.size, rawInt 0, .none, .none] }).get? (s.heap.push { cls := .type "tuple_iterator", data := .fields #[.ref a, .int 0 0] }).objs.size = some _ := Heap.get?_push_size _ rfl
  show _ ∧ _
  rw [z] at g2 ⊢
  exact ⟨⟨_, g2, rfl⟩, q _ g2 ⟨_, Heap.get?_push_of_some _ (Heap.get?_push_size _ rfl), rfl, rfl⟩ fun b o x => Heap.get?_push_of_some _ (Heap.get?_push_of_some _ x)⟩
theorem enuItem {e j a : Addr} {i : Nat} {us : Array Value} {x old : Value} {Q : Value → Shared → Prop} (g : IsEnum s.heap e j i old) (gj : s.heap.IsTupleIter j a i) (t : s.heap.IsTuple a us) (ex : us[i]? = some x) (ne : e ≠ j)
    (q : ∀ h', IsEnumOut h' e j ((i : Int) + 1) x s.heap.objs.size → h'.IsTupleIter j a (i + 1) → h'.get? s.heap.objs.size = some { cls := .type "tuple", data := .seq #[.int i s.toks, x] } →
      (∀ b o, b ≠ e → b ≠ j → s.heap.get? b = some o → h'.get? b = some o) → Q (.ref s.heap.objs.size) { s with heap := h', toks := s.toks + 1 }) :
    wpAny (model prog w) A (Builtin.«enumerate.__next__» ⟨[.ref e], []⟩) (fun r s' => ∃ v, r = .done (.ret v) ∧ Q v s') E s := by
  obtain ⟨hp, gg, dd, tk, os⟩ := s
  show wpAny _ _ (field (.ref e) 2 >>= _) _ _ _
  refine wpAny_bind (wpAny_field g rfl (x := .ref j) rfl (wpAny_bind (RZ.nextOf_tuple_item gj t ex fun p1 gj1 b1 => ?_)))
  have b1 : Heap.SameBut j hp p1 := b1
  have g1 : IsEnum p1 e j i old := (b1.2 e ne).trans g
  show wpAny _ _ (field (.ref e) 3 >>= _) _ _ ⟨p1, gg, dd, tk, os⟩
  refine wpAny_bind (wpAny_field g1 rfl (x := rawInt i) rfl ?_)
  show wpAny _ _ (field (.ref e) 4 >>= _) _ _ ⟨p1, gg, dd, tk, os⟩
  refine wpAny_bind (wpAny_field g1 rfl (x := .none) rfl ?_)
  show wpAny _ _ (mkInt i >>= _) _ _ ⟨p1, gg, dd, tk, os⟩
  refine wpAny_bind (wpAny_mkInt ?_)
  show wpAny _ _ (setField (.ref e) 3 (rawInt ((i : Int) + 1)) >>= _) _ _ ⟨p1, gg, dd, tk + 1, os⟩
  refine wpAny_bind (wpAny_setField_rec g1 (by simp) fun p2 g2 b2 => ?_)
  have b2 : Heap.SameBut e p1 p2 := b2
  have g2 : IsEnum p2 e j ((i : Int) + 1) old := g2
  show wpAny _ _ (setField (.ref e) 4 .none >>= _) _ _ ⟨p2, gg, dd, tk + 1, os⟩
  refine wpAny_bind (wpAny_setField_rec g2 (by simp) fun p3 g3 b3 => ?_)
  have b3 : Heap.SameBut e p2 p3 := b3
  have g3 : IsEnum p3 e j ((i : Int) + 1) old := g3
  show wpAny _ _ (newTuple [.int i tk, x] >>= _) _ _ ⟨p3, gg, dd, tk + 1, os⟩
  refine wpAny_bind (wpAny_newTuple ?_)
  have zs : p3.objs.size = hp.objs.size := by rw [b3.1, b2.1, b1.1]
  have g4 : IsEnum (p3.push { cls := .type "tuple", data := .seq #[.int i tk, x] }) e j ((i : Int) + 1) old := Heap.get?_push_of_some _ g3
  have t4 : (p3.push { cls := .type "tuple", data := .seq #[.int i tk, x] }).get? hp.objs.size = some { cls := .type "tuple", data := .seq #[.int i tk, x] } := by
    rw [← zs]
    exact Heap.get?_push_size _ rfl
  have k4 : ∀ b o, b ≠ e → b ≠ j → hp.get? b = some o → (p3.push { cls := .type "tuple", data := .seq #[.int i tk, x] }).get? b = some o := fun b o n1 n2 h => Heap.get?_push_of_some _ (by
    rw [b3.2 b n1, b2.2 b n1, b1.2 b n2]
    exact h)
  have j4 : (p3.push { cls := .type "tuple", data := .seq #[.int i tk, x] }).IsTupleIter j a (i + 1) := gj1.at fun o h => Heap.get?_push_of_some _ (by
    rw [b3.2 j ne.symm, b2.2 j ne.symm]
    exact h)
  have el : e < hp.objs.size := Heap.lt_size g
  show wpAny _ _ (Builtin.SmallTypes.ownedTupleIsFree (.ref e) >>= _) _ _ ⟨p3.push { cls := .type "tuple", data := .seq #[.int i tk, x] }, gg, dd, tk + 1, os⟩
  rw [zs]
  generalize p3.push { cls := .type "tuple", data := .seq #[.int i tk, x] } = p4 at g4 t4 k4 j4
  refine wpAny_bind ?_; unfold Builtin.SmallTypes.ownedTupleIsFree
  refine wpAny_bind (wpAny_field g4 rfl (x := .none) rfl (wpAny_pure ?_)); simp only [if_true]
  refine wpAny_bind (wpAny_rule (wpAny_bind (wpAny_field g4 rfl (x := old) rfl (wpAny_bind (wpAny_setField_rec g4 (by simp) fun p5 g5 b5 => ?_)))))
  have b5 : Heap.SameBut e p4 p5 := b5
  have g5 : IsEnum p5 e j ((i : Int) + 1) x := g5
  show wpAny _ _ (Builtin.SmallTypes.ownedTupleHandOut (.ref e) (.ref hp.objs.size) >>= _) _ _ ⟨p5, gg, dd, tk + 1, os⟩
  refine wpAny_bind ?_; unfold Builtin.SmallTypes.ownedTupleHandOut
  refine wpAny_bind (wpAny_setField_rec g5 (by simp) fun p6 g6 b6 => ?_)
  have b6 : Heap.SameBut e p5 p6 := b6
  have g6 : IsEnumOut p6 e j ((i : Int) + 1) x hp.objs.size := g6
  refine wpAny_setField_rec g6 (by simp) fun p7 g7 b7 => ?_
  have b7 : Heap.SameBut e p6 p7 := b7
  have up : ∀ b o, b ≠ e → p4.get? b = some o → p7.get? b = some o := fun b o n h => by
    rw [b7.2 b n, b6.2 b n, b5.2 b n]
    exact h
  exact wpAny_bind (wpAny_letGo (wpAny_pure ⟨_, rfl, q p7 g7 (j4.at fun o h => up _ o ne.symm h) (up _ _ (Nat.ne_of_gt el) t4) fun b o n1 n2 h => up b o n1 (k4 b o n1 n2 h)⟩))
theorem enuNextItem {e j a : Addr} {i : Nat} {us : Array Value} {x old : Value} {Q : Option Value → Shared → Prop} (g : IsEnum s.heap e j i old) (gj : s.heap.IsTupleIter j a i) (t : s.heap.IsTuple a us) (ex : us[i]? = some x) (ne : e ≠ j)
    (q : ∀ h', IsEnumOut h' e j ((i : Int) + 1) x s.heap.objs.size → h'.IsTupleIter j a (i + 1) → h'.get? s.heap.objs.size = some { cls := .type "tuple", data := .seq #[.int i s.toks, x] } →
      (∀ b o, b ≠ e → b ≠ j → s.heap.get? b = some o → h'.get? b = some o) → Q (some (.ref s.heap.objs.size)) { s with heap := h', toks := s.toks + 1 }) : wpAny (model prog w) A (pyNext (.ref e)) Q E s := by
  have ty : s.TypeIs (.ref e) "enumerate" := ⟨_, g, rfl⟩
  unfold pyNext; refine wpAny_bind (wpAny_attempt (wpAny_callSpecial?_slot (name := Str.ofString "__next__") ty F.slot_enumerate_next ?_))
  exact wpAny_call_entry F.slot_enumerate_next ty F.entry_enumerate_next (enuItem g gj t ex ne fun h' r1 r2 r3 r4 => wpAny_pure (q h' r1 r2 r3 r4)) (F.args_enumerate_next_1 _)
theorem enuNextEnd {e j a : Addr} {i : Nat} {us : Array Value} {old : Value} {Q : Option Value → Shared → Prop} (hh : A.handled = none) (g : IsEnum s.heap e j i old) (gj : s.heap.IsTupleIter j a i) (t : s.heap.IsTuple a us) (ex : us[i]? = none)
    (q : ∀ h', Heap.ExtBut j s.heap h' → Q none { s with heap := h' }) : wpAny (model prog w) A (pyNext (.ref e)) Q E s := by
  have ty : s.TypeIs (.ref e) "enumerate" := ⟨_, g, rfl⟩
  unfold pyNext; refine wpAny_bind (wpAny_attempt (wpAny_callSpecial?_slot (name := Str.ofString "__next__") ty F.slot_enumerate_next ?_))
  refine wpAny_call_entry F.slot_enumerate_next ty F.entry_enumerate_next ?_ (F.args_enumerate_next_1 _)
  show wpAny _ _ (field (.ref e) 2 >>= _) _ _ _
  refine wpAny_bind (wpAny_field g rfl (x := .ref j) rfl (wpAny_bind (RZ.nextOf_tuple_end hh gj t ex fun h' x b ⟨o, eo, ec⟩ => ?_)))
  exact wpAny_bind (wpAny_isInstance (T := "StopIteration") (b := true) ⟨o, eo, ec⟩ isSubtype_stop (wpAny_pure (q _ b)))
/-- the tuple at a, each item in a new pair -/
def IteT (K : PySem.W.Frag) (a : Addr) : It where
  go i H := ∃ (us : List V) (x : V), SqT K H a us ∧ us[i]? = some x
  yld i H v H' := ∃ c x, v = .ref c ∧ H c = none ∧ H' = upd H c (.tup [.int (i : Nat), x]) ∧ ∀ us, SqT K H a us → us[i]? = some x
  stop i H := ∃ us : List V, SqT K H a us ∧ us.length ≤ i
theorem turnEnuT {P : Program} {w : World} {K : PySem.W.Frag} {el : List Expr} {n : Nat} {tp : Pos} (a e j : Addr) :
    Turn P w K (.Tuple el n tp) (IteT K a) [e, j] e (fun i h => (∃ old, IsEnum h e j ((i : Nat) : Int) old) ∧ h.IsTupleIter j a i ∧ e ≠ j) where
  mem := by simp
  obj := fun i h st b hb => by
    obtain ⟨⟨old, g⟩, ⟨o, eo, _, ed⟩, _⟩ := st
    simp only [List.mem_cons, List.not_mem_nil, or_false] at hb
    rcases hb with rfl | rfl
    · exact ⟨_, g, fun v q => nomatch q⟩
    · exact ⟨o, eo, fun v q => by rw [ed] at q; cases q⟩
  keep := fun i h h' st k => by
    obtain ⟨⟨old, g⟩, gj, ne⟩ := st
    exact ⟨⟨old, k _ (by simp) _ g⟩, gj.at fun o q => k _ (by simp) o q, ne⟩
  item := by
    intro X eP ew eK hc i pins s σ H E I hf st hg
    subst eP ew eK
    obtain ⟨⟨old, g⟩, gj, ne⟩ := st
    obtain ⟨us, x, hq, ex⟩ := hg
    obtain ⟨as, r1, t1, _⟩ := I.tuple hq
    obtain ⟨u, eu, ru⟩ := r1.get ex
    have el : e < s.heap.objs.size := Heap.lt_size g
    have jl : j < s.heap.objs.size := gj.elim fun _ q => Heap.lt_size q.1
    refine enuNextItem g gj t1 (x := u) (by simpa using eu) ne fun h' k1 k2 k3 k4 => ⟨_, rfl, ?_⟩
    refine wpAny_letOwnedTupleGo_enum (s := { s with heap := h', toks := s.toks + 1 }) k1 fun h2 l1 sb => ?_
    have pr : h2.get? s.heap.objs.size = some { cls := .type "tuple", data := .seq #[.int i s.toks, u] } := (sb.2 _ (Nat.ne_of_gt el)).trans k3
    have ok : ObjOk X.prog X.w (upd H s.heap.objs.size (.tup [.int (i : Nat), x])) h2 s.heap.objs.size (.tup [.int (i : Nat), x]) := ⟨by show 2 ≤ sizeLine; decide, [.int i s.toks, u], .cons ⟨_, rfl⟩ (.cons ru .nil), _, pr, rfl, _, rfl⟩
    have J : Inv X pins σ (upd H s.heap.objs.size (.tup [.int (i : Nat), x])) { s with heap := h2, toks := s.toks + 1 } := I.turnedNew (ch := [e, j]) (fun b o n q => by
      have n1 : b ≠ e := fun z => n (by simp [z])
      have n2 : b ≠ j := fun z => n (by simp [z])
      exact (sb.2 b n1).trans (k4 b o n1 n2 q)) hf (Nat.le_refl _) ok
    refine ⟨.ref s.heap.objs.size, _, J, rfl, ⟨_, x, rfl, I.hok.fresh (Nat.le_refl _), rfl, fun ys hy => ?_⟩, ⟨⟨u, ?_⟩, k2.at fun o q => (sb.2 j ne.symm).trans q, ne⟩, fun b hb => ?_⟩
    · rw [I.tuple_inj hy hq]
      exact ex
    · rw [show ((i + 1 : Nat) : Int) = (i : Int) + 1 by omega]
      exact l1
    · have lt : b < s.heap.objs.size := by
        have hb' := hb
        simp only [List.mem_cons, List.not_mem_nil, or_false] at hb'
        rcases hb' with rfl | rfl
        · exact el
        · exact jl
      rw [upd_ne (Nat.ne_of_lt lt)]
      exact (hf b hb).1
  done := by
    intro X eP ew eK hc i pins s σ H E I hf st hg
    subst eP ew eK
    obtain ⟨⟨old, g⟩, gj, ne⟩ := st
    obtain ⟨us, hq, hx⟩ := hg
    obtain ⟨as, r1, t1, _⟩ := I.tuple hq
    obtain ⟨f0, f1, f2, f3, f4, f5⟩ := hf j (by simp)
    have l1 := r1.length
    exact enuNextEnd (I.ok.hd hc) g gj t1 (by simp; omega) fun h' b => ⟨rfl, I.turned (t' := s.toks) (fun c o n q => b c o n q) f0 f1 f3 f4 f5⟩
  self := fun A i s Q E st h => st.1.elim fun _ g => wpAny_pyIter_enum g h
def iEnuT (K : PySem.W.Frag) (ta : TA) : L2.TI := fun σ H R => ta σ H fun vs H1 => ∃ a xs, vs = [.ref a] ∧ SqT K H1 a xs ∧ R (IteT K a) H1
theorem pi_enuT {X : Cx} {e : Expr} {ta : TA} {p pos tp : Pos} {el : List Expr} {n : Nat} (hg : Gl X "enumerate") (hm : X.mg "enumerate" = none) (ha : PA X [e] ta) (h1 : starEach [e] X.env = [(false, eval e X.env)] := by rfl) :
    PI X (.Tuple el n tp) (.Call (.Name "enumerate" p) [e] [] pos) (iEnuT X.K ta) := by
  constructor
  intro pins s σ H R I h
  refine Call_ (ld_blt I hg hm boot_enumerate (PyProof.Rows.callWith_type1 (thn (ha.run pos pins s σ H _ I h) fun us s1 hz => ?_) h1 rfl))
  obtain ⟨vs, H1, J, va, a, xs, rfl, hx, q⟩ := hz
  match us, va with
  | [_], .cons r1 .nil =>
    cases r1
    obtain ⟨as, rv, t1, _⟩ := J.tuple hx
    refine enuCall t1 fun h' g gj kp => wpAny_pyIter_enum g ?_
    refine ⟨s1.heap.objs.size + 1, [s1.heap.objs.size + 1, s1.heap.objs.size], _, _, H1, rfl, J.kept (t' := s1.toks) kp, turnEnuT a (s1.heap.objs.size + 1) s1.heap.objs.size, ⟨⟨.none, g⟩, gj, Nat.succ_ne_self _⟩, fun b hb => ?_, q⟩
    have le : s1.heap.objs.size ≤ b := by
      simp only [List.mem_cons, List.not_mem_nil, or_false] at hb
      rcases hb with rfl | rfl
      · exact Nat.le_add_right _ _
      · exact Nat.le_refl _
    exact J.fpOk le (J.hok.fresh le)
theorem walk_enuT {K : PySem.W.Frag} {a : Addr} {xs : List V} : Walk (IteT K a) xs.length (fun H => SqT K H a xs) (YPair (fun i => some (.int (i : Nat))) (fun i => xs[i]?)) where
  goes i H hi q := ⟨xs, xs[i], q, List.getElem?_eq_getElem hi⟩
  stops H q := ⟨xs, q, Nat.le_refl _⟩
  yields i H v H' _ q y := by
    obtain ⟨c, x, k1, k2, k3, k4⟩ := y
    exact ⟨c, .int (i : Nat), x, k1, k2, k3, rfl, k4 xs q⟩
end
/-! ### weights between two places -/
abbrev mnI (x y : Int) : Int := if y < x then y else x
abbrev mxI (x y : Int) : Int := if y > x then y else x
def ovl (a b : Int) (t : Int × Int × Int) : Int := mxI 0 (mnI t.2.1 b - mxI t.1 a)
def wsum (a b : Int) (ts : List (Int × Int × Int)) : Int := (ts.map fun t => t.2.2 * ovl a b t).sum
def WL (a b : Int) (Ls : List Lw) : Int := (Ls.map fun L => wsum a b (partsOf L.le L.ps L.pl)).sum
def thickS (Ls : List Lw) (p : Int) : Int := (Ls.map fun L => thickL L p).sum
theorem ovl_add {a b c : Int} (h1 : a ≤ b) (h2 : b ≤ c) (t : Int × Int × Int) : ovl a b t + ovl b c t = ovl a c t := by
  unfold ovl mxI mnI
  (repeat' split) <;> omega
theorem ovl_same (c : Int) (t : Int × Int × Int) : ovl c c t = 0 := by
  unfold ovl mxI mnI
  (repeat' split) <;> omega
theorem wsum_cons (a b : Int) (t : Int × Int × Int) (r : List (Int × Int × Int)) : wsum a b (t :: r) = t.2.2 * ovl a b t + wsum a b r := by
  unfold wsum
  rw [List.map_cons, List.sum_cons]
theorem wsum_app (a b : Int) (r s : List (Int × Int × Int)) : wsum a b (r ++ s) = wsum a b r + wsum a b s := by
  unfold wsum
  rw [List.map_append, List.sum_append]
theorem wsum_add {a b c : Int} (h1 : a ≤ b) (h2 : b ≤ c) : ∀ ts, wsum a b ts + wsum b c ts = wsum a c ts
  | [] => rfl
  | t :: r => by
    rw [wsum_cons, wsum_cons, wsum_cons, ← wsum_add h1 h2 r, ← ovl_add h1 h2 t, Int.mul_add]
    omega
theorem wsum_same (c : Int) : ∀ ts, wsum c c ts = 0
  | [] => rfl
  | t :: r => by rw [wsum_cons, wsum_same c r, ovl_same, Int.mul_zero]; rfl
theorem WL_cons (a b : Int) (L : Lw) (r : List Lw) : WL a b (L :: r) = wsum a b (partsOf L.le L.ps L.pl) + WL a b r := by
  unfold WL
  rw [List.map_cons, List.sum_cons]
theorem WL_add {a b c : Int} (h1 : a ≤ b) (h2 : b ≤ c) : ∀ Ls, WL a b Ls + WL b c Ls = WL a c Ls
  | [] => rfl
  | L :: r => by
    have := wsum_add h1 h2 (partsOf L.le L.ps L.pl)
    have := WL_add h1 h2 r
    rw [WL_cons, WL_cons, WL_cons]
    omega
theorem WL_same (c : Int) : ∀ Ls, WL c c Ls = 0
  | [] => rfl
  | L :: r => by rw [WL_cons, wsum_same, WL_same c r]; rfl
theorem WL_snoc (a b : Int) (Ls : List Lw) (L : Lw) : WL a b (Ls ++ [L]) = WL a b Ls + wsum a b (partsOf L.le L.ps L.pl) := by
  unfold WL
  rw [List.map_append, List.sum_append]
  simp
/-- both ways of parting are one -/
theorem parts_none {n : Int} : ∀ (ps : List (Int × Int)) (st : Int), (∀ p ∈ ps, 1 ≤ p.2) → n ≤ st → partsOf (some n) ps st = []
  | [], _, _, _ => rfl
  | (t, g) :: r, st, hg, h => by
    have hg1 : 1 ≤ g := hg (t, g) (by simp)
    have hc : clip (some n) (st + g) = n := by
      show (if n < st + g then n else st + g) = n
      rw [if_pos (by omega)]
    show (if st < clip (some n) (st + g) then [(st, clip (some n) (st + g), t)] else []) ++ partsOf (some n) r (clip (some n) (st + g)) = []
    rw [hc, if_neg (by omega), parts_none r n (fun x hx => hg x (by simp [hx])) (Int.le_refl _)]
    rfl
theorem parts_eq {le : Option Int} : ∀ (ps : List (Int × Int)) (st : Int), (∀ p ∈ ps, 1 ≤ p.2) → lawParts le ps st = partsOf le ps st
  | [], _, _ => rfl
  | (t, g) :: r, st, hg => by
    have hg1 : 1 ≤ g := hg (t, g) (by simp)
    have hr : ∀ p ∈ r, 1 ≤ p.2 := fun x hx => hg x (by simp [hx])
    show (if st < clip le (st + g) then [(st, clip le (st + g), t)] else []) ++ lawParts le r (st + g) = (if st < clip le (st + g) then [(st, clip le (st + g), t)] else []) ++ partsOf le r (clip le (st + g))
    cases le with
    | none => rw [parts_eq r (st + g) hr]; rfl
    | some n =>
      by_cases h : n < st + g
      · have hc : clip (some n) (st + g) = n := by
          show (if n < st + g then n else st + g) = n
          rw [if_pos h]
        rw [hc, law_nil r (st + g) hr (.inr ⟨n, rfl, by omega⟩), parts_none r n hr (Int.le_refl _)]
      · have hc : clip (some n) (st + g) = st + g := by
          show (if n < st + g then n else st + g) = st + g
          rw [if_neg h]
        rw [hc, parts_eq r (st + g) hr]
theorem law_mem {le : Option Int} : ∀ (ps : List (Int × Int)) (st : Int), (∀ p ∈ ps, 1 ≤ p.2) → ∀ x ∈ lawParts le ps st, st ≤ x.1 ∧ x.1 < x.2.1 ∧ x.2.1 ≤ st + longs ps ∧ ∃ g, (x.2.2, g) ∈ ps
  | [], _, _, x, h => by cases h
  | (t, g) :: r, st, hg, x, h => by
    have hg1 : 1 ≤ g := hg (t, g) (by simp)
    have hr : ∀ p ∈ r, 1 ≤ p.2 := fun x hx => hg x (by simp [hx])
    have h0 := longs_nonneg hr
    have h : x ∈ (if st < clip le (st + g) then [(st, clip le (st + g), t)] else []) ++ lawParts le r (st + g) := h
    rw [longs_cons]
    show _ ∧ _ ∧ x.2.1 ≤ st + (g + longs r) ∧ _
    rcases List.mem_append.mp h with h | h
    · by_cases hc : st < clip le (st + g)
      · rw [if_pos hc] at h
        simp only [List.mem_cons, List.not_mem_nil, or_false] at h
        subst h
        have := clip_le (le := le) (e := st + g)
        exact ⟨Int.le_refl _, hc, by show clip le (st + g) ≤ _; omega, g, by simp⟩
      · rw [if_neg hc] at h
        cases h
    · obtain ⟨h1, h2, h3, g', h4⟩ := law_mem r (st + g) hr x h
      exact ⟨by omega, h2, by omega, g', by simp [h4]⟩
theorem part_ok {L : Lw} (g : GoodL L) {x : Int × Int × Int} (h : x ∈ partsOf L.le L.ps L.pl) : x.1 < x.2.1 ∧ 0 ≤ x.2.2 ∧ x.2.2 < 2 ^ 200 ∧ x.2.1 - x.1 < 2 ^ 210 := by
  have hp : ∀ p ∈ L.ps, 1 ≤ p.2 := fun p hp => (g.1.2.2 p hp).2.2.1
  rw [← parts_eq L.ps L.pl hp] at h
  obtain ⟨h1, h2, h3, g', h4⟩ := law_mem L.ps L.pl hp x h
  have h5 := g.1.2.2 _ h4
  have h6 := longs_lt g.1
  have h7 : (2 : Int) ^ 204 < 2 ^ 210 := by decide
  exact ⟨h2, by have := h5.1; show 0 ≤ x.2.2; have h8 : 1 ≤ x.2.2 := this; omega, h5.2.1, by omega⟩
theorem mulW_of {i j : Int} (h0 : 0 ≤ i) (h1 : i < 2 ^ 250) (h2 : 0 ≤ j) (h3 : j < 2 ^ 250) : CMulW i j := by
  have a := log_lt h0 h1
  have b := log_lt h2 h3
  unfold CMulW
  omega
theorem ovl_le {a b : Int} {t : Int × Int × Int} (h : t.1 < t.2.1) : 0 ≤ ovl a b t ∧ ovl a b t ≤ t.2.1 - t.1 := by
  unfold ovl mxI mnI
  (repeat' split) <;> omega
theorem ovl_mul {L : Lw} (g : GoodL L) {x : Int × Int × Int} (h : x ∈ partsOf L.le L.ps L.pl) (a b : Int) : CMulW x.2.2 (ovl a b x) := by
  obtain ⟨h1, h2, h3, h4⟩ := part_ok g h
  obtain ⟨h5, h6⟩ := ovl_le (a := a) (b := b) h1
  have h7 : (2 : Int) ^ 210 < 2 ^ 250 := by decide
  have h8 : (2 : Int) ^ 200 < 2 ^ 250 := by decide
  exact mulW_of h2 (by omega) h5 (by omega)
theorem ovl_in {a b : Int} {t : Int × Int × Int} (h : t.1 < t.2.1) (hab : a ≤ b) (h1 : t.1 < b) (h2 : t.2.1 > a) : mnI t.2.1 b - mxI t.1 a = ovl a b t := by
  unfold ovl mxI mnI
  (repeat' split) <;> omega
theorem ovl_out {a b : Int} {t : Int × Int × Int} (h : ¬ (t.1 < b ∧ t.2.1 > a)) : ovl a b t = 0 := by
  unfold ovl mxI mnI
  (repeat' split) <;> omega
/-- at one place -/
theorem ovl_one (p s e t : Int) : ovl p (p + 1) (s, e, t) = if s ≤ p ∧ p < e then 1 else 0 := by
  show (if mnI e (p + 1) - mxI s p > 0 then mnI e (p + 1) - mxI s p else 0) = _
  unfold mxI mnI
  (repeat' split) <;> omega
theorem one_none : ∀ (ps : List (Int × Int)) (st p : Int), (∀ x ∈ ps, 1 ≤ x.2) → wsum p (p + 1) (lawParts none ps st) = if p < st then 0 else thickAt ps (p - st)
  | [], st, p, _ => by
    show 0 = if p < st then 0 else 0
    split <;> rfl
  | (t, g) :: r, st, p, hg => by
    have hg1 : 1 ≤ g := hg (t, g) (by simp)
    have hr : ∀ p ∈ r, 1 ≤ p.2 := fun x hx => hg x (by simp [hx])
    have e : lawParts none ((t, g) :: r) st = (st, st + g, t) :: lawParts none r (st + g) := by
      show (if st < st + g then [(st, st + g, t)] else []) ++ lawParts none r (st + g) = _
      rw [if_pos (by omega)]
      rfl
    rw [e, wsum_cons, one_none r (st + g) p hr, ovl_one]
    show t * (if st ≤ p ∧ p < st + g then 1 else 0) + _ = if p < st then 0 else (if p - st < g then t else thickAt r (p - st - g))
    rw [show p - (st + g) = p - st - g by omega]
    by_cases h1 : p < st
    · rw [if_pos h1, if_neg (by omega), if_pos (by omega)]
      omega
    · by_cases h2 : p < st + g
      · rw [if_neg h1, if_pos (by omega), if_pos (by omega), if_pos (by omega)]
        omega
      · rw [if_neg h1, if_neg (by omega), if_neg (by omega), if_neg (by omega)]
        omega
theorem one_some (n : Int) : ∀ (ps : List (Int × Int)) (st p : Int), (∀ x ∈ ps, 1 ≤ x.2) → wsum p (p + 1) (lawParts (some n) ps st) = if p < st ∨ n ≤ p then 0 else thickAt ps (p - st)
  | [], st, p, _ => by
    show 0 = if p < st ∨ n ≤ p then 0 else 0
    split <;> rfl
  | (t, g) :: r, st, p, hg => by
    have hg1 : 1 ≤ g := hg (t, g) (by simp)
    have hr : ∀ p ∈ r, 1 ≤ p.2 := fun x hx => hg x (by simp [hx])
    have e : wsum p (p + 1) (lawParts (some n) ((t, g) :: r) st) = t * (if st ≤ p ∧ p < st + g ∧ p < n then 1 else 0) + wsum p (p + 1) (lawParts (some n) r (st + g)) := by
      show wsum p (p + 1) ((if st < clip (some n) (st + g) then [(st, clip (some n) (st + g), t)] else []) ++ lawParts (some n) r (st + g)) = _
      rw [wsum_app]
      congr 1
      show wsum p (p + 1) (if st < (if n < st + g then n else st + g) then [(st, (if n < st + g then n else st + g), t)] else []) = _
      by_cases h : st < (if n < st + g then n else st + g)
      · rw [if_pos h, wsum_cons, ovl_one]
        show t * _ + 0 = t * _
        rw [Int.add_zero]
        congr 1
        by_cases h3 : n < st + g
        · rw [if_pos h3] at h ⊢
          by_cases h4 : st ≤ p ∧ p < n
          · rw [if_pos h4, if_pos (by omega)]
          · rw [if_neg h4, if_neg (by omega)]
        · rw [if_neg h3] at h ⊢
          by_cases h4 : st ≤ p ∧ p < st + g
          · rw [if_pos h4, if_pos (by omega)]
          · rw [if_neg h4, if_neg (by omega)]
      · rw [if_neg h]
        show 0 = _
        have : ¬ (st ≤ p ∧ p < st + g ∧ p < n) := by
          split at h <;> omega
        rw [if_neg this, Int.mul_zero]
    rw [e, one_some n r (st + g) p hr]
    show _ = if p < st ∨ n ≤ p then 0 else (if p - st < g then t else thickAt r (p - st - g))
    rw [show p - (st + g) = p - st - g by omega]
    by_cases h1 : p < st ∨ n ≤ p
    · rw [if_pos h1, if_neg (by omega), if_pos (by omega)]
      omega
    · by_cases h2 : p < st + g
      · rw [if_neg h1, if_pos (by omega), if_pos (by omega), if_pos (by omega)]
        omega
      · rw [if_neg h1, if_neg (by omega), if_neg (by omega), if_neg (by omega)]
        omega
theorem one_thick {L : Lw} (g : GoodL L) (p : Int) : wsum p (p + 1) (partsOf L.le L.ps L.pl) = thickL L p := by
  have hp : ∀ p ∈ L.ps, 1 ≤ p.2 := fun p hp => (g.1.2.2 p hp).2.2.1
  rw [← parts_eq L.ps L.pl hp]
  unfold thickL
  cases L.le with
  | none => exact one_none L.ps L.pl p hp
  | some n =>
    rw [one_some n L.ps L.pl p hp]
    show _ = if p < L.pl then 0 else if n ≤ p then 0 else _
    by_cases h1 : p < L.pl
    · rw [if_pos h1, if_pos (.inl h1)]
    · by_cases h2 : n ≤ p
      · rw [if_neg h1, if_pos h2, if_pos (.inr h2)]
      · rw [if_neg h1, if_neg h2, if_neg (by omega)]
theorem WL_one (p : Int) : ∀ (Ls : List Lw), (∀ L ∈ Ls, GoodL L) → WL p (p + 1) Ls = thickS Ls p
  | [], _ => rfl
  | L :: r, g => by
    rw [WL_cons, WL_one p r fun L' h => g L' (by simp [h]), one_thick (g L (by simp))]
    unfold thickS
    rw [List.map_cons, List.sum_cons]
theorem WL_sum {Ls : List Lw} (g : ∀ L ∈ Ls, GoodL L) (a : Int) : ∀ n : Nat, ((List.range n).map fun (i : Nat) => thickS Ls (a + i)).sum = WL a (a + n) Ls
  | 0 => by
    show 0 = WL a (a + 0) Ls
    rw [Int.add_zero, WL_same]
  | n + 1 => by
    rw [List.range_succ, List.map_append, List.sum_append, WL_sum g a n]
    show _ + (thickS Ls (a + n) + 0) = _
    rw [Int.add_zero, ← WL_one _ Ls g, WL_add (by omega) (by omega)]
    congr 1
    omega
/-- keys that are numbers -/
def IK (kvs : List (Key × V)) : Prop := ∀ x ∈ kvs, ∃ i : Int, x.1 = Sum.inl i
theorem IK.put {kvs : List (Key × V)} (h : IK kvs) (i : Int) (v : V) : IK (putK kvs (Sum.inl i) v) := by
  unfold putK
  intro x hx
  split at hx
  · obtain ⟨y, hy, rfl⟩ := List.mem_map.mp hx
    split
    · exact h y hy
    · exact h y hy
  · rcases List.mem_append.mp hx with hx | hx
    · exact h x hx
    · simp only [List.mem_cons, List.not_mem_nil, or_false] at hx
      rw [hx]
      exact ⟨i, rfl⟩
theorem IK.merge : ∀ {more kvs : List (Key × V)}, IK kvs → IK more → IK (mergeK kvs more)
  | [], _, h, _ => h
  | (k, v) :: r, kvs, h, hm => by
    obtain ⟨i, e⟩ := hm (k, v) (by simp)
    have e : k = Sum.inl i := e
    subst e
    exact IK.merge (more := r) (h.put i v) fun x hx => hm x (by simp [hx])
theorem IK.keys : ∀ {kvs : List (Key × V)}, IK kvs → ∃ ks : List Int, kvs.map (·.1) = ks.map Sum.inl ∧ ks.length = kvs.length
  | [], _ => ⟨[], rfl, rfl⟩
  | x :: r, h => by
    obtain ⟨i, e⟩ := h x (by simp)
    obtain ⟨ks, e2, e3⟩ := IK.keys (kvs := r) fun y hy => h y (by simp [hy])
    exact ⟨i :: ks, by rw [List.map_cons, List.map_cons, e, e2], by rw [List.length_cons, List.length_cons, e3]⟩
theorem small2000 {n : Nat} (h : n ≤ 5000) : n < sizeLine := Nat.lt_of_le_of_lt h (by decide)
def spThickS : Sp := fun vs H Q _ => ∃ (a : Addr) (Ls : List Lw) (p : Int), vs = [.ref a, .int p] ∧ StrandAt H a Ls ∧ Ls.length ≤ 60 ∧ ∀ H', Same H H' → Q (.int (thickS Ls p)) H'
def spBetween : Sp := fun vs H Q _ => ∃ (a : Addr) (Ls : List Lw) (x y : Int), vs = [.ref a, .int x, .int y] ∧ StrandAt H a Ls ∧ Ls.length ≤ 60 ∧ (∀ L ∈ Ls, GoodL L) ∧ ∀ H', Same H H' → Q (.int (WL x y Ls)) H'
def spDue8 : Sp := fun vs H Q _ => ∃ (o : Addr) (bs : List Addr) (Ls : List Lw) (x y : Int), vs = [.ref o, .int x, .int y] ∧ H o = some (.lst (bs.map V.ref)) ∧ LPartsAt H bs Ls ∧ (∀ L ∈ Ls, GoodL L) ∧ x ≤ y ∧ Q (.int (WL x y Ls)) H
def spEnds8 : Sp := fun vs H Q _ => ∃ (o : Addr) (bs : List Addr) (Ls : List Lw), vs = [.ref o] ∧ H o = some (.lst (bs.map V.ref)) ∧ LPartsAt H bs Ls ∧ Ls.length ≤ 60 ∧ (∀ L ∈ Ls, GoodL L) ∧
  ∀ (H' : Hp) (r : Addr) (ns : List Int), Same H H' → H r = none → H' r = some (.lst (ns.map V.int)) → ns.length ≤ 1200 → Q (.ref r) H'
def spRight8 : Sp := fun vs H Q _ => ∃ (p l : Addr) (T : Nat) (a : Addr) (Ls : List Lw) (small : Bool), vs = [.ref p, .ref a, .bl small] ∧ Pot H p l T ∧ T < 2 ^ 36 ∧ StrandAt H a Ls ∧ Ls.length ≤ 60 ∧ (∀ L ∈ Ls, GoodL L) ∧
  ∀ H', Pot H' p l (T + 1000) → Keep p l H H' → Q (.bl true) H'
theorem bulk_all {xs : List PyData} {n : Nat} (h : ∀ x ∈ xs, x.bulk + 1 ≤ n) : PyData.bulkAll xs ≤ n * xs.length := by
  induction xs with
  | nil => exact Nat.zero_le _
  | cons x r ih =>
    have h1 := h x (by simp)
    have h2 := ih fun y hy => h y (by simp [hy])
    show x.bulk + 1 + PyData.bulkAll r ≤ n * (r.length + 1)
    rw [Nat.mul_add]
    omega
theorem laid_bulk {L : Lw} (g : GoodL L) : (laidD L).bulk ≤ 40 := by
  have h1 := wisp_bulk L.so L.ps
  have h2 := g.1.2.1
  have h3 : (letD L.le).bulk = 0 := by
    cases L.le with
    | none => rfl
    | some n => rfl
  show (wispD L.so L.ps).bulk + 1 + (0 + 1 + ((letD L.le).bulk + 1 + 0)) ≤ 40
  omega
theorem strand_bulk {Ls : List Lw} (g : ∀ L ∈ Ls, GoodL L) (hl : Ls.length ≤ 60) : (strandD Ls).bulk ≤ 20000 := by
  have h := bulk_all (xs := Ls.map laidD) (n := 41) fun x hx => by
    obtain ⟨L, hL, rfl⟩ := List.mem_map.mp hx
    have := laid_bulk (g L hL)
    omega
  rw [List.length_map] at h
  show PyData.bulkAll (Ls.map laidD) ≤ 20000
  omega
theorem TableAt.keep {p l : Addr} {H H' : Hp} {T : Nat} {b : Addr} {ts : List (Int × Int × Int)} (h : TableAt H b ts) (hne : ts ≠ []) (k : Keep p l H H') (hp : Pot H p l T) : TableAt H' b ts := by
  obtain ⟨as, h1, h2⟩ := h
  have hp' := hp
  obtain ⟨ns, c, m, t, e1, e2, _⟩ := hp'
  have ha : as ≠ [] := fun e => by
    have := h2.1
    rw [e, List.length_map] at this
    exact hne (List.length_eq_zero_iff.mp this.symm)
  refine ⟨as, k _ _ (fun e => ?_) (fun e => ?_) h1, h2.mono (k.tups hp)⟩
  · subst e
    rw [h1] at e1
    cases as with
    | nil => exact ha rfl
    | cons x r => cases r with
      | nil => simp at e1
      | cons y r => simp at e1
  · subst e
    rw [h1] at e2
    cases as with
    | nil => exact ha rfl
    | cons x r => cases ns with
      | nil => simp at e2
      | cons y r => simp at e2
theorem law_ne {L : Lw} (g : GoodL L) : lawParts L.le L.ps L.pl ≠ [] := by
  have hp : ∀ x ∈ L.ps, 1 ≤ x.2 := fun x hx => (g.1.2.2 x hx).2.2.1
  have hne : L.ps ≠ [] := fun e => by
    have := g.1.1
    rw [e] at this
    exact absurd this (by decide)
  obtain ⟨ys, b', t, e⟩ := law_last (le := L.le) L.ps L.pl hne hp fun n hn => (g.2.2.2.2.2 n hn).1
  rw [e]
  simp
theorem LPartsAt.keep {p l : Addr} {H H' : Hp} {T : Nat} {bs : List Addr} {Ls : List Lw} (h : LPartsAt H bs Ls) (g : ∀ L ∈ Ls, GoodL L) (k : Keep p l H H') (hp : Pot H p l T) : LPartsAt H' bs Ls := ⟨h.1, fun i b hb => by
  obtain ⟨L, h1, h2⟩ := h.2 i b hb
  exact ⟨L, h1, h2.keep (law_ne (g L (List.mem_of_getElem? h1))) k hp⟩⟩
theorem ne_same (d : PyData) (h : d.canLay0 = true) : (!PyData.eqv d d) = false := by
  rw [PySem.SeqAt.eqv_refl d h]
  rfl
/-! ### what runs where -/
def s0 (Ls : List Lw) (p : Int) : Int := (Ls.map fun L => if L.so = 0 then thickL L p else 0).sum
def s1 (Ls : List Lw) (p : Int) : Int := (Ls.map fun L => if L.so = 0 then 0 else thickL L p).sum
theorem s01 (p : Int) : ∀ Ls : List Lw, s0 Ls p + s1 Ls p = thickS Ls p
  | [] => rfl
  | L :: r => by
    have ih := s01 p r
    unfold s0 s1 thickS at ih ⊢
    rw [List.map_cons, List.map_cons, List.map_cons, List.sum_cons, List.sum_cons, List.sum_cons]
    split <;> omega
theorem s0_snoc (Ls : List Lw) (L : Lw) (p : Int) : s0 (Ls ++ [L]) p = s0 Ls p + if L.so = 0 then thickL L p else 0 := by
  unfold s0
  rw [List.map_append, List.sum_append]
  simp
theorem s1_snoc (Ls : List Lw) (L : Lw) (p : Int) : s1 (Ls ++ [L]) p = s1 Ls p + if L.so = 0 then 0 else thickL L p := by
  unfold s1
  rw [List.map_append, List.sum_append]
  simp
theorem strong_w (p : Int) : ∀ ts : List (Int × Int × Int), strongOf p ts = wsum p (p + 1) ts
  | [] => rfl
  | (a, b, c) :: r => by
    rw [strong_cons, wsum_cons, strong_w p r, ovl_one]
    show (if (decide (a ≤ p) && decide (p < b)) = true then c else 0) + _ = c * (if a ≤ p ∧ p < b then 1 else 0) + _
    by_cases h : a ≤ p ∧ p < b
    · rw [if_pos h, if_pos (by simp [h.1, h.2]), Int.mul_one]
    · rw [if_neg h, if_neg (by simp only [Bool.and_eq_true, decide_eq_true_eq]; exact h), Int.mul_zero]
theorem strong_L {L : Lw} (g : GoodL L) (p : Int) : strongOf p (lawParts L.le L.ps L.pl) = thickL L p := by
  have hp : ∀ p ∈ L.ps, 1 ≤ p.2 := fun p hp => (g.1.2.2 p hp).2.2.1
  rw [strong_w, parts_eq L.ps L.pl hp, one_thick g]
theorem hits_none {le : Option Int} (ps : List (Int × Int)) (st p : Int) (hg : ∀ x ∈ ps, 1 ≤ x.2) (h : p < st) : (lawParts le ps st).filter (inRow p) = [] := by
  rw [List.filter_eq_nil_iff]
  intro x hx
  have := (law_mem ps st hg x hx).1
  unfold inRow
  simp only [Bool.and_eq_true, decide_eq_true_eq]
  omega
theorem hits_one {le : Option Int} : ∀ (ps : List (Int × Int)) (st p : Int), (∀ x ∈ ps, 1 ≤ x.2) → ((lawParts le ps st).filter (inRow p)).length ≤ 1
  | [], _, _, _ => Nat.zero_le _
  | (t, g) :: r, st, p, hg => by
    have hg1 : 1 ≤ g := hg (t, g) (by simp)
    have hr : ∀ p ∈ r, 1 ≤ p.2 := fun x hx => hg x (by simp [hx])
    show (((if st < clip le (st + g) then [(st, clip le (st + g), t)] else []) ++ lawParts le r (st + g)).filter (inRow p)).length ≤ 1
    rw [List.filter_append, List.length_append]
    by_cases h : p < st + g
    · rw [hits_none r (st + g) p hr h]
      have : ((if st < clip le (st + g) then [(st, clip le (st + g), t)] else []).filter (inRow p)).length ≤ 1 := by
        refine Nat.le_trans (List.length_filter_le _ _) ?_
        split
        · exact Nat.le_refl _
        · exact Nat.zero_le _
      exact this
    · have e : (if st < clip le (st + g) then [(st, clip le (st + g), t)] else []).filter (inRow p) = [] := by
        rw [List.filter_eq_nil_iff]
        intro x hx
        split at hx
        · simp only [List.mem_cons, List.not_mem_nil, or_false] at hx
          subst hx
          have := clip_le (le := le) (e := st + g)
          show ¬ (decide (st ≤ p) && decide (p < clip le (st + g))) = true
          simp only [Bool.and_eq_true, decide_eq_true_eq]
          omega
        · cases hx
      rw [e]
      have := hits_one (le := le) r (st + g) p hr
      show 0 + _ ≤ 1
      omega
theorem hits_L {L : Lw} (g : GoodL L) (p : Int) (k : Int) : ((lawParts L.le L.ps L.pl).filter (inRow p)).map (fun _ => k) = if 0 < thickL L p then [k] else [] := by
  have hp : ∀ p ∈ L.ps, 1 ≤ p.2 := fun p hp => (g.1.2.2 p hp).2.2.1
  have h1 := hits_one (le := L.le) L.ps L.pl p hp
  have h2 := strong_L g p
  unfold strongOf at h2
  cases q : (lawParts L.le L.ps L.pl).filter (inRow p) with
  | nil =>
    rw [q] at h2
    have h2 : (0 : Int) = thickL L p := h2
    rw [if_neg (by omega)]
    rfl
  | cons x r =>
    rw [q] at h1 h2
    have hr : r = [] := by
      cases r with
      | nil => rfl
      | cons y r => exact absurd h1 (by simp)
    subst hr
    have hx : x ∈ (lawParts L.le L.ps L.pl).filter (inRow p) := by rw [q]; simp
    have hx := (List.mem_filter.mp hx).1
    obtain ⟨_, _, _, g', h4⟩ := law_mem L.ps L.pl hp x hx
    have h5 : 1 ≤ x.2.2 := (g.1.2.2 _ h4).1
    have h2 : x.2.2 + 0 = thickL L p := h2
    rw [if_pos (by omega)]
    rfl
def spSorts : Sp := fun vs H Q _ => ∃ (a t : Addr) (Ls : List Lw) (p : Int), vs = [.ref a, .ref t] ∧ StrandAt H a Ls ∧ H t = some (.lst ((Ls.map fun L => thickL L p).map V.int)) ∧ (∀ L ∈ Ls, GoodL L) ∧ ∀ H' o, Same H H' → H o = none → H' o = some (.tup [.int (s0 Ls p), .int (s1 Ls p)]) → Q (.ref o) H'
def spBy : Sp := fun vs H Q _ => ∃ (a : Addr) (Ls : List Lw) (p : Int), vs = [.ref a, .int p] ∧ StrandAt H a Ls ∧ Ls.length ≤ 60 ∧ (∀ L ∈ Ls, GoodL L) ∧ ∀ H' o, Same H H' → H o = none → H' o = some (.tup [.int (s0 Ls p), .int (s1 Ls p)]) → Q (.ref o) H'
def spAt6 : Sp := fun vs H Q _ => ∃ (a o : Addr) (bs : List Addr) (Ls : List Lw) (p : Int), vs = [.ref a, .ref o, .int p] ∧ StrandAt H a Ls ∧ Ls.length ≤ 60 ∧ (∀ L ∈ Ls, GoodL L) ∧ H o = some (.lst (bs.map V.ref)) ∧ LPartsAt H bs Ls ∧
  ∀ (H' : Hp) (r t1 t2 : Addr), Same H H' → H' r = some (.tup [.ref t1, .ref t2]) → H' t1 = some (.tup ((numsFrom 0 (Ls.map fun L => thickL L p)).map V.int)) → H' t2 = some (.tup [.int (s0 Ls p), .int (s1 Ls p)]) → Q (.ref r) H'
def spSpots6 : Sp := fun vs H Q _ => ∃ (p l : Addr) (T : Nat) (o : Addr) (bs : List Addr) (Ls : List Lw), vs = [.ref p, .ref o] ∧ Pot H p l T ∧ T < 2 ^ 37 ∧ H o = some (.lst (bs.map V.ref)) ∧ LPartsAt H bs Ls ∧ Ls.length ≤ 60 ∧ (∀ L ∈ Ls, GoodL L) ∧
  ∀ (H' : Hp) (r : Addr) (ns : List Int), Pot H' p l (T + 100) → Keep p l H H' → H r = none → H' r = some (.lst (ns.map V.int)) → ns.length ≤ 100 → Q (.ref r) H'
def spRight6 : Sp := fun vs H Q _ => ∃ (p l : Addr) (T : Nat) (a : Addr) (Ls : List Lw), vs = [.ref p, .ref a] ∧ Pot H p l T ∧ T < 2 ^ 36 ∧ StrandAt H a Ls ∧ Ls.length ≤ 60 ∧ (∀ L ∈ Ls, GoodL L) ∧
  ∀ H', Pot H' p l (T + 1000) → Keep p l H H' → Q (.bl true) H'
theorem ints_ti (ns : List Int) (h : ns.length ≤ 5000) : TI (.tuple (ns.map PyData.int)) := by
  refine .tup (fun x hx => ?_) (by rw [List.length_map]; exact h)
  obtain ⟨n, _, rfl⟩ := List.mem_map.mp hx
  exact .int n
theorem ints_d (ns : List Int) : (PyData.tuple (ns.map PyData.int)).depth < 4 := by
  refine Nat.lt_of_le_of_lt (Nat.succ_le_succ (depth_all (n := 0) fun x hx => ?_)) (by decide)
  obtain ⟨n, _, rfl⟩ := List.mem_map.mp hx
  exact Nat.le_refl _
/-! ### what changes where -/
/-- what is written at the place k, from the parts in their order -/
def wr (k : Int) : List (Int × Int × Int) → List Int
  | [] => []
  | (s, e, t) :: r => (if s = k then [t] else []) ++ (if e = k then [0] else []) ++ wr k r
def lastD (xs : List Int) (d : Int) : Int := xs.getLast?.getD d
def Rise : List (Int × Int × Int) → Prop
  | [] => True
  | (s, e, _) :: r => s < e ∧ (∀ y ∈ r, e ≤ y.1 ∧ y.1 < y.2.1) ∧ Rise r
theorem rise_law {le : Option Int} : ∀ (ps : List (Int × Int)) (st : Int), (∀ p ∈ ps, 1 ≤ p.2) → Rise (lawParts le ps st)
  | [], _, _ => True.intro
  | (t, g) :: r, st, hg => by
    have hg1 : 1 ≤ g := hg (t, g) (by simp)
    have hr : ∀ p ∈ r, 1 ≤ p.2 := fun x hx => hg x (by simp [hx])
    have ih := rise_law (le := le) r (st + g) hr
    show Rise ((if st < clip le (st + g) then [(st, clip le (st + g), t)] else []) ++ lawParts le r (st + g))
    split
    · next h =>
      refine ⟨h, fun y hy => ?_, ih⟩
      have h1 := law_mem (le := le) r (st + g) hr y hy
      have h2 := clip_le (le := le) (e := st + g)
      exact ⟨by omega, h1.2.1⟩
    · exact ih
theorem wr_none {k b : Int} : ∀ {qs : List (Int × Int × Int)}, (∀ y ∈ qs, b ≤ y.1 ∧ y.1 < y.2.1) → k < b → wr k qs = []
  | [], _, _ => rfl
  | (s, e, t) :: r, h, hk => by
    have h1 := h (s, e, t) (by simp)
    have h1 : b ≤ s ∧ s < e := h1
    show (if s = k then [t] else []) ++ (if e = k then [0] else []) ++ wr k r = []
    rw [if_neg (by omega), if_neg (by omega), wr_none (fun y hy => h y (by simp [hy])) hk]
    rfl
theorem strong_none {k b : Int} : ∀ {qs : List (Int × Int × Int)}, (∀ y ∈ qs, b ≤ y.1 ∧ y.1 < y.2.1) → k < b → strongOf k qs = 0
  | [], _, _ => rfl
  | (s, e, t) :: r, h, hk => by
    have h1 : b ≤ s ∧ s < e := h (s, e, t) (by simp)
    rw [strong_cons, strong_none (fun y hy => h y (by simp [hy])) hk]
    show (if (decide (s ≤ k) && decide (k < e)) = true then t else 0) + 0 = 0
    rw [if_neg (by simp only [Bool.and_eq_true, decide_eq_true_eq]; omega)]
    rfl
theorem wr_ne {k : Int} : ∀ {qs : List (Int × Int × Int)}, wr k qs ≠ [] → ∃ y ∈ qs, y.1 = k ∨ y.2.1 = k
  | [], h => absurd rfl h
  | (s, e, t) :: r, h => by
    by_cases h1 : s = k
    · exact ⟨(s, e, t), by simp, .inl h1⟩
    · by_cases h2 : e = k
      · exact ⟨(s, e, t), by simp, .inr h2⟩
      · have h : (if s = k then [t] else []) ++ (if e = k then [0] else []) ++ wr k r ≠ [] := h
        rw [if_neg h1, if_neg h2] at h
        obtain ⟨y, hy, z⟩ := wr_ne (qs := r) h
        exact ⟨y, by simp [hy], z⟩
theorem lastD_app {xs ys : List Int} {d : Int} (h : ys ≠ []) : lastD (xs ++ ys) d = lastD ys d := by
  unfold lastD
  rw [List.getLast?_append]
  cases q : ys.getLast? with
  | none => exact absurd (List.getLast?_eq_none_iff.mp q) h
  | some y => rfl
/-- nothing begins or ends between j and k: at k it is as at j but for what is written there -/
theorem strong_step {j k : Int} (hjk : j < k) : ∀ (qs : List (Int × Int × Int)), Rise qs → (∀ y ∈ qs, (y.1 ≤ j ∨ k ≤ y.1) ∧ (y.2.1 ≤ j ∨ k ≤ y.2.1)) → strongOf k qs = lastD (wr k qs) (strongOf j qs)
  | [], _, _ => rfl
  | (s, e, t) :: r, hr, hn => by
    obtain ⟨hse, hlo, hrr⟩ := hr
    have h1 : (s ≤ j ∨ k ≤ s) ∧ (e ≤ j ∨ k ≤ e) := hn (s, e, t) (by simp)
    have ih := strong_step hjk r hrr fun y hy => hn y (by simp [hy])
    rw [strong_cons, strong_cons, ih]
    show (if (decide (s ≤ k) && decide (k < e)) = true then t else 0) + _ = lastD ((if s = k then [t] else []) ++ (if e = k then [0] else []) ++ wr k r) ((if (decide (s ≤ j) && decide (j < e)) = true then t else 0) + strongOf j r)
    have cond : ∀ x : Int, ((decide (s ≤ x) && decide (x < e)) = true) ↔ (s ≤ x ∧ x < e) := fun x => by simp only [Bool.and_eq_true, decide_eq_true_eq]
    by_cases hw : wr k r = []
    · rw [hw, List.append_nil]
      have e0 : lastD [] (strongOf j r) = strongOf j r := rfl
      rw [e0]
      by_cases he : e = k
      · have z : strongOf j r = 0 := strong_none (b := e) hlo (by omega)
        rw [if_pos he, if_neg (by rw [cond]; omega), z, lastD_app (by simp)]
        rfl
      · rw [if_neg he, List.append_nil]
        by_cases hs : s = k
        · have z : strongOf j r = 0 := strong_none (b := e) hlo (by omega)
          rw [if_pos hs, if_pos (by rw [cond]; omega), z]
          show t + 0 = t
          omega
        · rw [if_neg hs]
          show _ = (if (decide (s ≤ j) && decide (j < e)) = true then t else 0) + strongOf j r
          by_cases hc : s ≤ j ∧ j < e
          · rw [if_pos ((cond k).mpr (by omega)), if_pos ((cond j).mpr hc)]
          · rw [if_neg (fun z => hc (by have := (cond k).mp z; omega)), if_neg (fun z => hc ((cond j).mp z))]
    · obtain ⟨y, hy, hk⟩ := wr_ne hw
      have h2 := hlo y hy
      rw [lastD_app hw, if_neg (by rw [cond]; omega), Int.zero_add]
      unfold lastD
      cases q : (wr k r).getLast? with
      | none => exact absurd (List.getLast?_eq_none_iff.mp q) hw
      | some y => rfl
theorem thick_step {L : Lw} (g : GoodL L) {j k : Int} (hjk : j < k) (hn : ∀ y ∈ partsOf L.le L.ps L.pl, (y.1 ≤ j ∨ k ≤ y.1) ∧ (y.2.1 ≤ j ∨ k ≤ y.2.1)) : thickL L k = lastD (wr k (partsOf L.le L.ps L.pl)) (thickL L j) := by
  have hp : ∀ p ∈ L.ps, 1 ≤ p.2 := fun p hp => (g.1.2.2 p hp).2.2.1
  rw [← parts_eq L.ps L.pl hp] at hn ⊢
  rw [← strong_L g, ← strong_L g]
  exact strong_step hjk _ (rise_law L.ps L.pl hp) hn
/-! ### keys that are numbers, no two alike -/
def IKN (kvs : List (Key × V)) : Prop := IK kvs ∧ (kvs.map (·.1)).Nodup
theorem put_keys (kvs : List (Key × V)) (k : Key) (v : V) (h : (kvs.map (·.1)).Nodup) : ((putK kvs k v).map (·.1)).Nodup := by
  unfold putK
  split
  · have e : (kvs.map (fun kv => if kv.1 = k then (kv.1, v) else kv)).map (·.1) = kvs.map (·.1) := by
      rw [List.map_map]
      refine List.map_congr_left fun x _ => ?_
      show (if x.1 = k then (x.1, v) else x).1 = x.1
      split <;> rfl
    rw [e]
    exact h
  · next hn =>
    rw [List.map_append]
    refine List.nodup_append.mpr ⟨h, by simp, fun x hx y hy e => ?_⟩
    simp only [List.map_cons, List.map_nil, List.mem_cons, List.not_mem_nil, or_false] at hy
    obtain ⟨z, hz, ez⟩ := List.mem_map.mp hx
    exact hn (List.any_eq_true.mpr ⟨z, hz, decide_eq_true (by rw [ez, e, hy])⟩)
theorem IKN.put {kvs : List (Key × V)} (h : IKN kvs) (i : Int) (v : V) : IKN (putK kvs (Sum.inl i) v) := ⟨h.1.put i v, put_keys _ _ _ h.2⟩
theorem keys_of {kvs : List (Key × V)} (h : IKN kvs) : ∃ ks : List Int, kvs.map (·.1) = ks.map Sum.inl ∧ ks.length = kvs.length ∧ ks.Nodup ∧ ∀ k, k ∈ ks ↔ ∃ v, valV kvs (Sum.inl k) = some v := by
  obtain ⟨ks, e, hl⟩ := h.1.keys
  refine ⟨ks, e, hl, ?_, fun k => ?_⟩
  · have := h.2
    rw [e] at this
    exact (List.pairwise_map.mp this).imp fun h e => h (congrArg Sum.inl e)
  · have m : k ∈ ks ↔ (Sum.inl k : Key) ∈ kvs.map (·.1) := by
      rw [e]
      constructor
      · exact fun h => List.mem_map.mpr ⟨k, h, rfl⟩
      · intro h
        obtain ⟨x, hx, ex⟩ := List.mem_map.mp h
        cases ex
        exact hx
    rw [m]
    constructor
    · intro hm
      obtain ⟨z, hz, ez⟩ := List.mem_map.mp hm
      cases hv : valV kvs (Sum.inl k) with
      | some v => exact ⟨v, rfl⟩
      | none =>
        have := valV_any (Sum.inl k : Key) kvs
        rw [hv] at this
        have h2 : (kvs.any fun kv => decide (kv.1 = Sum.inl k)) = true := List.any_eq_true.mpr ⟨z, hz, decide_eq_true ez⟩
        rw [h2] at this
        cases this
    · rintro ⟨v, hv⟩
      have := valV_any (Sum.inl k : Key) kvs
      rw [hv] at this
      obtain ⟨z, hz, ez⟩ := List.any_eq_true.mp this
      exact List.mem_map.mpr ⟨z, hz, of_decide_eq_true ez⟩
theorem sorted_strict {ys ks : List Int} (hp : ys.Perm ks) (hs : ys.Pairwise (· ≤ ·)) (hn : ks.Nodup) : ys.Pairwise (· < ·) := by
  have hn' : ys.Nodup := hp.nodup_iff.mpr hn
  exact (hs.and hn').imp fun ⟨h1, h2⟩ => by omega
/-- two lists that rise, with the same members, are one -/
theorem rise_eq : ∀ {xs ys : List Int}, xs.Pairwise (· < ·) → ys.Pairwise (· < ·) → (∀ k, k ∈ xs ↔ k ∈ ys) → xs = ys
  | [], [], _, _, _ => rfl
  | [], y :: r, _, _, h => absurd ((h y).mpr (by simp)) (by simp)
  | x :: r, [], _, _, h => absurd ((h x).mp (by simp)) (by simp)
  | x :: r, y :: s, hx, hy, h => by
    have hx' := List.pairwise_cons.mp hx
    have hy' := List.pairwise_cons.mp hy
    have e : x = y := by
      rcases List.mem_cons.mp ((h x).mp (by simp)) with e | e
      · exact e
      · rcases List.mem_cons.mp ((h y).mpr (by simp)) with e2 | e2
        · exact e2.symm
        · have h1 := hy'.1 x e
          have h2 := hx'.1 y e2
          omega
    subst e
    congr 1
    refine rise_eq hx'.2 hy'.2 fun k => ?_
    constructor
    · intro hk
      rcases List.mem_cons.mp ((h k).mp (by simp [hk])) with e | e
      · have := hx'.1 k hk
        omega
      · exact e
    · intro hk
      rcases List.mem_cons.mp ((h k).mpr (by simp [hk])) with e | e
      · have := hy'.1 k hk
        omega
      · exact e
/-! ### a dict of lists of pairs -/
theorem Tups.dk {H : Hp} {a : Addr} {kvs : List (Key × V)} {o : HO} (h : H a = some (.dK kvs)) : Tups H (upd H a o) := fun c ys e => by
  by_cases n : c = a
  · subst n
    rw [h] at e
    cases e
  · rw [upd_ne n]
    exact e
def DAtK (H0 H : Hp) (d : Addr) (kvs : List (Key × V)) (N : Nat) (ks : Int → Prop) (W : Int → List (Int × Int)) : Prop := H d = some (.dK kvs) ∧ IKN kvs ∧ kvs.length ≤ N ∧ (∀ k, ks k ↔ ∃ v, valV kvs (Sum.inl k) = some v) ∧ (∀ k, ¬ ks k → W k = []) ∧
  (∀ k v, valV kvs (Sum.inl k) = some v → ∃ q as, v = .ref q ∧ H0 q = none ∧ q ≠ d ∧ H q = some (.lst (as.map V.ref)) ∧ TupsAt H as ((W k).map stepV)) ∧ ∀ k k' v, valV kvs (Sum.inl k) = some v → valV kvs (Sum.inl k') = some v → k = k'
theorem DAtK.new {H0 H : Hp} {d : Addr} {kvs : List (Key × V)} {N : Nat} {ks : Int → Prop} {W : Int → List (Int × Int)} (h : DAtK H0 H d kvs N ks W) {z : Addr} {o : HO} (n : H z = none) : DAtK H0 (upd H z o) d kvs N ks W := by
  obtain ⟨h1, h2, h3, h4, h5, h6, h7⟩ := h
  refine ⟨?_, h2, h3, h4, h5, fun k v e => ?_, h7⟩
  · rw [upd_ne (ne_of_none h1 n)]
    exact h1
  · obtain ⟨q, as, e1, e2, e3, e4, e5⟩ := h6 k v e
    refine ⟨q, as, e1, e2, e3, ?_, e5.mono (Tups.new n)⟩
    rw [upd_ne (ne_of_none e4 n)]
    exact e4
/-- a new key, its list empty -/
theorem DAtK.put {H0 H : Hp} {d : Addr} {kvs : List (Key × V)} {N : Nat} {ks : Int → Prop} {W : Int → List (Int × Int)} (h : DAtK H0 H d kvs N ks W) {z : Addr} {k : Int} (ez : H z = some (.lst [])) (nz : H0 z = none) (zf : ∀ k v, valV kvs (Sum.inl k) = some v → v ≠ .ref z) (nk : valV kvs (Sum.inl k) = none) :
    DAtK H0 (upd H d (.dK (putK kvs (Sum.inl k) (.ref z)))) d (putK kvs (Sum.inl k) (.ref z)) (N + 1) (fun x => ks x ∨ x = k) W := by
  obtain ⟨h1, h2, h3, h4, h5, h6, h7⟩ := h
  have zd : z ≠ d := fun e => by
    rw [e, h1] at ez
    cases ez
  have vp : ∀ x : Int, valV (putK kvs (Sum.inl k) (.ref z)) (Sum.inl x) = if x = k then some (.ref z) else valV kvs (Sum.inl x) := fun x => by
    rw [valV_put]
    by_cases e : x = k
    · rw [if_pos e, if_pos (by rw [e])]
    · rw [if_neg e, if_neg (fun q => e (Sum.inl.inj q))]
  have wk : W k = [] := h5 k fun z => by
    obtain ⟨v, e⟩ := (h4 k).mp z
    rw [nk] at e
    cases e
  refine ⟨upd_same, h2.put k _, Nat.le_trans (length_putK _ _ _) (Nat.succ_le_succ h3), fun x => ?_, fun x n => h5 x fun y => n (.inl y), fun x v e => ?_, fun x y v e e' => ?_⟩
  · rw [vp]
    by_cases e : x = k
    · rw [if_pos e]
      exact ⟨fun _ => ⟨_, rfl⟩, fun _ => .inr e⟩
    · rw [if_neg e, ← h4]
      exact ⟨fun y => y.resolve_right e, .inl⟩
  · rw [vp] at e
    by_cases n : x = k
    · rw [if_pos n] at e
      cases e
      refine ⟨z, [], rfl, nz, zd, ?_, ?_⟩
      · rw [upd_ne zd]
        exact ez
      · rw [n, wk]
        exact TupsAt.nil
    · rw [if_neg n] at e
      obtain ⟨q, as, e1, e2, e3, e4, e5⟩ := h6 x v e
      refine ⟨q, as, e1, e2, e3, ?_, e5.mono (Tups.dk h1)⟩
      rw [upd_ne e3]
      exact e4
  · rw [vp] at e e'
    by_cases n : x = k
    · rw [if_pos n] at e
      cases e
      by_cases n' : y = k
      · rw [n, n']
      · rw [if_neg n'] at e'
        exact absurd rfl (zf y _ e')
    · rw [if_neg n] at e
      by_cases n' : y = k
      · rw [if_pos n'] at e'
        cases e'
        exact absurd rfl (zf x _ e)
      · rw [if_neg n'] at e'
        exact h7 x y v e e'
/-- a pair more in a key's list -/
theorem DAtK.app {H0 H : Hp} {d : Addr} {kvs : List (Key × V)} {N : Nat} {ks : Int → Prop} {W : Int → List (Int × Int)} (h : DAtK H0 H d kvs N ks W) {k : Int} {q c : Addr} {as : List Addr} {p : Int × Int} (eq : valV kvs (Sum.inl k) = some (.ref q)) (el : H q = some (.lst (as.map V.ref))) (et : TupsAt H as ((W k).map stepV)) (ec : H c = some (.tup (stepV p))) :
    DAtK H0 (upd H q (.lst (as.map V.ref ++ [.ref c]))) d kvs N ks (fun x => if x = k then W k ++ [p] else W x) := by
  obtain ⟨h1, h2, h3, h4, h5, h6, h7⟩ := h
  obtain ⟨q', as', e1, _, qd, _, _⟩ := h6 k _ eq
  cases e1
  refine ⟨?_, h2, h3, h4, fun x n => ?_, fun x v e => ?_, h7⟩
  · rw [upd_ne qd.symm]
    exact h1
  · show (if x = k then W k ++ [p] else W x) = []
    rw [if_neg (fun z => n ((h4 x).mpr (by rw [z]; exact ⟨_, eq⟩))), h5 x n]
  · obtain ⟨r, bs, e1, e2, e3, e4, e5⟩ := h6 x v e
    by_cases n : x = k
    · subst n
      have e6 := Option.some.inj (e.symm.trans eq)
      rw [e1] at e6
      cases e6
      refine ⟨q, as ++ [c], e1, e2, e3, ?_, ?_⟩
      · rw [upd_same, List.map_append]
        rfl
      · show TupsAt _ _ ((if x = x then W x ++ [p] else W x).map stepV)
        rw [if_pos rfl, List.map_append]
        exact (et.snoc ec).mono (Tups.ls el)
    · have rq : r ≠ q := fun z => n (h7 x k v e (by rw [e1, z]; exact eq))
      refine ⟨r, bs, e1, e2, e3, ?_, ?_⟩
      · rw [upd_ne rq]
        exact e4
      · show TupsAt _ _ ((if x = k then W k ++ [p] else W x).map stepV)
        rw [if_neg n]
        exact e5.mono (Tups.ls el)
theorem DAtK.congr {H0 H : Hp} {d : Addr} {kvs : List (Key × V)} {N M : Nat} {ks ks' : Int → Prop} {W W' : Int → List (Int × Int)} (h : DAtK H0 H d kvs N ks W) (hn : N ≤ M) (h1 : ∀ k, ks k ↔ ks' k) (h2 : ∀ k, W k = W' k) : DAtK H0 H d kvs M ks' W' := by
  have e1 : ks = ks' := funext fun k => propext (h1 k)
  have e2 : W = W' := funext h2
  subst e1 e2
  exact ⟨h.1, h.2.1, Nat.le_trans h.2.2.1 hn, h.2.2.2⟩
def Wall (k : Int) : Nat → List Lw → List (Int × Int)
  | _, [] => []
  | n, L :: r => (wr k (partsOf L.le L.ps L.pl)).map (fun t => ((n : Int), t)) ++ Wall k (n + 1) r
theorem wall_snoc (k : Int) (L : Lw) : ∀ (Ls : List Lw) (n : Nat), Wall k n (Ls ++ [L]) = Wall k n Ls ++ (wr k (partsOf L.le L.ps L.pl)).map fun t => (((n + Ls.length : Nat) : Int), t)
  | [], n => by
    show _ ++ [] = [] ++ _
    rw [List.append_nil]
    rfl
  | M :: r, n => by
    show _ ++ Wall k (n + 1) (r ++ [L]) = (_ ++ Wall k (n + 1) r) ++ _
    rw [wall_snoc k L r (n + 1), List.append_assoc, List.length_cons, show n + 1 + r.length = n + (r.length + 1) by omega]
theorem wr_snoc (k s e t : Int) : ∀ qs : List (Int × Int × Int), wr k (qs ++ [(s, e, t)]) = wr k qs ++ ((if s = k then [t] else []) ++ (if e = k then [0] else []))
  | [] => by
    show _ ++ _ ++ [] = [] ++ _
    rw [List.append_nil]
    rfl
  | (a, b, c) :: r => by
    show _ ++ _ ++ wr k (r ++ [(s, e, t)]) = _ ++ _ ++ wr k r ++ _
    rw [wr_snoc k s e t r, List.append_assoc _ (wr k r)]
theorem wr_len (k : Int) : ∀ qs : List (Int × Int × Int), (wr k qs).length ≤ 2 * qs.length
  | [] => Nat.le_refl _
  | (a, b, c) :: r => by
    have := wr_len k r
    show ((if a = k then [c] else []) ++ (if b = k then [0] else []) ++ wr k r).length ≤ 2 * (r.length + 1)
    rw [List.length_append, List.length_append]
    have h1 : (if a = k then [c] else []).length ≤ 1 := by split <;> simp
    have h2 : (if b = k then [(0 : Int)] else []).length ≤ 1 := by split <;> simp
    omega
theorem wall_len (k : Int) : ∀ (Ls : List Lw) (n : Nat), (∀ L ∈ Ls, GoodL L) → (Wall k n Ls).length ≤ 20 * Ls.length
  | [], _, _ => Nat.le_refl _
  | L :: r, n, g => by
    have h1 := wall_len k r (n + 1) fun M h => g M (by simp [h])
    have h2 := wr_len k (partsOf L.le L.ps L.pl)
    have h3 := part_len (le := L.le) L.ps L.pl
    have h4 := (g L (by simp)).1.2.1
    show ((wr k (partsOf L.le L.ps L.pl)).map (fun t => ((n : Int), t)) ++ Wall k (n + 1) r).length ≤ 20 * (r.length + 1)
    rw [List.length_append, List.length_map]
    omega
def Keys (Ls : List Lw) (k : Int) : Prop := k = 0 ∨ ∃ L ∈ Ls, ∃ y ∈ partsOf L.le L.ps L.pl, y.1 = k ∨ y.2.1 = k
def spChanges : Sp := fun vs H Q _ => ∃ (a : Addr) (Ls : List Lw), vs = [.ref a] ∧ StrandAt H a Ls ∧ Ls.length ≤ 60 ∧ (∀ L ∈ Ls, GoodL L) ∧
  ∀ (H' : Hp) (d : Addr) (kvs : List (Key × V)), Same H H' → H d = none → DAtK H H' d kvs 1300 (Keys Ls) (fun k => Wall k 0 Ls) → Q (.ref d) H'
theorem DAtK.same {H0 H H' : Hp} {d : Addr} {kvs : List (Key × V)} {N : Nat} {ks : Int → Prop} {W : Int → List (Int × Int)} (h : DAtK H0 H d kvs N ks W) (s : Same H H') : DAtK H0 H' d kvs N ks W := by
  obtain ⟨h1, h2, h3, h4, h5, h6, h7⟩ := h
  refine ⟨s _ _ h1, h2, h3, h4, h5, fun k v e => ?_, h7⟩
  obtain ⟨q, as, e1, e2, e3, e4, e5⟩ := h6 k v e
  exact ⟨q, as, e1, e2, e3, s _ _ e4, e5.mono (Tups.same s)⟩
theorem hu1 {u c : Nat} (h : u + 64 < c) : u + 1 < c := by omega
/-- what stands behind setdefault(k, []).append((n, t)); o: a list beside it -/
def Aft (H0 H : Hp) (d o : Addr) (xs : List V) (N : Nat) (ks : Int → Prop) (W : Int → List (Int × Int)) (k : Int) (p : Int × Int) (H6 : Hp) : Prop := ∃ kvs6, DAtK H0 H6 d kvs6 (N + 1) (fun x => ks x ∨ x = k) (fun x => if x = k then W k ++ [p] else W x) ∧ Same H0 H6 ∧ Tups H H6 ∧ H6 o = some (.lst xs) ∧ ∀ k v, valV kvs6 (Sum.inl k) = some v → v ≠ .ref o
theorem DAtK.found {H0 H : Hp} {d o : Addr} {xs : List V} {kvs : List (Key × V)} {N : Nat} {ks : Int → Prop} {W : Int → List (Int × Int)} (h : DAtK H0 H d kvs N ks W) (s : Same H0 H) (eo : H o = some (.lst xs)) (nv : ∀ k v, valV kvs (Sum.inl k) = some v → v ≠ .ref o) {Z : Addr} (nZ : H Z = none) {k : Int} {v : V} (hv : valV kvs (Sum.inl k) = some v) (p : Int × Int) :
    ∃ (q : Addr) (as : List Addr), v = .ref q ∧ upd H Z (.lst []) q = some (.lst (as.map V.ref)) ∧ as.length = (W k).length ∧ ∀ P, upd H Z (.lst []) P = none → Aft H0 H d o xs N ks W k p (upd (upd (upd H Z (.lst [])) P (.tup (stepV p))) q (.lst (as.map V.ref ++ [.ref P]))) := by
  have hZ := h.new (o := .lst []) nZ
  obtain ⟨q, as, rfl, n0, qd, el, et⟩ := hZ.2.2.2.2.2.1 k v hv
  refine ⟨q, as, rfl, el, ?_, fun P nP => ⟨kvs, ?_, ?_, ?_, ?_, nv⟩⟩
  · rw [et.1, List.length_map]
  · have hP := hZ.new (o := .tup (stepV p)) nP
    refine (hP.app hv ((upd_ne (ne_of_none el nP)).trans el) (et.mono (Tups.new nP)) upd_same).congr (Nat.le_succ _) (fun x => ⟨.inl, fun z => z.elim id fun z => ?_⟩) fun _ => rfl
    rw [z]
    exact (h.2.2.2.1 k).mpr ⟨_, hv⟩
  · exact same_mine (same_new (same_new s nZ) nP) n0
  · exact ((Tups.new nZ).trans (Tups.new nP)).trans (Tups.ls ((upd_ne (ne_of_none el nP)).trans el))
  · have oq : o ≠ q := fun z => nv k _ hv (by rw [z])
    have eZ : upd H Z (.lst []) o = some (.lst xs) := (upd_ne (ne_of_none eo nZ)).trans eo
    rw [upd_ne oq, upd_ne (ne_of_none eZ nP)]
    exact eZ
theorem DAtK.fresh {H0 H : Hp} {d o : Addr} {xs : List V} {kvs : List (Key × V)} {N : Nat} {ks : Int → Prop} {W : Int → List (Int × Int)} (h : DAtK H0 H d kvs N ks W) (s : Same H0 H) (nd : H0 d = none) (eo : H o = some (.lst xs)) (nv : ∀ k v, valV kvs (Sum.inl k) = some v → v ≠ .ref o) {Z : Addr} (nZ : H Z = none) {k : Int} (hn : valV kvs (Sum.inl k) = none) (p : Int × Int) :
    upd (upd H Z (.lst [])) d (.dK (putK kvs (Sum.inl k) (.ref Z))) Z = some (.lst []) ∧ ∀ P, upd (upd H Z (.lst [])) d (.dK (putK kvs (Sum.inl k) (.ref Z))) P = none → Aft H0 H d o xs N ks W k p (upd (upd (upd (upd H Z (.lst [])) d (.dK (putK kvs (Sum.inl k) (.ref Z)))) P (.tup (stepV p))) Z (.lst ([] ++ [.ref P]))) := by
  have hZ := h.new (o := .lst []) nZ
  have dZ : d ≠ Z := ne_of_none h.1 nZ
  have zf : ∀ k v, valV kvs (Sum.inl k) = some v → v ≠ .ref Z := fun k v e z => by
    obtain ⟨q, as, e1, _, _, e4, _⟩ := h.2.2.2.2.2.1 k v e
    rw [z] at e1
    cases e1
    rw [nZ] at e4
    cases e4
  have nZ0 : H0 Z = none := s.free nZ
  have hp := hZ.put (k := k) upd_same nZ0 zf hn
  have eZ : upd (upd H Z (.lst [])) d (.dK (putK kvs (Sum.inl k) (.ref Z))) Z = some (.lst []) := by
    rw [upd_ne dZ.symm]
    exact upd_same
  have vk : ∀ x : Int, valV (putK kvs (Sum.inl k) (.ref Z)) (Sum.inl x) = if x = k then some (.ref Z) else valV kvs (Sum.inl x) := fun x => by
    rw [valV_put]
    by_cases e : x = k
    · rw [if_pos e, if_pos (by rw [e])]
    · rw [if_neg e, if_neg (fun q => e (Sum.inl.inj q))]
  have wk : W k = [] := h.2.2.2.2.1 k fun z => by
    obtain ⟨v, e⟩ := (h.2.2.2.1 k).mp z
    rw [hn] at e
    cases e
  refine ⟨eZ, fun P nP => ⟨putK kvs (Sum.inl k) (.ref Z), ?_, ?_, ?_, ?_, ?_⟩⟩
  · have hP := hp.new (o := .tup (stepV p)) nP
    exact hP.app (as := []) (k := k) (by rw [vk, if_pos rfl]) ((upd_ne (ne_of_none eZ nP)).trans eZ) (by rw [wk]; exact TupsAt.nil) upd_same
  · exact same_mine (same_new (same_mine (same_new s nZ) nd) nP) nZ0
  · exact (((Tups.new nZ).trans (Tups.dk hZ.1)).trans (Tups.new nP)).trans (Tups.ls ((upd_ne (ne_of_none eZ nP)).trans eZ))
  · have e1 : upd H Z (.lst []) o = some (.lst xs) := (upd_ne (ne_of_none eo nZ)).trans eo
    have od : o ≠ d := fun z => by
      rw [z, h.1] at eo
      cases eo
    have e2 : upd (upd H Z (.lst [])) d (.dK (putK kvs (Sum.inl k) (.ref Z))) o = some (.lst xs) := (upd_ne od).trans e1
    rw [upd_ne (ne_of_none eo nZ), upd_ne (ne_of_none e2 nP)]
    exact e2
  · intro x v e z
    rw [vk] at e
    by_cases n : x = k
    · rw [if_pos n, z] at e
      cases e
      rw [nZ] at eo
      cases eo
    · rw [if_neg n] at e
      exact nv x v e z
/-! ### stretches: places, what is there -/
def Places (Ls : List Lw) (ys : List Int) : Prop := ys.Pairwise (· < ·) ∧ (∀ k, k ∈ ys ↔ Keys Ls k) ∧ ys.length ≤ 1300
def SegAt (H : Hp) (a : Addr) (Ls : List Lw) (s e : Int) : Prop := ∃ n t, H a = some (.tup [.int s, .int e, .ref n, .ref t]) ∧ H n = some (.tup ((numsFrom 0 (Ls.map fun L => thickL L s)).map V.int)) ∧ H t = some (.tup [.int (s0 Ls s), .int (s1 Ls s)])
theorem SegAt.mono {H H' : Hp} {a : Addr} {Ls : List Lw} {s e : Int} (h : SegAt H a Ls s e) (t : Tups H H') : SegAt H' a Ls s e := by
  obtain ⟨n, u, h1, h2, h3⟩ := h
  exact ⟨n, u, t _ _ h1, t _ _ h2, t _ _ h3⟩
def SegsAt (H : Hp) (as : List Addr) (Ls : List Lw) (ps : List (Int × Int)) : Prop := as.length = ps.length ∧ ∀ (i : Nat) (a : Addr), as[i]? = some a → ∃ s e, ps[i]? = some (s, e) ∧ SegAt H a Ls s e
theorem SegsAt.mono {H H' : Hp} {as : List Addr} {Ls : List Lw} {ps : List (Int × Int)} (h : SegsAt H as Ls ps) (t : Tups H H') : SegsAt H' as Ls ps := ⟨h.1, fun i a e => by
  obtain ⟨s, e', h1, h2⟩ := h.2 i a e
  exact ⟨s, e', h1, h2.mono t⟩⟩
theorem SegsAt.nil {H : Hp} {Ls : List Lw} : SegsAt H [] Ls [] := ⟨rfl, fun i a h => by simp at h⟩
theorem SegsAt.snoc {H : Hp} {as : List Addr} {Ls : List Lw} {ps : List (Int × Int)} {a : Addr} {s e : Int} (h : SegsAt H as Ls ps) (g : SegAt H a Ls s e) : SegsAt H (as ++ [a]) Ls (ps ++ [(s, e)]) := by
  refine ⟨by rw [List.length_append, List.length_append, h.1]; rfl, fun i b hb => ?_⟩
  by_cases hi : i < as.length
  · rw [List.getElem?_append_left hi] at hb
    obtain ⟨s', e', h1, h2⟩ := h.2 i b hb
    exact ⟨s', e', by rw [List.getElem?_append_left (by rw [← h.1]; exact hi)]; exact h1, h2⟩
  · rw [List.getElem?_append_right (by omega)] at hb
    have hz : i - as.length = 0 := by
      cases hk : i - as.length with
      | zero => rfl
      | succ n =>
        rw [hk] at hb
        simp at hb
    rw [hz] at hb
    have : a = b := Option.some.inj hb
    subst this
    refine ⟨s, e, ?_, g⟩
    rw [List.getElem?_append_right (by rw [← h.1]; omega), ← h.1, hz]
    rfl
abbrev pairs (ys : List Int) : List (Int × Int) := ys.zip (ys.drop 1)
def spStretches : Sp := fun vs H Q _ => ∃ (a : Addr) (Ls : List Lw), vs = [.ref a] ∧ StrandAt H a Ls ∧ Ls.length ≤ 60 ∧ (∀ L ∈ Ls, GoodL L) ∧
  ∀ (H' : Hp) (o : Addr) (as : List Addr) (ys : List Int), Same H H' → H o = none → H' o = some (.tup (as.map V.ref)) → SegsAt H' as Ls (pairs ys) → Places Ls ys → Q (.ref o) H'
/-- what is written, one behind the other -/
def wrt (xs : List Int) (ws : List (Int × Int)) : List Int := ws.foldl (fun xs p => xs.set p.1.toNat p.2) xs
theorem wrt_snoc (xs : List Int) (ws : List (Int × Int)) (p : Int × Int) : wrt xs (ws ++ [p]) = (wrt xs ws).set p.1.toNat p.2 := by
  unfold wrt
  rw [List.foldl_append]
  rfl
theorem wrt_len (xs : List Int) (ws : List (Int × Int)) : (wrt xs ws).length = xs.length := by
  unfold wrt
  induction ws generalizing xs with
  | nil => rfl
  | cons p r ih =>
    show (List.foldl _ (xs.set p.1.toNat p.2) r).length = _
    rw [ih, List.length_set]
theorem wrt_one (x : Int) (ys pre : List Int) : ∀ (ts : List Int) (x : Int), wrt (pre ++ x :: ys) (ts.map fun t => ((pre.length : Int), t)) = pre ++ lastD ts x :: ys
  | [], x => rfl
  | t :: r, x => by
    show wrt ((pre ++ x :: ys).set ((pre.length : Int)).toNat t) (r.map fun t => ((pre.length : Int), t)) = _
    have e : (pre ++ x :: ys).set ((pre.length : Int)).toNat t = pre ++ t :: ys := by
      rw [Int.toNat_natCast, List.set_append_right _ _ (Nat.le_refl _), Nat.sub_self]
      rfl
    rw [e, wrt_one x ys pre r t]
    congr 2
    unfold lastD
    cases r with
    | nil => rfl
    | cons u s =>
      rw [List.getLast?_cons_cons]
      have hne : (u :: s).getLast? = some ((u :: s).getLast (by simp)) := List.getLast?_eq_some_getLast (by simp)
      rw [hne]
      rfl
theorem wrt_app (xs : List Int) (u v : List (Int × Int)) : wrt xs (u ++ v) = wrt (wrt xs u) v := by
  unfold wrt
  rw [List.foldl_append]
theorem wrt_all (k j : Int) : ∀ (Ls : List Lw) (pre : List Int) (n : Nat), pre.length = n → (∀ L ∈ Ls, thickL L k = lastD (wr k (partsOf L.le L.ps L.pl)) (thickL L j)) → wrt (pre ++ Ls.map fun L => thickL L j) (Wall k n Ls) = pre ++ Ls.map fun L => thickL L k
  | [], pre, n, _, _ => rfl
  | L :: r, pre, n, hn, h => by
    show wrt (pre ++ thickL L j :: r.map fun L => thickL L j) ((wr k (partsOf L.le L.ps L.pl)).map (fun t => ((n : Int), t)) ++ Wall k (n + 1) r) = pre ++ thickL L k :: r.map fun L => thickL L k
    rw [wrt_app, ← hn, wrt_one 0, ← h L (by simp)]
    have ih := wrt_all k j r (pre ++ [thickL L k]) (pre.length + 1) (by rw [List.length_append]; rfl) fun M hM => h M (by simp [hM])
    rw [List.append_assoc, List.append_assoc] at ih
    exact ih
theorem keys_nonneg {Ls : List Lw} (g : ∀ L ∈ Ls, GoodL L) {k : Int} (h : Keys Ls k) : 0 ≤ k := by
  rcases h with h | ⟨L, hL, y, hy, h⟩
  · omega
  · have gL := g L hL
    have hp : ∀ p ∈ L.ps, 1 ≤ p.2 := fun p hp => (gL.1.2.2 p hp).2.2.1
    rw [← parts_eq L.ps L.pl hp] at hy
    have h1 := law_mem L.ps L.pl hp y hy
    have h2 := gL.2.2.2.1
    omega
theorem places_step {Ls : List Lw} (g : ∀ L ∈ Ls, GoodL L) {ys : List Int} (hp : Places Ls ys) {j k : Int} (hjk : j < k) (hn : ∀ y ∈ ys, y ≤ j ∨ k ≤ y) : ∀ L ∈ Ls, thickL L k = lastD (wr k (partsOf L.le L.ps L.pl)) (thickL L j) := fun L hL =>
  thick_step (g L hL) hjk fun y hy => ⟨hn _ ((hp.2.1 _).mpr (.inr ⟨L, hL, y, hy, .inl rfl⟩)), hn _ ((hp.2.1 _).mpr (.inr ⟨L, hL, y, hy, .inr rfl⟩))⟩
theorem thick_ahead {L : Lw} (g : GoodL L) : thickL L (-1) = 0 := by
  unfold thickL
  have := g.2.2.2.1
  rw [if_pos (by omega)]
theorem places_zero {Ls : List Lw} (g : ∀ L ∈ Ls, GoodL L) {ys : List Int} (hp : Places Ls ys) : ∃ r, ys = 0 :: r := by
  cases ys with
  | nil => exact absurd ((hp.2.1 0).mpr (.inl rfl)) (by simp)
  | cons y r =>
    have h1 := keys_nonneg g ((hp.2.1 y).mp (by simp))
    rcases List.mem_cons.mp ((hp.2.1 0).mpr (.inl rfl)) with e | e
    · exact ⟨r, by rw [← e]⟩
    · have h2 := (List.pairwise_cons.mp hp.1).1 0 e
      omega
/-- the place ahead of the i-th -/
def prevOf (ys : List Int) (i : Nat) : Int := if i = 0 then -1 else ys.getD (i - 1) 0
theorem prev_lt {Ls : List Lw} (g : ∀ L ∈ Ls, GoodL L) {ys : List Int} (hp : Places Ls ys) {i : Nat} {k : Int} (hk : ys[i]? = some k) : prevOf ys i < k ∧ ∀ y ∈ ys, y ≤ prevOf ys i ∨ k ≤ y := by
  have hi : i < ys.length := (List.getElem?_eq_some_iff.mp hk).1
  have ek : ys[i] = k := (List.getElem?_eq_some_iff.mp hk).2
  have srt := List.pairwise_iff_getElem.mp hp.1
  unfold prevOf
  by_cases h0 : i = 0
  · subst h0
    rw [if_pos rfl]
    have h1 := keys_nonneg g ((hp.2.1 k).mp (List.mem_of_getElem? hk))
    refine ⟨by omega, fun y hy => ?_⟩
    obtain ⟨m, hm, rfl⟩ := List.getElem_of_mem hy
    by_cases hm0 : m = 0
    · subst hm0
      right
      omega
    · have := srt 0 m hi hm (by omega)
      right
      omega
  · rw [if_neg h0, List.getD_eq_getElem?_getD, List.getElem?_eq_getElem (show i - 1 < ys.length by omega)]
    have h1 := srt (i - 1) i (by omega) hi (by omega)
    refine ⟨by simp only [Option.getD_some]; omega, fun y hy => ?_⟩
    simp only [Option.getD_some]
    obtain ⟨m, hm, rfl⟩ := List.getElem_of_mem hy
    by_cases h2 : m ≤ i - 1
    · left
      by_cases h3 : m = i - 1
      · subst h3
        exact Int.le_refl _
      · have := srt m (i - 1) hm (by omega) (by omega)
        omega
    · right
      by_cases h3 : m = i
      · subst h3
        omega
      · have := srt i m hi hm (by omega)
        omega
theorem prev_succ {ys : List Int} {i : Nat} {k : Int} (hk : ys[i]? = some k) : prevOf ys (i + 1) = k := by
  unfold prevOf
  rw [if_neg (by omega), Nat.add_sub_cancel, List.getD_eq_getElem?_getD, hk]
  rfl
theorem pairs_take {ys : List Int} {i : Nat} {s e : Int} (h1 : ys[i]? = some s) (h2 : (ys.drop 1)[i]? = some e) : (pairs ys).take (i + 1) = (pairs ys).take i ++ [(s, e)] := by
  rw [List.take_add_one]
  have : (pairs ys)[i]? = some (s, e) := by
    rw [List.getElem?_zip_eq_some]
    exact ⟨h1, h2⟩
  rw [this]
  rfl
theorem wall_num (k : Int) : ∀ (Ls : List Lw) (n : Nat) (p : Int × Int), p ∈ Wall k n Ls → ∃ m : Nat, m < n + Ls.length ∧ p.1 = m
  | [], _, p, h => by cases h
  | L :: r, n, p, h => by
    have h : p ∈ (wr k (partsOf L.le L.ps L.pl)).map (fun t => ((n : Int), t)) ++ Wall k (n + 1) r := h
    rcases List.mem_append.mp h with h | h
    · obtain ⟨t, _, rfl⟩ := List.mem_map.mp h
      exact ⟨n, by rw [List.length_cons]; omega, rfl⟩
    · obtain ⟨m, hm, e⟩ := wall_num k r (n + 1) p h
      exact ⟨m, by rw [List.length_cons]; omega, e⟩
theorem ixN_at {n j : Nat} (h : j < n) : ixN n (j : Int) = some j := by
  unfold ixN
  rw [if_pos (Int.natCast_nonneg j), if_pos (Int.ofNat_lt.mpr h), Int.toNat_natCast]
/-! ### a pot of three numbers: the great number at hand, the seed, how many were drawn -/
def PotC (H : Hp) (p : Addr) (T : Nat) : Prop := ∃ (c m : Int) (t : Nat), H p = some (.lst [.int c, .int m, .int (t : Int)]) ∧ 0 ≤ c ∧ 0 ≤ m ∧ m < 2 ^ 62 ∧ t ≤ T
theorem PotC.mono {H : Hp} {p : Addr} {T U : Nat} (h : PotC H p T) (e : T ≤ U) : PotC H p U := by
  obtain ⟨c, m, t, h1, h2, h3, h4, h5⟩ := h
  exact ⟨c, m, t, h1, h2, h3, h4, Nat.le_trans h5 e⟩
theorem PotC.new {H : Hp} {p a : Addr} {T : Nat} {o : HO} (h : PotC H p T) (n : H a = none) : PotC (upd H a o) p T := by
  obtain ⟨c, m, t, h1, h2⟩ := h
  exact ⟨c, m, t, by rw [upd_ne (ne_of_none h1 n)]; exact h1, h2⟩
theorem PotC.other {H : Hp} {p a : Addr} {T : Nat} {o : HO} (h : PotC H p T) (n : a ≠ p) : PotC (upd H a o) p T := by
  obtain ⟨c, m, t, h1, h2⟩ := h
  exact ⟨c, m, t, by rw [upd_ne n.symm]; exact h1, h2⟩
theorem PotC.notP {H : Hp} {p a : Addr} {T : Nat} {xs : List V} (h : PotC H p T) (e : H a = some (.tup xs)) : a ≠ p := by
  obtain ⟨c, m, t, h1, h2⟩ := h
  exact ne_of e h1 (by intro z; cases z)
theorem PotC.fresh {H : Hp} {p a : Addr} {T : Nat} (h : PotC H p T) (e : H a = none) : a ≠ p := by
  obtain ⟨c, m, t, h1, h2⟩ := h
  exact (ne_of_none h1 e).symm
theorem PotC.same {H H' : Hp} {p : Addr} {T : Nat} (h : PotC H p T) (e : Same H H') : PotC H' p T := by
  obtain ⟨c, m, t, h1, h2⟩ := h
  exact ⟨c, m, t, e _ _ h1, h2⟩
theorem Keep.tupsC {p : Addr} {H H' : Hp} {T : Nat} (k : Keep p p H H') (h : PotC H p T) : Tups H H' := fun a xs e => k a _ (h.notP e) (h.notP e) e
theorem Keep.freeC {p a : Addr} {H H' : Hp} {T : Nat} (k : Keep p p H H') (hp : PotC H' p T) (h : H' a = none) : H a = none := by
  have n := hp.fresh h
  cases q : H a with
  | none => rfl
  | some o =>
    rw [k a o n n q] at h
    cases h
theorem Keep.at {p a : Addr} {H H' : Hp} {o : HO} (k : Keep p p H H') (n : a ≠ p) (e : H a = some o) : H' a = some o := k a o n n e
def spBeginC (K : PySem.W.Frag) : Sp := fun vs H Q _ => ∃ (a : Addr) (ns : List Int) (i : Int), vs = [.ref a, .int i] ∧ SqL K H a (ns.map V.int) ∧ ns.length ≤ 63 ∧ 0 ≤ i ∧ i < 1000 ∧
  ∀ H' p, Same H H' → H p = none → PotC H' p 0 → Q (.ref p) H'
def spTakeC : Sp := fun vs H Q _ => ∃ (p : Addr) (T : Nat) (many : Int), vs = [.ref p, .int many] ∧ PotC H p T ∧ T < 2 ^ 40 ∧ CDivW 0 many ∧
  ∀ d H', 0 ≤ d → d < many → PotC H' p (T + 1) → Keep p p H H' → Q (.int d) H'
theorem wdiv {b : Int} (h : 0 < b) (h1 : b < 2 ^ 250) : CDivW 0 b := wide_div (b := 250) h (by
  have : (b.natAbs : Int) = b := by omega
  have h2 : (b.natAbs : Int) < ((2 ^ 250 : Nat) : Int) := by rw [this]; exact h1
  exact Int.ofNat_lt.mp h2) (by decide) (by decide)
theorem wmul {i j : Int} (h0 : 0 ≤ i) (h1 : i < 2 ^ 250) (h2 : 0 ≤ j) (h3 : j < 2 ^ 250) : CMulW i j := by
  refine wide_mul (a := 250) (b := 250) ?_ ?_ (by decide) (by decide) (by decide)
  · have e : (i.natAbs : Int) = i := by omega
    have h : (i.natAbs : Int) < ((2 ^ 250 : Nat) : Int) := by rw [e]; exact h1
    exact Int.ofNat_lt.mp h
  · have e : (j.natAbs : Int) = j := by omega
    have h : (j.natAbs : Int) < ((2 ^ 250 : Nat) : Int) := by rw [e]; exact h3
    exact Int.ofNat_lt.mp h
theorem Keep.from {p : Addr} {H H1 H2 : Hp} (k : Keep p p H1 H2) (s : Same H H1) (np : H p = none) : Same H H2 := fun b o e => k b o (ne_of_none e np) (ne_of_none e np) (s b o e)
theorem pairD {K : PySem.W.Frag} {H : Hp} {a : Addr} {i j : Int} (h : H a = some (.tup [.int i, .int j])) : Dp K H (.ref a) (.tuple [.int i, .int j]) := .tup (SqT.of h) (.cons (.int _) (.cons (.int _) .nil))
/-! ### sum of a tuple, list(range(n)) -/
section
variable {X : Cx}
theorem tup_total {prog : Program} {w : World} {A : Around} {E : Value → Shared → Prop} {s : Shared} {l : Addr} {xs : Array (Int × Tok)} {Q : Value → Shared → Prop} (hh : A.handled = none) (hl : s.heap.IsTuple l (intItems xs))
    (h : ∀ h' tk t', (∀ b o, s.heap.get? b = some o → h'.get? b = some o) → Q (.int (preSum (numAt xs) xs.size) t') { s with heap := h', toks := tk }) : wpAny (model prog w) A (call (.builtin "sum") [.ref l]) Q E s := by
  have lt : l < s.heap.objs.size := by
    obtain ⟨o, e, _⟩ := hl
    exact Heap.lt_size e
  have nn : (s.heap.push { cls := .type "tuple_iterator", data := .fields #[.ref l, .int 0 0] }).objs.size = s.heap.objs.size + 1 := Heap.size_push _ _
  refine call_sum_walkG (wpAny_pyIter_tuple hl ⟨_, _, _, _, _, _, numAt xs, rfl, Walks.tuple (A := A.in1) hh _ l (Nat.ne_of_lt lt) (intItems xs), ⟨⟨_, Heap.get?_push_size _ rfl, rfl, rfl⟩, ?_⟩, fun b hb => ?_, (fun _ _ => intItems_at), fun h' tk t' hk => ?_⟩)
  · obtain ⟨o, e, r⟩ := hl
    exact ⟨o, Heap.get?_push_of_some _ e, r⟩
  · show b < (s.heap.push { cls := .type "tuple_iterator", data := .fields #[.ref l, .int 0 0] }).objs.size
    rw [nn]
    simp only [List.mem_cons, List.not_mem_nil, or_false] at hb
    rcases hb with rfl | rfl
    · exact Nat.lt_succ_self _
    · exact Nat.lt_succ_of_lt lt
  · have z := h h' tk t' fun b o e => hk b o (fun hm => by
      simp only [List.mem_cons, List.not_mem_nil, or_false] at hm
      rw [hm] at e
      exact absurd (Heap.lt_size e) (Nat.lt_irrefl _)) (Heap.get?_push_of_some _ e)
    simpa [intItems] using z
theorem cr_sumT (hc : X.calm = true) : CallR X (.builtin "sum") (fun vs H Q => ∃ (a : Addr) (ns : List Int), vs = [V.ref a] ∧ SqT X.K H a (ns.map V.int) ∧ Q (.int ns.sum) H) := by
  intro pins s σ H vs us Q I r h
  obtain ⟨a, ns, rfl, hs, q⟩ := h
  obtain ⟨its, rv, hl, _⟩ := I.tuple hs
  rw [Vals.ref1 r]
  obtain ⟨xs, e⟩ := rv.ints.allInts.items
  have hn : numsOf (intItems xs).toList = ns := by rw [← e]; exact rv.ints.numsOf
  rw [nums_intItems] at hn
  rw [e] at hl
  refine tup_total (I.ok.hd hc) hl fun h' tk t' hk => ?_
  rw [preSum_eq, List.take_of_length_le (by simp), hn]
  exact ⟨.int _, H, I.kept hk, ⟨_, rfl⟩, q⟩
theorem cr_rangeN : CallR X (.type "range") (fun vs H Q => ∃ j, vs = [V.int j] ∧ ∀ p, H p = none → Q (.ref p) (upd H p (.rng 0 j))) := by
  intro pins s σ H vs us Q I r h
  obtain ⟨j, rfl, q⟩ := h
  obtain ⟨u, rfl, ⟨t, rfl⟩⟩ := vals1 r
  refine call_range_1 ⟨.ref s.heap.objs.size, upd H s.heap.objs.size (.rng 0 j), I.laid (t' := s.toks + 1 + 1) (fun b o e => Heap.get?_push_of_some _ e) (Nat.le_refl _) ?_, rfl, q _ (I.hok.fresh (Nat.le_refl _))⟩
  exact ⟨s.toks, t, s.toks + 1, Heap.get?_push_size _ rfl⟩
def upTo (n : Nat) : List Int := (List.range n).map fun (i : Nat) => (i : Int)
theorem vals_upTo : ∀ (n : Nat) (vs : List Value), vs.length = n → (∀ (j : Nat) (v : Value), vs[j]? = some v → ∃ t, v = .int ((j : Nat) : Int) t) → Vals ((upTo n).map V.int) vs := by
  intro n
  induction n with
  | zero =>
    intro vs hl _
    cases vs with
    | nil => exact .nil
    | cons x r => cases hl
  | succ n ih =>
    intro vs hl hv
    have hne : vs ≠ [] := fun e => by rw [e] at hl; cases hl
    have e := List.dropLast_concat_getLast hne
    have h1 := ih vs.dropLast (by rw [List.length_dropLast, hl]; rfl) (fun j v hj => hv j v (by
      rw [← e]
      rw [List.getElem?_append_left (List.getElem?_eq_some_iff.mp hj).1]
      exact hj))
    obtain ⟨t, et⟩ := hv n (vs.getLast hne) (by
      rw [List.getLast_eq_getElem]
      have : vs.length - 1 = n := by omega
      simp only [this]
      exact List.getElem?_eq_getElem (by omega))
    have e2 : upTo (n + 1) = upTo n ++ [(n : Int)] := by
      unfold upTo
      rw [List.range_succ, List.map_append]
      rfl
    rw [e2, List.map_append, ← e]
    exact Vals.append h1 (.cons ⟨t, et⟩ .nil)
theorem call_listR (hc : X.calm = true) : CallR X (.type "list") (fun vs H Q => ∃ (r : Addr) (n : Nat), vs = [.ref r] ∧ H r = some (.rng 0 (n : Int)) ∧ n ≤ 1000 ∧ ∀ l, H l = none → Q (.ref l) (upd H l (.lst ((upTo n).map V.int)))) := by
  intro pins s σ H xs us Q I r h
  obtain ⟨p, n, rfl, hp, hn, q⟩ := h
  obtain ⟨u, rfl, rx⟩ := vals1 r
  cases rx
  obtain ⟨t1, t2, t3, ho⟩ := I.hok p _ hp
  have hsz : Builtin.Range.rangeSize 0 (n : Int) 1 = (n : Int) := by
    rw [rangeSize_one]
    split <;> omega
  refine call_list_range (n := n) (I.ok.hd hc) ho ?_ hsz (by omega) fun h' tk acc' c' hk hS hacc => ?_
  · exact small_one (by decide) (by decide) (by omega) (by omega)
  · have hv : Vals ((upTo n).map V.int) acc'.toList := vals_upTo n acc'.toList (by rw [Array.length_toList]; exact hacc.1) fun j v hj => by
      obtain ⟨t, e⟩ := hacc.2 j v (by rw [← Array.getElem?_toList]; exact hj)
      exact ⟨t, by rw [e]; simp⟩
    refine ⟨.ref s.heap.objs.size, _, I.laid (t' := tk) hk (Nat.le_refl _) (show ObjOk X.prog X.w _ h' _ (.lst ((upTo n).map V.int)) from ⟨?_, acc'.toList, c', hv, by simpa using hS⟩), rfl, q _ (I.hok.fresh (Nat.le_refl _))⟩
    show ((upTo n).map V.int).length ≤ sizeLine
    unfold upTo
    rw [List.length_map, List.length_map, List.length_range]
    exact Nat.le_trans hn (by decide)
end
theorem dpInts {K : PySem.W.Frag} (H : Hp) : ∀ ns : List Int, DpAll K H (ns.map V.int) (ns.map PyData.int)
  | [] => .nil
  | n :: r => .cons (.int n) (dpInts H r)
theorem shInts (ns : List Int) : SeqAt.shaped (.list (ns.map PyData.int)) = true := by
  have h1 : PyData.canLayAll0 (ns.map PyData.int) = true := by
    induction ns with
    | nil => rfl
    | cons n r ih => exact (Bool.and_eq_true_iff.mpr ⟨rfl, ih⟩)
  have h2 : PyData.depthAll (ns.map PyData.int) = 0 := by
    clear h1
    induction ns with
    | nil => rfl
    | cons n r ih =>
      show max 0 (PyData.depthAll (r.map PyData.int)) = 0
      rw [ih]
      rfl
  refine Bool.and_eq_true_iff.mpr ⟨h1, decide_eq_true ?_⟩
  show PyData.depthAll (ns.map PyData.int) + 1 ≤ 64
  rw [h2]
  decide
/-! ### t += u of tuples; defs with defaults -/
theorem noI_tup : typeLookup (.type "tuple") (dunderI "add") = pure none := by
  rw [typeLookup_type, builtinLookup_eq_fast]
  kernel_rfl
section
variable {X : Cx}
theorem ip_catA : PIp X .Add (rCatA X.K) := by
  intro pins s σ H x y v u Q I rx ry h
  obtain ⟨a, b, xs, ys, rfl, rfl, ha, hb, hz, q0, q1, q2⟩ := h
  cases rx
  cases ry
  obtain ⟨vs, r1, p1, _⟩ := I.tuple ha
  obtain ⟨ws, r2, p2, _⟩ := I.tuple hb
  have hzz : vs.length + ws.length ≤ sizeLine := by rw [← r1.length, ← r2.length]; exact hz
  have e : vs.toArray ++ ws.toArray = (vs ++ ws).toArray := by simp
  obtain ⟨⟨cls, dd, data, sl⟩, ho, hc, n, hd⟩ := id p1
  obtain ⟨⟨cls2, dd2, data2, sl2⟩, ho2, hc2, n2, hd2⟩ := id p2
  simp only at hc hd hc2 hd2
  subst hc hd hc2 hd2
  have go : ∀ {S : PySem.Spec}, Meets (Builtin.«tuple.__add__» ⟨[.ref a, .ref b], []⟩) S → S X.A (wants (EP X pins σ Q) X.xe) s → wpAny (model X.prog X.w) X.A (inplaceOp .Add (.ref a) (.ref b)) (EP X pins σ Q) X.xe s := fun g hS =>
    wpAny_inplaceOp_concat ⟨_, ho, rfl⟩ ⟨_, ho2, rfl⟩ noI_tup noFill_tuple_add seq_tuple_add (call_meets PySem.F.slot_tuple_add ⟨_, ho, rfl⟩ PySem.F.entry_tuple_add (PySem.F.args_tuple_add_2 _ _) g hS)
  by_cases hx : vs = []
  · subst hx
    exact go (tuple_addW0 a b ([] : List Value).toArray ws.toArray n n2 dd dd2 sl sl2 (by simp)) ⟨ho, ho2, .ref b, H, I, rfl, q0 (r1.nil_iff.mp rfl)⟩
  · by_cases hy : ws = []
    · exact go (tuple_addW1 a b vs.toArray ws.toArray n n2 dd dd2 sl sl2 (by simpa using hx) (by simp [hy])) ⟨ho, ho2, .ref a, H, I, rfl, q1 (fun z => hx (r1.nil_iff.mpr z)) (r2.nil_iff.mp hy)⟩
    · refine go (tuple_addW2 a b vs.toArray ws.toArray n n2 dd dd2 sl sl2 (by simpa using hx) (by simpa using hy) (by rw [List.size_toArray, List.size_toArray]; exact hzz)) ⟨ho, ho2, ?_⟩
      rw [e]
      refine ⟨.ref s.heap.objs.size, _, I.laid (t' := s.toks) (o := .tup (xs ++ ys)) (fun b ob q => Heap.get?_push_of_some _ q) (Nat.le_refl _) ⟨by rw [List.length_append]; exact hz, _, r1.append r2, IsTup.new _ _⟩, rfl, q2 (fun z => hx (r1.nil_iff.mpr z)) (fun z => hy (r2.nil_iff.mpr z)) _ (I.hok.fresh (Nat.le_refl _))⟩
end
def BD (K : PySem.W.Frag) (fd : FuncData) (ps : List Str) (dvs : List V) : Prop := ∃ ds, Vals dvs ds ∧ Binds K fd ps ds
theorem okD {P : Program} {w : World} {K : PySem.W.Frag} {mg : Str → Option Value} {base : Heap} {x qual : Str} {params : Arguments} {body : List Stmt} {scope : Scope} {dvs : List V} {kws : List (Str × V)} {f : Addr} {fd : FuncData} {N ps : List Str} {k : Nat} {sp : Sp}
    (F : FunD K x qual params body scope dvs kws f fd) (S : FnScope N ps scope) (ln : ∀ vs H Q E, sp vs H Q E → vs.length = ps.length)
    (hb : ∀ (cdv : Value) (A : Around) (outer : List Env) (s : Shared) (H : Hp) (vs : List V) (Q : VK) (E : XK), Room k (A.deeper (envOfC qual scope s.heap.objs.size f cdv)) → sp vs H Q E →
      ∃ t, PSs (cxOf CX0 P w K mg base N qual scope f cdv A outer s H E).nox body t ∧ t { nx := fun _ H' => Q .non H', rt := Q } (start N vs) H) : FnOk P w K mg base CX0 (k + 1) f fd ps sp :=
  F.ok S ln fun cdv A outer s H vs Q E hr h => by
    obtain ⟨t, h1, h2⟩ := hb cdv A outer s H vs Q E hr h
    exact ⟨t, h1.nox, h2⟩
/-! ### the first place that is thinner than low -/
def IsFirst (Ls : List Lw) (low now m : Int) : Prop := now ≤ m ∧ thickS Ls m < low ∧ ∀ p, now ≤ p → p < m → low ≤ thickS Ls p
theorem first_eq {Ls : List Lw} {low now m n : Int} (h1 : IsFirst Ls low now m) (h2 : IsFirst Ls low now n) : m = n := by
  obtain ⟨a1, a2, a3⟩ := h1
  obtain ⟨b1, b2, b3⟩ := h2
  rcases Int.lt_trichotomy m n with h | h | h
  · have := b3 m a1 h
    omega
  · exact h
  · have := a3 n b1 h
    omega
theorem thick_nonneg : ∀ (ps : List (Int × Int)) (k : Int), (∀ p ∈ ps, 0 ≤ p.1) → 0 ≤ thickAt ps k
  | [], _, _ => Int.le_refl _
  | (t, g) :: r, k, h => by
    show 0 ≤ if k < g then t else thickAt r (k - g)
    split
    · exact h (t, g) (by simp)
    · exact thick_nonneg r _ fun p hp => h p (by simp [hp])
theorem thick_over {L : Lw} (g : GoodL L) {p : Int} (h : lastOf L ≤ p) : thickL L p = 0 := by
  have h1 := thick_runs g p
  have h2 : 0 ≤ thickL L p := by
    unfold thickL
    split
    · exact Int.le_refl _
    · cases L.le with
      | none => exact thick_nonneg _ _ fun q hq => Int.le_trans (by decide) (g.1.2.2 q hq).1
      | some n =>
        show 0 ≤ if n ≤ p then 0 else _
        split
        · exact Int.le_refl _
        · exact thick_nonneg _ _ fun q hq => Int.le_trans (by decide) (g.1.2.2 q hq).1
  have h3 : ¬ 0 < thickL L p := fun z => by
    have := h1.mp z
    omega
  omega
theorem thickS_over {Ls : List Lw} (g : ∀ L ∈ Ls, GoodL L) {p : Int} (h : ∀ L ∈ Ls, lastOf L ≤ p) : thickS Ls p = 0 := by
  unfold thickS
  induction Ls with
  | nil => rfl
  | cons L r ih =>
    rw [List.map_cons, List.sum_cons, thick_over (g L (by simp)) (h L (by simp)), ih (fun M hM => g M (by simp [hM])) (fun M hM => h M (by simp [hM]))]
    rfl
theorem thickS_congr {Ls : List Lw} {p q : Int} (h : ∀ L ∈ Ls, thickL L p = thickL L q) : thickS Ls p = thickS Ls q := by
  unfold thickS
  rw [List.map_congr_left h]
theorem wr_not {k : Int} {qs : List (Int × Int × Int)} (h : ∀ y ∈ qs, y.1 ≠ k ∧ y.2.1 ≠ k) : wr k qs = [] := by
  cases hw : wr k qs with
  | nil => rfl
  | cons t r =>
    obtain ⟨y, hy, e⟩ := wr_ne (k := k) (qs := qs) (by rw [hw]; simp)
    have := h y hy
    rcases e with e | e
    · exact absurd e this.1
    · exact absurd e this.2
/-- where nothing begins or ends behind s, up to p, it is as at s -/
theorem thick_still {L : Lw} (g : GoodL L) {s p : Int} (hsp : s ≤ p) (hn : ∀ y ∈ partsOf L.le L.ps L.pl, (y.1 ≤ s ∨ p < y.1) ∧ (y.2.1 ≤ s ∨ p < y.2.1)) : thickL L p = thickL L s := by
  by_cases e : s = p
  · rw [e]
  · have h1 := thick_step g (j := s) (k := p) (by omega) fun y hy => ⟨(hn y hy).1.imp id Int.le_of_lt, (hn y hy).2.imp id Int.le_of_lt⟩
    rw [h1, wr_not fun y hy => ⟨fun z => by have := (hn y hy).1; omega, fun z => by have := (hn y hy).2; omega⟩]
    rfl
theorem pairs_get {ys : List Int} {i : Nat} {s e : Int} (h : (pairs ys)[i]? = some (s, e)) : ys[i]? = some s ∧ ys[i + 1]? = some e := by
  rw [List.getElem?_zip_eq_some] at h
  refine ⟨h.1, ?_⟩
  have := h.2
  rw [List.getElem?_drop] at this
  rw [Nat.add_comm]
  exact this
theorem places_still {Ls : List Lw} (g : ∀ L ∈ Ls, GoodL L) {ys : List Int} (hp : Places Ls ys) {i : Nat} {s e p : Int} (h : (pairs ys)[i]? = some (s, e)) (h1 : s ≤ p) (h2 : p < e) : thickS Ls p = thickS Ls s := by
  obtain ⟨e1, e2⟩ := pairs_get h
  obtain ⟨i1, g1⟩ := List.getElem?_eq_some_iff.mp e1
  obtain ⟨i2, g2⟩ := List.getElem?_eq_some_iff.mp e2
  have srt := List.pairwise_iff_getElem.mp hp.1
  have ok : ∀ y, Keys Ls y → y ≤ s ∨ p < y := fun y hy => by
    obtain ⟨m, hm, rfl⟩ := List.getElem_of_mem ((hp.2.1 y).mpr hy)
    by_cases hmi : m ≤ i
    · left
      by_cases hm2 : m = i
      · subst hm2
        omega
      · have := srt m i hm i1 (by omega)
        omega
    · right
      by_cases hm2 : m = i + 1
      · subst hm2
        omega
      · have := srt (i + 1) m i2 hm (by omega)
        omega
  exact thickS_congr fun L hL => thick_still (g L hL) h1 fun y hy => ⟨ok _ (.inr ⟨L, hL, y, hy, .inl rfl⟩), ok _ (.inr ⟨L, hL, y, hy, .inr rfl⟩)⟩
theorem end_key {Ls : List Lw} (g : ∀ L ∈ Ls, GoodL L) {m : Int} (h : IsEnd Ls m) : Keys Ls m := by
  cases hL : Ls with
  | nil => exact .inl (h.1 hL)
  | cons M r =>
    obtain ⟨L, hm, e⟩ := h.2.1 (by rw [hL]; simp)
    have gL := g L hm
    have hp : ∀ p ∈ L.ps, 1 ≤ p.2 := fun p hp => (gL.1.2.2 p hp).2.2.1
    obtain ⟨y, hy, ey⟩ := parts_has (le := L.le) L.ps L.pl hp (last_gt gL)
    rw [← hL]
    exact .inr ⟨L, hm, y, hy, .inr (by rw [ey, e]; rfl)⟩
theorem key_le {ys : List Int} (h : ys.Pairwise (· < ·)) {k : Int} (hk : k ∈ ys) {i : Nat} {e : Int} (he : ys[i]? = some e) (hi : i + 1 = ys.length) : k ≤ e := by
  obtain ⟨i1, g1⟩ := List.getElem?_eq_some_iff.mp he
  obtain ⟨m, hm, rfl⟩ := List.getElem_of_mem hk
  by_cases hmi : m = i
  · subst hmi
    omega
  · have := List.pairwise_iff_getElem.mp h m i hm i1 (by omega)
    omega
def spLasts : Sp := fun vs H Q _ => ∃ (a : Addr) (Ls : List Lw) (low now : Int), vs = [.ref a, .int low, .int now] ∧ StrandAt H a Ls ∧ Ls.length ≤ 60 ∧ (∀ L ∈ Ls, GoodL L) ∧ 1 ≤ low ∧ 0 ≤ now ∧ ∀ H' m, Same H H' → IsFirst Ls low now m → Q (.int m) H'
/-! ### rows drawn late -/
abbrev Wi := Int × List (Int × Int)
def RowAt (H : Hp) (as : List Addr) (Ws : List Wi) : Prop := as.length = Ws.length ∧ ∀ (i : Nat) (a : Addr), as[i]? = some a → ∃ W, Ws[i]? = some W ∧ WispAt H a W.1 W.2
theorem RowAt.mono {H H' : Hp} {as : List Addr} {Ws : List Wi} (h : RowAt H as Ws) (t : Tups H H') : RowAt H' as Ws := ⟨h.1, fun i a e => by
  obtain ⟨W, h1, h2⟩ := h.2 i a e
  exact ⟨W, h1, h2.mono t⟩⟩
theorem RowAt.take {H : Hp} {as : List Addr} {Ws : List Wi} (h : RowAt H as Ws) (n : Nat) : RowAt H (as.take n) (Ws.take n) := by
  refine ⟨by rw [List.length_take, List.length_take, h.1], fun i a e => ?_⟩
  rw [List.getElem?_take] at e
  split at e
  · next hi =>
    obtain ⟨W, h1, h2⟩ := h.2 i a e
    exact ⟨W, by rw [List.getElem?_take, if_pos hi]; exact h1, h2⟩
  · cases e
def GoodW (W : Wi) : Prop := Good W.2 ∧ 0 ≤ W.1 ∧ W.1 ≤ 1 ∧ longs W.2 < 2 ^ 110
def laidOf (W : Wi) (m : Int) : Lw := ⟨W.1, W.2, m, none⟩
def laidAll : List Wi → List Int → List Lw
  | W :: r, m :: s => laidOf W m :: laidAll r s
  | _, _ => []
theorem laidAll_len : ∀ (Ws : List Wi) (ms : List Int), Ws.length = ms.length → (laidAll Ws ms).length = Ws.length
  | [], [], _ => rfl
  | W :: r, m :: s, h => congrArg (· + 1) (laidAll_len r s (Nat.succ.inj h))
  | [], _ :: _, h => by cases h
  | _ :: _, [], h => by cases h
theorem laidAll_get : ∀ {Ws : List Wi} {ms : List Int} {i : Nat} {W : Wi} {m : Int}, Ws[i]? = some W → ms[i]? = some m → (laidAll Ws ms)[i]? = some (laidOf W m)
  | W :: r, m :: s, 0, _, _, h1, h2 => by
    cases h1
    cases h2
    rfl
  | W :: r, m :: s, i + 1, _, _, h1, h2 => laidAll_get (Ws := r) (ms := s) (i := i) h1 h2
  | [], _, i, _, _, h1, _ => by simp at h1
  | _ :: _, [], i, _, _, _, h2 => by simp at h2
theorem laidAll_mem : ∀ {Ws : List Wi} {ms : List Int} {L : Lw}, L ∈ laidAll Ws ms → ∃ W ∈ Ws, ∃ m ∈ ms, L = laidOf W m
  | W :: r, m :: s, L, h => by
    rcases List.mem_cons.mp h with rfl | h
    · exact ⟨W, by simp, m, by simp, rfl⟩
    · obtain ⟨V, hV, n, hn, e⟩ := laidAll_mem (Ws := r) (ms := s) h
      exact ⟨V, by simp [hV], n, by simp [hn], e⟩
  | [], _, L, h => by simp [laidAll] at h
  | _ :: _, [], L, h => by simp [laidAll] at h
theorem good_laid {W : Wi} {m : Int} (g : GoodW W) (h0 : 0 ≤ m) (h1 : m < 2 ^ 130) : GoodL (laidOf W m) := ⟨g.1, g.2.1, g.2.2.1, h0, h1, fun n e => by cases e⟩
theorem last_laid (W : Wi) (m : Int) : lastOf (laidOf W m) = m + longs W.2 := rfl
theorem first_le {Ls : List Lw} (g : ∀ L ∈ Ls, GoodL L) {low now m B : Int} (h : IsFirst Ls low now m) (l1 : 1 ≤ low) (hn : now ≤ B) (hB : ∀ L ∈ Ls, lastOf L ≤ B) : m ≤ B := by
  rcases Int.lt_or_le B m with hb | hb
  · have h1 := h.2.2 B hn hb
    rw [thickS_over g hB] at h1
    omega
  · exact hb
/-- each next one at the first place that is too thin without it -/
def LateP (Ls : List Lw) (Ws : List Wi) (low now : Int) (ms : List Int) : Prop := ms.length = Ws.length ∧ ∀ (i : Nat) (m : Int), ms[i]? = some m → IsFirst (Ls ++ laidAll (Ws.take i) (ms.take i)) low now m
theorem late_eq {Ls : List Lw} {Ws : List Wi} {low now : Int} {ms ns : List Int} (h1 : LateP Ls Ws low now ms) (h2 : LateP Ls Ws low now ns) : ms = ns := by
  have key : ∀ i, ms.take i = ns.take i := by
    intro i
    induction i with
    | zero => rfl
    | succ i ih =>
      rw [List.take_add_one, List.take_add_one, ih]
      congr 1
      by_cases hi : i < ms.length
      · have hi2 : i < ns.length := by rw [h2.1, ← h1.1]; exact hi
        have e1 : ms[i]? = some ms[i] := List.getElem?_eq_getElem hi
        have e2 : ns[i]? = some ns[i] := List.getElem?_eq_getElem hi2
        have f1 := h1.2 i _ e1
        have f2 := h2.2 i _ e2
        rw [ih] at f1
        rw [e1, e2, first_eq f1 f2]
      · rw [List.getElem?_eq_none (by omega), List.getElem?_eq_none (by rw [h2.1, ← h1.1]; omega)]
  have := key ms.length
  rw [List.take_length, List.take_of_length_le (by rw [h1.1, h2.1]; exact Nat.le_refl _)] at this
  exact this
def spLaidOut : Sp := fun vs H Q _ => ∃ (a b : Addr) (as : List Addr) (Ws : List Wi) (ms : List Int), vs = [.ref a, .ref b] ∧ H a = some (.tup (as.map V.ref)) ∧ RowAt H as Ws ∧ H b = some (.tup (ms.map V.int)) ∧ Ws.length = ms.length ∧ Ws.length ≤ 60 ∧
  ∀ H' o, Same H H' → H o = none → StrandAt H' o (laidAll Ws ms) → Q (.ref o) H'
def SX (H : Hp) (x : V) (Ls : List Lw) : Prop := (x = .non ∧ Ls = []) ∨ ∃ c, x = .ref c ∧ StrandAt H c Ls
theorem SX.mono {H H' : Hp} {x : V} {Ls : List Lw} (h : SX H x Ls) (t : Tups H H') : SX H' x Ls := by
  rcases h with h | ⟨c, h1, h2⟩
  · exact .inl h
  · exact .inr ⟨c, h1, h2.mono t⟩
def spStrandWith : Sp := fun vs H Q _ => ∃ (a b : Addr) (x : V) (as : List Addr) (Ws : List Wi) (ms : List Int) (Ls : List Lw), vs = [.ref a, .ref b, x] ∧ H a = some (.tup (as.map V.ref)) ∧ RowAt H as Ws ∧ H b = some (.tup (ms.map V.int)) ∧ Ws.length = ms.length ∧ SX H x Ls ∧ Ls.length + Ws.length ≤ 60 ∧
  ∀ H' o, Same H H' → StrandAt H' o (Ls ++ laidAll Ws ms) → Q (.ref o) H'
/-- what a row is drawn from -/
structure From (Ls : List Lw) (Ws : List Wi) (low now : Int) : Prop where
  few : Ls.length + Ws.length ≤ 60
  gl : ∀ L ∈ Ls, GoodL L
  gw : ∀ W ∈ Ws, GoodW W
  l1 : 1 ≤ low
  n0 : 0 ≤ now
  n1 : now ≤ 2 ^ 115
  b : ∀ L ∈ Ls, lastOf L ≤ 2 ^ 115
def spDrawn : Sp := fun vs H Q _ => ∃ (a : Addr) (x : V) (low now : Int) (as : List Addr) (Ws : List Wi) (Ls : List Lw), vs = [.ref a, .int low, x, .int now] ∧ H a = some (.tup (as.map V.ref)) ∧ RowAt H as Ws ∧ SX H x Ls ∧ From Ls Ws low now ∧
  ∀ H' o ms, Same H H' → H' o = some (.tup (ms.map V.int)) → LateP Ls Ws low now ms → (∀ m ∈ ms, 0 ≤ m ∧ m < 2 ^ 125) → Q (.ref o) H'
def spLasting : Sp := fun vs H Q _ => ∃ (a : Addr) (x : V) (low now : Int) (as : List Addr) (Ws : List Wi) (Ls : List Lw), vs = [.ref a, .int low, x, .int now] ∧ H a = some (.tup (as.map V.ref)) ∧ RowAt H as Ws ∧ SX H x Ls ∧ From Ls Ws low now ∧
  ∀ H' ms m, Same H H' → LateP Ls Ws low now ms → IsFirst (Ls ++ laidAll Ws ms) low now m → Q (.int m) H'
/-- the places so far, their bound -/
def SoFar (Ls : List Lw) (Ws : List Wi) (low now : Int) (i : Nat) (ms : List Int) : Prop := ms.length = i ∧ (∀ (j : Nat) (m : Int), ms[j]? = some m → IsFirst (Ls ++ laidAll (Ws.take j) (ms.take j)) low now m) ∧ ∀ m ∈ ms, 0 ≤ m ∧ m ≤ 2 ^ 115 + (i : Int) * 2 ^ 110
theorem so_far_good {Ls : List Lw} {Ws : List Wi} {low now : Int} (F : From Ls Ws low now) {i : Nat} {ms : List Int} (h : SoFar Ls Ws low now i ms) (hi : i ≤ Ws.length) :
    (∀ L ∈ Ls ++ laidAll (Ws.take i) ms, GoodL L) ∧ (Ls ++ laidAll (Ws.take i) ms).length ≤ 60 ∧ ∀ L ∈ Ls ++ laidAll (Ws.take i) ms, lastOf L ≤ 2 ^ 115 + ((i + 1 : Nat) : Int) * 2 ^ 110 := by
  have hi60 : (i : Int) ≤ 60 := by
    have := F.few
    omega
  have e1 : ((i + 1 : Nat) : Int) * 2 ^ 110 = (i : Int) * 2 ^ 110 + 2 ^ 110 := by
    rw [Int.natCast_add, Int.add_mul]
    rfl
  have e2 : (i : Int) * 2 ^ 110 ≤ 60 * 2 ^ 110 := Int.mul_le_mul_of_nonneg_right hi60 (by decide)
  have e3 : 0 ≤ (i : Int) * 2 ^ 110 := Int.mul_nonneg (by omega) (by decide)
  refine ⟨fun L hL => ?_, ?_, fun L hL => ?_⟩
  · rcases List.mem_append.mp hL with hL | hL
    · exact F.gl L hL
    · obtain ⟨W, hW, m, hm, rfl⟩ := laidAll_mem hL
      have := h.2.2 m hm
      exact good_laid (F.gw W (List.mem_of_mem_take hW)) this.1 (by omega)
  · rw [List.length_append, laidAll_len _ _ (by rw [List.length_take, h.1]; omega), List.length_take]
    have := F.few
    omega
  · rcases List.mem_append.mp hL with hL | hL
    · have := F.b L hL
      omega
    · obtain ⟨W, hW, m, hm, rfl⟩ := laidAll_mem hL
      have h1 := h.2.2 m hm
      have h2 := (F.gw W (List.mem_of_mem_take hW)).2.2.2
      rw [last_laid]
      omega
/-! ### what the law draws -/
def spOfB : Sp := fun vs H Q _ => ∃ (p : Addr) (T : Nat) (a : Addr) (xs : List V), vs = [.ref p, .ref a] ∧ PotC H p T ∧ T < 2 ^ 39 ∧ H a = some (.lst xs) ∧ a ≠ p ∧ 1 ≤ xs.length ∧ xs.length ≤ 1000 ∧
  ∀ H' (j : Nat) x, xs[j]? = some x → PotC H' p (T + 1) → Keep p p H H' → Q x H'
def spDWisp : Sp := fun vs H Q _ => ∃ (p : Addr) (T : Nat) (sty : Int), vs = [.ref p, .int sty] ∧ PotC H p T ∧ T < 2 ^ 37 ∧ 0 ≤ sty ∧ sty < 3 ∧
  ∀ H' a W, WispAt H' a W.1 W.2 → GoodW W → H a = none → PotC H' p (T + 100) → Keep p p H H' → Q (.ref a) H'
def spLeast : Sp := fun vs H Q _ => ∃ (p : Addr) (T : Nat) (sty : Int), vs = [.ref p, .int sty] ∧ PotC H p T ∧ T < 2 ^ 37 ∧ ∀ H' n, 1 ≤ n → n < 2 ^ 140 → PotC H' p (T + 2) → Keep p p H H' → Q (.int n) H'
def spStrongB : Sp := fun vs H Q _ => ∃ (a : Addr) (s : Int) (ps : List (Int × Int)) (k : Int), vs = [.ref a, .int k] ∧ WispAt H a s ps ∧ Q (.int (thickAt ps k)) H
def spThere : Sp := fun vs H Q _ => ∃ (a : Addr) (Ls : List Lw) (p : Int), vs = [.ref a, .int p] ∧ StrandAt H a Ls ∧ Q (.int (thickS Ls p)) H
theorem longs_le {ps : List (Int × Int)} {B : Int} (h : ∀ p ∈ ps, p.2 ≤ B) : longs ps ≤ ps.length * B := by
  induction ps with
  | nil => rw [show longs [] = 0 from rfl]; simp
  | cons p r ih =>
    have h1 := h p (by simp)
    have h2 := ih fun x hx => h x (by simp [hx])
    rw [longs_cons, List.length_cons, Int.natCast_add, Int.add_mul]
    simp only [Int.natCast_one, Int.one_mul]
    omega
/-! ### from border to border -/
def LKey (L : Lw) (k : Int) : Prop := k = L.pl ∨ L.le = some k ∨ ∃ j, j < L.ps.length ∧ k = L.pl + longs (L.ps.take (j + 1))
def BKey (Ls : List Lw) (now k : Int) : Prop := k = now ∨ ∃ L ∈ Ls, LKey L k
theorem clip_is (le : Option Int) (e : Int) : clip le e = e ∨ le = some (clip le e) := by
  unfold clip
  cases le with
  | none => exact .inl rfl
  | some n =>
    dsimp only
    split
    · exact .inr rfl
    · exact .inl rfl
theorem part_key {le : Option Int} : ∀ (ps : List (Int × Int)) (st : Int), ∀ y ∈ lawParts le ps st, (y.1 = st ∨ ∃ j, j < ps.length ∧ y.1 = st + longs (ps.take (j + 1))) ∧ (le = some y.2.1 ∨ ∃ j, j < ps.length ∧ y.2.1 = st + longs (ps.take (j + 1)))
  | [], _, y, h => by cases h
  | (t, g) :: r, st, y, h => by
    have h : y ∈ (if st < clip le (st + g) then [(st, clip le (st + g), t)] else []) ++ lawParts le r (st + g) := h
    have l1 : longs (((t, g) :: r).take 1) = g := by
      show longs [(t, g)] = g
      rw [longs_cons]
      show g + 0 = g
      omega
    have sh : ∀ j, st + g + longs (r.take (j + 1)) = st + longs (((t, g) :: r).take (j + 1 + 1)) := fun j => by
      show _ = st + longs ((t, g) :: r.take (j + 1))
      rw [longs_cons]
      show _ = st + (g + _)
      omega
    rcases List.mem_append.mp h with h | h
    · split at h
      · simp only [List.mem_cons, List.not_mem_nil, or_false] at h
        subst h
        refine ⟨.inl rfl, ?_⟩
        rcases clip_is le (st + g) with e | e
        · exact .inr ⟨0, by simp, by show clip le (st + g) = _; rw [e, l1]⟩
        · exact .inl e
      · cases h
    · obtain ⟨h1, h2⟩ := part_key r (st + g) y h
      refine ⟨?_, ?_⟩
      · rcases h1 with e | ⟨j, hj, e⟩
        · exact .inr ⟨0, by simp, by rw [e, l1]⟩
        · exact .inr ⟨j + 1, by rw [List.length_cons]; omega, by rw [e, sh]⟩
      · rcases h2 with e | ⟨j, hj, e⟩
        · exact .inl e
        · exact .inr ⟨j + 1, by rw [List.length_cons]; omega, by rw [e, sh]⟩
theorem part_lkey {L : Lw} (g : GoodL L) {y : Int × Int × Int} (h : y ∈ partsOf L.le L.ps L.pl) : LKey L y.1 ∧ LKey L y.2.1 := by
  rw [← parts_eq L.ps L.pl fun p hp => (g.1.2.2 p hp).2.2.1] at h
  obtain ⟨h1, h2⟩ := part_key L.ps L.pl y h
  refine ⟨?_, ?_⟩
  · rcases h1 with e | e
    · exact .inl e
    · exact .inr (.inr e)
  · rcases h2 with e | e
    · exact .inr (.inl e)
    · exact .inr (.inr e)
theorem near {ns : List Int} {p : Int} (h : ∃ a ∈ ns, a ≤ p) : ∃ b ∈ ns, b ≤ p ∧ ∀ k ∈ ns, k ≤ b ∨ p < k := by
  induction ns with
  | nil =>
    obtain ⟨a, ha, _⟩ := h
    cases ha
  | cons x r ih =>
    by_cases hr : ∃ a ∈ r, a ≤ p
    · obtain ⟨b, hb, h1, h2⟩ := ih hr
      by_cases hx : x ≤ p ∧ b < x
      · refine ⟨x, by simp, hx.1, fun k hk => ?_⟩
        rcases List.mem_cons.mp hk with rfl | hk
        · exact .inl (Int.le_refl _)
        · have := h2 k hk
          omega
      · refine ⟨b, by simp [hb], h1, fun k hk => ?_⟩
        rcases List.mem_cons.mp hk with rfl | hk
        · omega
        · exact h2 k hk
    · obtain ⟨a, ha, h1⟩ := h
      have : a = x := by
        rcases List.mem_cons.mp ha with e | e
        · exact e
        · exact absurd ⟨a, e, h1⟩ hr
      subst this
      refine ⟨a, by simp, h1, fun k hk => ?_⟩
      rcases List.mem_cons.mp hk with rfl | hk
      · exact .inl (Int.le_refl _)
      · right
        rcases Int.lt_or_le p k with z | z
        · exact z
        · exact absurd ⟨k, hk, z⟩ hr
def Borders (Ls : List Lw) (now : Int) (ns : List Int) : Prop := ns.Pairwise (· < ·) ∧ (∀ k, k ∈ ns ↔ BKey Ls now k ∧ now ≤ k) ∧ ns.length ≤ 1000
theorem border_first {Ls : List Lw} (g : ∀ L ∈ Ls, GoodL L) {now low m : Int} {ns : List Int} (hb : Borders Ls now ns) {i : Nat} (hi : ns[i]? = some m) (ht : thickS Ls m < low) (ha : ∀ (j : Nat) (k : Int), j < i → ns[j]? = some k → low ≤ thickS Ls k) : IsFirst Ls low now m := by
  have mem := List.mem_of_getElem? hi
  refine ⟨((hb.2.1 m).mp mem).2, ht, fun p p1 p2 => ?_⟩
  obtain ⟨b, hbm, b1, b2⟩ := near (ns := ns) (p := p) ⟨now, (hb.2.1 now).mpr ⟨.inl rfl, Int.le_refl _⟩, p1⟩
  have bn := ((hb.2.1 b).mp hbm).2
  have still : thickS Ls p = thickS Ls b := thickS_congr fun L hL => thick_still (g L hL) b1 fun y hy => by
    have ok : ∀ k, LKey L k → k ≤ b ∨ p < k := fun k hk => by
      by_cases hn : now ≤ k
      · exact b2 k ((hb.2.1 k).mpr ⟨.inr ⟨L, hL, hk⟩, hn⟩)
      · left
        omega
    obtain ⟨h1, h2⟩ := part_lkey (g L hL) hy
    exact ⟨ok _ h1, ok _ h2⟩
  rw [still]
  obtain ⟨j, hj, ej⟩ := List.getElem_of_mem hbm
  obtain ⟨i1, ei⟩ := List.getElem?_eq_some_iff.mp hi
  refine ha j b ?_ (by rw [← ej]; exact List.getElem?_eq_getElem hj)
  rcases Nat.lt_or_ge j i with z | z
  · exact z
  · by_cases e : j = i
    · subst e
      omega
    · have := List.pairwise_iff_getElem.mp hb.1 i j i1 hj (by omega)
      omega
theorem border_some {Ls : List Lw} (g : ∀ L ∈ Ls, GoodL L) {now low : Int} (l1 : 1 ≤ low) {ns : List Int} (hb : Borders Ls now ns) (ha : ∀ (j : Nat) (k : Int), j < ns.length → ns[j]? = some k → low ≤ thickS Ls k) : False := by
  have hnow := (hb.2.1 now).mpr ⟨.inl rfl, Int.le_refl _⟩
  have hl : 0 < ns.length := List.length_pos_of_mem hnow
  have hz : ns[ns.length - 1]? = some ns[ns.length - 1] := List.getElem?_eq_getElem (by omega)
  have le : ∀ k ∈ ns, k ≤ ns[ns.length - 1] := fun k hk => key_le hb.1 hk hz (by omega)
  have h1 := ha _ _ (by omega) hz
  rw [thickS_over g fun L hL => ?_] at h1
  · omega
  · have gl := g L hL
    have hlen := gl.1.1
    have hk : LKey L (L.pl + longs L.ps) := .inr (.inr ⟨L.ps.length - 1, by omega, by rw [show L.ps.length - 1 + 1 = L.ps.length by omega, List.take_length]⟩)
    have h2 : lastOf L ≤ L.pl + longs L.ps := clip_le
    have h3 : L.pl + longs L.ps ≤ ns[ns.length - 1] := by
      by_cases hn : now ≤ L.pl + longs L.ps
      · exact le _ ((hb.2.1 _).mpr ⟨.inr ⟨L, hL, hk⟩, hn⟩)
      · have := le now hnow
        omega
    omega
def spBorders : Sp := fun vs H Q _ => ∃ (a : Addr) (Ls : List Lw) (now : Int), vs = [.ref a, .int now] ∧ StrandAt H a Ls ∧ Ls.length ≤ 60 ∧ (∀ L ∈ Ls, GoodL L) ∧ ∀ H' o ns, Same H H' → H o = none → H' o = some (.lst (ns.map V.int)) → Borders Ls now ns → Q (.ref o) H'
def spFirstThin : Sp := fun vs H Q _ => ∃ (a : Addr) (Ls : List Lw) (low now : Int), vs = [.ref a, .int low, .int now] ∧ StrandAt H a Ls ∧ Ls.length ≤ 60 ∧ (∀ L ∈ Ls, GoodL L) ∧ 1 ≤ low ∧ ∀ H' m, Same H H' → IsFirst Ls low now m → Q (.int m) H'
theorem laid_ahead {W : Wi} {m p : Int} (h : p < m) : thickL (laidOf W m) p = 0 := by
  unfold thickL
  rw [if_pos (show p < (laidOf W m).pl from h)]
theorem laidAll_snoc : ∀ (Ws : List Wi) (ms : List Int) (W : Wi) (m : Int), Ws.length = ms.length → laidAll (Ws ++ [W]) (ms ++ [m]) = laidAll Ws ms ++ [laidOf W m]
  | [], [], W, m, _ => rfl
  | V :: r, n :: s, W, m, h => congrArg (laidOf V n :: ·) (laidAll_snoc r s W m (Nat.succ.inj h))
  | [], _ :: _, _, _, h => by cases h
  | _ :: _, [], _, _, h => by cases h
theorem thickS_app (As Bs : List Lw) (p : Int) : thickS (As ++ Bs) p = thickS As p + thickS Bs p := by
  unfold thickS
  rw [List.map_append, List.sum_append]
theorem thickS_one (L : Lw) (p : Int) : thickS [L] p = thickL L p := by
  unfold thickS
  simp
def spLate : Sp := fun vs H Q _ => ∃ (a c : Addr) (low now : Int) (as : List Addr) (Ws : List Wi) (Ls : List Lw), vs = [.ref a, .int low, .ref c, .int now] ∧ H a = some (.tup (as.map V.ref)) ∧ RowAt H as Ws ∧ StrandAt H c Ls ∧ From Ls Ws low now ∧
  ∀ H' o t d ms, Same H H' → H' o = some (.tup [.ref t, .ref d]) → H' t = some (.tup (ms.map V.int)) → StrandAt H' d (Ls ++ laidAll Ws ms) → LateP Ls Ws low now ms → (∀ m ∈ ms, 0 ≤ m ∧ m < 2 ^ 125) → Q (.ref o) H'
def DSet (H : Hp) (d : Addr) (n : Nat) (S : Int → Prop) : Prop := ∃ kvs : List (Key × V), H d = some (.dK kvs) ∧ IKN kvs ∧ kvs.length ≤ n ∧ ∀ k, (∃ v, valV kvs (Sum.inl k) = some v) ↔ S k
theorem DSet.put {H : Hp} {d : Addr} {n : Nat} {S S' : Int → Prop} (h : DSet H d n S) (k : Int) (hs : ∀ x, S' x ↔ S x ∨ x = k) : ∃ kvs : List (Key × V), H d = some (.dK kvs) ∧ kvs.length ≤ n ∧ DSet (upd H d (.dK (putK kvs (Sum.inl k) (.bl true)))) d (n + 1) S' := by
  obtain ⟨kvs, h1, h2, h3, h4⟩ := h
  refine ⟨kvs, h1, h3, _, upd_same, h2.put k _, Nat.le_trans (length_putK _ _ _) (Nat.succ_le_succ h3), fun x => ?_⟩
  rw [hs, ← h4, valV_put]
  by_cases e : x = k
  · rw [if_pos (by rw [e])]
    exact ⟨fun _ => .inr e, fun _ => ⟨_, rfl⟩⟩
  · rw [if_neg (fun z => e (Sum.inl.inj z))]
    exact ⟨.inl, fun z => z.resolve_right e⟩
theorem DSet.congr {H : Hp} {d : Addr} {n m : Nat} {S S' : Int → Prop} (h : DSet H d n S) (hn : n ≤ m) (hs : ∀ x, S' x ↔ S x) : DSet H d m S' := by
  obtain ⟨kvs, h1, h2, h3, h4⟩ := h
  exact ⟨kvs, h1, h2, Nat.le_trans h3 hn, fun x => by rw [hs, h4]⟩
/-! ### the law of rows drawn late -/
def spLaidSome : Sp := fun vs H Q _ => ∃ (p : Addr) (T : Nat) (sty : Int) (gr : Bool), vs = [.ref p, .int sty, .bl gr] ∧ PotC H p T ∧ T < 2 ^ 36 ∧ 0 ≤ sty ∧ sty < 3 ∧
  ∀ H' c Ls, StrandAt H' c Ls → Ls.length ≤ 30 → (∀ L ∈ Ls, GoodL L) → (∀ L ∈ Ls, lastOf L ≤ 2 ^ 115) → PotC H' p (T + 4000) → Keep p p H H' → Q (.ref c) H'
/-- a list of the places and the place at last -/
def AnsAt (H : Hp) (o : Addr) (ms : List Int) (m : Int) : Prop := ∃ t, H o = some (.lst [.ref t, .int m]) ∧ H t = some (.tup (ms.map V.int))
def spDue22 : Sp := fun vs H Q _ => ∃ (a c : Addr) (low now : Int) (as : List Addr) (Ws : List Wi) (Ls : List Lw), vs = [.ref a, .int low, .ref c, .int now] ∧ H a = some (.tup (as.map V.ref)) ∧ RowAt H as Ws ∧ StrandAt H c Ls ∧ From Ls Ws low now ∧
  ∀ H' o ms m, Same H H' → H o = none → AnsAt H' o ms m → LateP Ls Ws low now ms → IsFirst (Ls ++ laidAll Ws ms) low now m → Q (.ref o) H'
def WayOk (way : Int) (Ls : List Lw) (now : Int) : Prop := (way = 0 ∧ Ls = [] ∧ now = 0) ∨ (way = 1 ∧ now = 0) ∨ way = 2 ∨ (way = 3 ∧ Ls = [])
def spTold22 : Sp := fun vs H Q _ => ∃ (a c : Addr) (low now way : Int) (as : List Addr) (Ws : List Wi) (Ls : List Lw), vs = [.ref a, .int low, .ref c, .int now, .int way] ∧ H a = some (.tup (as.map V.ref)) ∧ RowAt H as Ws ∧ StrandAt H c Ls ∧ From Ls Ws low now ∧ WayOk way Ls now ∧
  ∀ H' o ms m, Same H H' → AnsAt H' o ms m → LateP Ls Ws low now ms → IsFirst (Ls ++ laidAll Ws ms) low now m → Q (.ref o) H'
def spSame22 : Sp := fun vs H Q _ => ∃ (o o2 : Addr) (ms : List Int) (m : Int), vs = [.ref o, .ref o2] ∧ AnsAt H o ms m ∧ AnsAt H o2 ms m ∧ ms.length ≤ 60 ∧ ∀ H', Same H H' → Q (.bl true) H'
theorem AnsAt.same {H H' : Hp} {o : Addr} {ms : List Int} {m : Int} (h : AnsAt H o ms m) (s : Same H H') : AnsAt H' o ms m := by
  obtain ⟨t, h1, h2⟩ := h
  exact ⟨t, s _ _ h1, s _ _ h2⟩
theorem ints_d1' (ns : List Int) : (PyData.tuple (ns.map PyData.int)).depth ≤ 1 := by
  show PyData.depthAll (ns.map PyData.int) + 1 ≤ 1
  have : PyData.depthAll (ns.map PyData.int) ≤ 0 := depth_all fun x hx => by
    obtain ⟨n, _, rfl⟩ := List.mem_map.mp hx
    exact Nat.le_refl _
  omega
def LotAt (p R : Addr) (low : Int) (H : Hp) (e : Addr) : Prop := ∃ (r c o : Addr) (now way : Int) (as : List Addr) (Ws : List Wi) (Ls : List Lw) (ms : List Int) (m : Int), H e = some (.tup [.ref r, .ref c, .int now, .int way, .ref o]) ∧ H r = some (.tup (as.map V.ref)) ∧ RowAt H as Ws ∧ StrandAt H c Ls ∧ From Ls Ws low now ∧ WayOk way Ls now ∧ AnsAt H o ms m ∧ LateP Ls Ws low now ms ∧ IsFirst (Ls ++ laidAll Ws ms) low now m ∧ o ≠ p ∧ o ≠ R
theorem LotAt.go {p R : Addr} {low : Int} {H H' : Hp} {e : Addr} (h : LotAt p R low H e) (t : Tups H H') (k : ∀ o xs, o ≠ p → o ≠ R → H o = some (.lst xs) → H' o = some (.lst xs)) : LotAt p R low H' e := by
  obtain ⟨r, c, o, now, way, as, Ws, Ls, ms, m, h1, h2, h3, h4, h5, h6, ⟨u, h7, h7'⟩, h8, h9, h10, h11⟩ := h
  exact ⟨r, c, o, now, way, as, Ws, Ls, ms, m, t _ _ h1, t _ _ h2, h3.mono t, h4.mono t, h5, h6, ⟨u, k _ _ h10 h11 h7, t _ _ h7'⟩, h8, h9, h10, h11⟩
theorem LotAt.same {p R : Addr} {low : Int} {H H' : Hp} {e : Addr} (h : LotAt p R low H e) (s : Same H H') : LotAt p R low H' e := h.go (Tups.same s) fun o xs _ _ e => s _ _ e
theorem LotAt.keep {p R : Addr} {low : Int} {H H' : Hp} {e : Addr} {T : Nat} (h : LotAt p R low H e) (k : Keep p p H H') (hp : PotC H p T) : LotAt p R low H' e := h.go (k.tupsC hp) fun o xs n1 _ e => k.at n1 e
theorem LotAt.put {p R : Addr} {low : Int} {H : Hp} {e : Addr} {xs : List V} {v : HO} (h : LotAt p R low H e) (eR : H R = some (.lst xs)) : LotAt p R low (upd H R v) e := h.go (Tups.ls eR) fun o ys _ n2 e => (upd_ne n2).trans e
theorem RowAt.snoc {H : Hp} {as : List Addr} {Ws : List Wi} {a : Addr} {W : Wi} (h : RowAt H as Ws) (w : WispAt H a W.1 W.2) : RowAt H (as ++ [a]) (Ws ++ [W]) := by
  refine ⟨by rw [List.length_append, List.length_append, h.1]; rfl, fun i b hb => ?_⟩
  by_cases hi : i < as.length
  · rw [List.getElem?_append_left hi] at hb
    obtain ⟨V, h1, h2⟩ := h.2 i b hb
    exact ⟨V, by rw [List.getElem?_append_left (by rw [← h.1]; exact hi)]; exact h1, h2⟩
  · rw [List.getElem?_append_right (by omega)] at hb
    have hz : i - as.length = 0 := by
      cases hk : i - as.length with
      | zero => rfl
      | succ n =>
        rw [hk] at hb
        simp at hb
    rw [hz] at hb
    have : a = b := Option.some.inj hb
    subst this
    exact ⟨W, by rw [List.getElem?_append_right (by rw [← h.1]; omega), ← h.1, hz]; rfl, w⟩
theorem RowAt.nil {H : Hp} : RowAt H [] [] := ⟨rfl, fun i a e => by simp at e⟩
theorem From.empty {Ls : List Lw} {Ws : List Wi} {low now : Int} (h : From Ls Ws low now) : From [] Ws low now := ⟨by have := h.few; show 0 + Ws.length ≤ 60; omega, (fun L hL => by cases hL), h.gw, h.l1, h.n0, h.n1, fun L hL => by cases hL⟩
theorem From.zero {Ls : List Lw} {Ws : List Wi} {low now : Int} (h : From Ls Ws low now) : From Ls Ws low 0 := ⟨h.few, h.gl, h.gw, h.l1, Int.le_refl _, by decide, h.b⟩
def GoneAt (Ws : List Wi) (low : Int) (H : Hp) (t : Addr) : Prop := ∃ (way begun : Int) (c : Addr) (Ls : List Lw), H t = some (.tup [.int way, .ref c, .int begun]) ∧ StrandAt H c Ls ∧ WayOk way Ls begun ∧ From Ls Ws low begun
theorem GoneAt.mono {Ws : List Wi} {low : Int} {H H' : Hp} {t : Addr} (h : GoneAt Ws low H t) (u : Tups H H') : GoneAt Ws low H' t := by
  obtain ⟨way, begun, c, Ls, h1, h2, h3⟩ := h
  exact ⟨way, begun, c, Ls, u _ _ h1, h2.mono u, h3⟩
/-! ### min(.., default=..) of pairs and of whole numbers -/
def leP (p q : Int × Int) : Prop := p.1 < q.1 ∨ (p.1 = q.1 ∧ p.2 ≤ q.2)
theorem ltP_iff (p q : Int × Int) : PySem.W.DatumOrd.lt p q = true ↔ p.1 < q.1 ∨ (p.1 = q.1 ∧ p.2 < q.2) := by
  show (if p.1 = q.1 then decide (p.2 < q.2) else decide (p.1 < q.1)) = true ↔ _
  by_cases h : p.1 = q.1
  · rw [if_pos h, decide_eq_true_iff]
    omega
  · rw [if_neg h, decide_eq_true_iff]
    omega
theorem leastP : ∀ (ys : List (Int × Int)) (y : Int × Int), PySem.W.minOf y ys ∈ y :: ys ∧ ∀ p ∈ y :: ys, leP (PySem.W.minOf y ys) p
  | [], y => ⟨List.mem_cons_self, fun p hp => by
    have : p = y := List.mem_singleton.mp hp
    subst this
    exact .inr ⟨rfl, Int.le_refl _⟩⟩
  | z :: r, y => by
    have e : PySem.W.minOf y (z :: r) = PySem.W.minOf (if PySem.W.DatumOrd.lt z y = true then z else y) r := rfl
    rw [e]
    have ih := leastP r (if PySem.W.DatumOrd.lt z y = true then z else y)
    generalize hw : PySem.W.minOf (if PySem.W.DatumOrd.lt z y = true then z else y) r = w at ih
    have hy : leP (if PySem.W.DatumOrd.lt z y = true then z else y) y ∧ leP (if PySem.W.DatumOrd.lt z y = true then z else y) z := by
      by_cases h : PySem.W.DatumOrd.lt z y = true
      · rw [if_pos h]
        have := (ltP_iff z y).mp h
        unfold leP
        omega
      · rw [if_neg h]
        have : ¬ (z.1 < y.1 ∨ (z.1 = y.1 ∧ z.2 < y.2)) := fun c => h ((ltP_iff z y).mpr c)
        unfold leP
        omega
    have h0 := ih.2 _ List.mem_cons_self
    refine ⟨?_, fun p hp => ?_⟩
    · rcases List.mem_cons.mp ih.1 with h | h
      · rw [h]
        split
        · simp
        · simp
      · simp [h]
    · rcases List.mem_cons.mp hp with rfl | hp
      · have := hy.1
        unfold leP at *
        omega
      · rcases List.mem_cons.mp hp with rfl | hp
        · have := hy.2
          unfold leP at *
          omega
        · exact ih.2 p (List.mem_cons_of_mem _ hp)
def rMinP (K : PySem.W.Frag) : List V → List V → Hp → VK → Prop := fun xs zs H Q => ∃ (a : Addr) (as : List Addr) (ps : List (Int × Int)) (d : V), xs = [.ref a] ∧ zs = [d] ∧ SqL K H a (as.map V.ref) ∧ TupsAt H as (ps.map stepV) ∧ ps ≠ [] ∧
  ∀ (i : Nat) (b : Addr) (p : Int × Int), as[i]? = some b → ps[i]? = some p → (∀ q ∈ ps, leP p q) → Q (.ref b) H
theorem pairs_dp {K : PySem.W.Frag} {H : Hp} : ∀ {as : List Addr} {ps : List (Int × Int)}, TupsAt H as (ps.map stepV) → DpAll K H (as.map V.ref) (ps.map PySem.W.Datum.toD)
  | [], [], _ => .nil
  | [], p :: r, h => absurd h.1 (by simp)
  | a :: r, [], h => absurd h.1 (by simp)
  | a :: as, p :: ps, h => by
    obtain ⟨xs, h1, h2⟩ := h.2 0 a rfl
    have e : stepV p = xs := Option.some.inj h1
    subst e
    exact .cons (.tup (SqT.of h2) (.cons (.int _) (.cons (.int _) .nil))) (pairs_dp ⟨Nat.succ.inj (by simpa using h.1), fun i b hb => h.2 (i + 1) b hb⟩)
theorem call_minP {X : Cx} (hc : X.calm = true) (hu : X.A.units + 64 < cLine) : CallRK X (.builtin "min") ["default"] (rMinP X.K) := by
  intro pins s σ H xs zs us ws Q I va vz h
  obtain ⟨a, as, ps, d, rfl, rfl, hs, tu, hne, q⟩ := h
  obtain ⟨its, rv, hl, _⟩ := I.list hs
  rw [Vals.ref1 va]
  cases vz with
  | cons r1 r2 =>
  cases r2
  obtain ⟨bs, rs⟩ := Dp.readsAll I (ps.map PySem.W.Datum.toD) (as.map V.ref) its (pairs_dp tu) rv
  refine PySem.W.min_list_datum_default (xs := ps) (I.ok.hd hc) hl.isList ⟨bs, by simpa using rs⟩ ?_ (fun e => absurd e hne) fun y ys i v h' tk e hi hold hk => ?_
  · show X.A.units + 1 + 1 < cLine
    omega
  · have hi' : its[i]? = some v := by simpa using hi
    obtain ⟨b, eb, rb⟩ : ∃ b, as[i]? = some b ∧ v = .ref b := by
      have hlen : its.length = (as.map V.ref).length := rv.length.symm
      have li := (List.getElem?_eq_some_iff.mp hi').1
      have lj : i < as.length := by rw [List.length_map] at hlen; omega
      have e2 : (as.map V.ref)[i]? = some (V.ref as[i]) := by rw [List.getElem?_map, List.getElem?_eq_getElem lj]; rfl
      obtain ⟨u, eu, ru⟩ := rv.get e2
      rw [hi'] at eu
      have := Option.some.inj eu
      subst this
      cases ru
      exact ⟨_, List.getElem?_eq_getElem lj, rfl⟩
    subst rb
    obtain ⟨p, ep, hp⟩ := PySem.W.HoldAll.at (xs := ps) ⟨bs, rs⟩ hi'
    obtain ⟨c1, k1⟩ := hp.keeps hk
    obtain ⟨c2, k2⟩ := hold
    have eq : PySem.W.Datum.toD p = PySem.W.Datum.toD (PySem.W.minOf y ys) := (k1.unique _ _ k2).1
    have eq : p = PySem.W.minOf y ys := by
      obtain ⟨p1, p2⟩ := p
      generalize PySem.W.minOf y ys = m at eq
      obtain ⟨m1, m2⟩ := m
      have eq : PyData.tuple [.int p1, .int p2] = .tuple [.int m1, .int m2] := eq
      injection eq with eq
      injection eq with e1 e2
      injection e2 with e2 _
      injection e1 with e1
      injection e2 with e2
      rw [e1, e2]
    refine ⟨.ref b, H, I.kept hk, rfl, q i b p eb ep fun z hz => ?_⟩
    rw [eq]
    rw [e] at hz
    exact (leastP ys y).2 z hz
/-! ### min(.., default=..) of whole numbers; a tuple turned about -/
theorem leastI : ∀ (ys : List Int) (y : Int), PySem.W.minOf y ys ∈ y :: ys ∧ ∀ p ∈ y :: ys, PySem.W.minOf y ys ≤ p
  | [], y => ⟨List.mem_cons_self, fun p hp => by
    have : p = y := List.mem_singleton.mp hp
    subst this
    exact Int.le_refl _⟩
  | z :: r, y => by
    have e : PySem.W.minOf y (z :: r) = PySem.W.minOf (if decide (z < y) = true then z else y) r := rfl
    rw [e]
    have ih := leastI r (if decide (z < y) = true then z else y)
    generalize PySem.W.minOf (if decide (z < y) = true then z else y) r = w at ih
    have h0 := ih.2 _ List.mem_cons_self
    have hy : (if decide (z < y) = true then z else y) ≤ y ∧ (if decide (z < y) = true then z else y) ≤ z := by
      by_cases h : z < y
      · rw [if_pos (decide_eq_true h)]
        omega
      · rw [if_neg (by intro c; exact h (of_decide_eq_true c))]
        omega
    refine ⟨?_, fun p hp => ?_⟩
    · rcases List.mem_cons.mp ih.1 with h | h
      · rw [h]
        split <;> simp
      · simp [h]
    · rcases List.mem_cons.mp hp with rfl | hp
      · omega
      · rcases List.mem_cons.mp hp with rfl | hp
        · omega
        · exact ih.2 p (List.mem_cons_of_mem _ hp)
def rMinN (K : PySem.W.Frag) : List V → List V → Hp → VK → Prop := fun xs zs H Q => ∃ (a : Addr) (ns : List Int) (d : V), xs = [.ref a] ∧ zs = [d] ∧ SqL K H a (ns.map V.int) ∧ (ns = [] → Q d H) ∧ ∀ m, m ∈ ns → (∀ y ∈ ns, m ≤ y) → Q (.int m) H
theorem call_minN {X : Cx} (hc : X.calm = true) (hu : X.A.units + 64 < cLine) : CallRK X (.builtin "min") ["default"] (rMinN X.K) := by
  intro pins s σ H xs zs us ws Q I va vz h
  obtain ⟨a, ns, d, rfl, rfl, hs, q0, q⟩ := h
  obtain ⟨its, rv, hl, _⟩ := I.list hs
  rw [Vals.ref1 va]
  cases vz with
  | cons r1 r2 =>
  cases r2
  obtain ⟨bs, rs⟩ := Dp.readsAll I (ns.map PyData.int) (ns.map V.int) its (ints_dp ns) rv
  have rs : ReadsAll s.heap its (ns.map PySem.W.Datum.toD) bs := rs
  refine PySem.W.min_list_datum_default (xs := ns) (I.ok.hd hc) hl.isList ⟨bs, by simpa using rs⟩ ?_ (fun e h' tk hk => ⟨d, H, I.kept hk, r1, q0 e⟩) fun y ys i v h' tk e hi hold hk => ?_
  · show X.A.units + 1 + 0 < cLine
    omega
  · obtain ⟨c2, k2⟩ := hold
    have k2 : Reads h' v (.int (PySem.W.minOf y ys)) c2 := k2
    have hm := leastI ys y
    rw [← e] at hm
    generalize PySem.W.minOf y ys = M at k2 hm
    cases k2
    exact ⟨.int M, H, I.kept hk, ⟨_, rfl⟩, q M hm.1 hm.2⟩
/-! ### a tuple turned about -/
theorem fm_map {α β : Type} (f : α → Option β) (g : α → β) : ∀ l : List α, (∀ x ∈ l, f x = some (g x)) → l.filterMap f = l.map g
  | [], _ => rfl
  | x :: r, h => by
    rw [List.filterMap_cons, h x List.mem_cons_self]
    show g x :: r.filterMap f = g x :: r.map g
    rw [fm_map f g r fun y hy => h y (List.mem_cons_of_mem _ hy)]
theorem pickRev (xs : Array Value) : ((List.range xs.size).filterMap fun (k : Nat) => xs[(((xs.size : Int) - 1) + (k : Int) * (-1)).toNat]?).toArray = xs.toList.reverse.toArray := by
  have hat : ∀ k : Nat, k < xs.size → xs[(((xs.size : Int) - 1) + (k : Int) * (-1)).toNat]? = xs.toList.reverse[k]? := fun k hk => by
    rw [List.getElem?_reverse (by rw [Array.length_toList]; exact hk), Array.getElem?_toList, Array.length_toList, show (((xs.size : Int) - 1) + (k : Int) * (-1)).toNat = xs.size - 1 - k by omega]
  rw [fm_map _ (fun k => (xs.toList.reverse[k]?).getD .none) _ fun k hk => by
    have hk := List.mem_range.mp hk
    rw [hat k hk, List.getElem?_eq_getElem (by rw [List.length_reverse, Array.length_toList]; exact hk)]
    rfl]
  congr 1
  apply List.ext_getElem?
  intro i
  rw [List.getElem?_map]
  by_cases hi : i < xs.size
  · have hr : i < xs.toList.reverse.length := by
      rw [List.length_reverse, Array.length_toList]
      exact hi
    rw [List.getElem?_range hi]
    show some ((xs.toList.reverse[i]?).getD .none) = _
    rw [List.getElem?_eq_getElem hr]
    rfl
  · rw [List.getElem?_eq_none (by rw [List.length_range]; omega), List.getElem?_eq_none (by rw [List.length_reverse, Array.length_toList]; omega)]
    rfl
section
variable {P : Program} {w : World} {A : Around} {E : Value → Shared → Prop} {s : Shared}
theorem appliedRev {sl : Addr} {tk : Tok} {n : Nat} {Q : Int × Int × Nat → Shared → Prop} (hs : s.heap.IsSliceOf sl .none .none (.int (-1) tk)) (h : Q ((n : Int) - 1, -1, n) s) : wpAny (model P w) A (Builtin.Slice.sliceApplied (.ref sl) (pure (n : Int))) Q E s := by
  obtain ⟨os, o1, o2, o3⟩ := id hs
  unfold Builtin.Slice.sliceApplied Builtin.Slice.sliceFields
  refine wpAny_bind (wpAny_bind (wpAny_field o1 o3 (x := .none) rfl (wpAny_bind (wpAny_field o1 o3 (x := .none) rfl (wpAny_bind (wpAny_field o1 o3 (x := .int (-1) tk) rfl (wpAny_pure ?_)))))))
  refine wpAny_bind (HT.slicePart_ (IsPart.int (-1) tk) ?_)
  show wpAny _ _ (if ((-1 : Int) == 0) = true then _ else _) _ _ s
  rw [if_neg (by decide)]
  refine wpAny_bind (HT.slicePart_ IsPart.none (wpAny_bind (HT.slicePart_ IsPart.none (wpAny_bind (wpAny_pure ?_)))))
  show wpAny _ _ (match Builtin.Slice.sliceAdjust none none (-1) (n : Int) with | (lo, hi) => pure (lo, (-1 : Int), Builtin.Slice.slicePlaces lo hi (-1))) _ _ s
  have e1 : Builtin.Slice.sliceAdjust none none (-1) (n : Int) = ((n : Int) - 1, -1) := rfl
  have e2 : Builtin.Slice.slicePlaces ((n : Int) - 1) (-1) (-1) = n := by
    unfold Builtin.Slice.slicePlaces
    simp
    omega
  rw [e1]
  show wpAny _ _ (pure ((n : Int) - 1, (-1 : Int), Builtin.Slice.slicePlaces ((n : Int) - 1) (-1) (-1))) _ _ s
  rw [e2]
  exact wpAny_pure h
theorem itemRev {t sl : Addr} {items : Array Value} {tk : Tok} {Q : Value → Shared → Prop} (ht : IsTup s.heap t items) (hs : s.heap.IsSliceOf sl .none .none (.int (-1) tk))
    (h : Q (.ref s.heap.objs.size) { s with heap := s.heap.push { cls := .type "tuple", data := .seq items.toList.reverse.toArray } }) (hsz : items.size ≤ sizeLine) : wpAny (model P w) A (getItem (.ref t) (.ref sl)) Q E s := by
  have fits : sizeOk (.seq items.toList.reverse.toArray) := by
    show items.toList.reverse.toArray.size ≤ sizeLine
    rw [List.size_toArray, List.length_reverse, Array.length_toList]
    exact hsz
  obtain ⟨os, o1, o2, o3⟩ := id hs
  have ty : s.TypeIs (.ref sl) "slice" := ⟨os, o1, o2⟩
  unfold getItem
  try with_reducible refine wpAny_holding ?_
  first | refine wpAny_bind (wpAny_pure ?_) | skip
  refine wpAny_bind (wpAny_sequenceKey ht.typeIs (by decide) ?_)
  refine wpAny_bind (wpAny_callSpecial?_slot (name := Str.ofString "__getitem__") ht.typeIs PyProof.Rows.slot_tuple_getitem
    (wpAny_call_entry PyProof.Rows.slot_tuple_getitem ht.typeIs entry_tuple_getitem ?_ (args_tuple_getitem _ _)))
  show wpAny _ _ (Builtin.Tuple.tupleItemsOf (.ref t) >>= _) _ _ s
  refine wpAny_bind (tupleItemsOf_ ht (wpAny_bind (wpAny_typeOf ty ?_)))
  rw [if_pos (by decide)]
  refine wpAny_bind (appliedRev hs ?_)
  have no : ¬ ((((items.size : Int) - 1) == 0 && (-1 : Int) == 1 && items.size == items.size) = true) := by
    intro q
    rw [Bool.and_eq_true, Bool.and_eq_true] at q
    exact absurd q.1.2 (by decide)
  show wpAny _ _ (if (((items.size : Int) - 1) == 0 && (-1 : Int) == 1 && items.size == items.size) = true then _ else _) _ _ s
  rw [if_neg no, pickRev]
  first
    | exact wpAny_bind (m := Builtin.Tuple.tupleExact _) (wpAny_newObj_type (wpAny_pure ⟨_, rfl, wpAny_pure h⟩) fits)
    | exact wpAny_bind (wpAny_bind (m := Builtin.Tuple.tupleExact _) (wpAny_newObj_type (wpAny_pure (wpAny_pure ⟨_, rfl, wpAny_pure h⟩)) fits))
    | exact wpAny_bind (wpAny_bind (m := Builtin.Tuple.tupleExact _) (wpAny_newObj_type (wpAny_pure ⟨_, rfl, wpAny_pure h⟩) fits))
end
section
variable {X : Cx}
def tRevT (K : PySem.W.Frag) (te : TE) : TE := fun σ H Q => te σ H fun x H1 => ∃ a xs, x = .ref a ∧ SqT K H1 a xs ∧ ∀ p, H1 p = none → Q (.ref p) (upd H1 p (.tup xs.reverse))
theorem pe_revT {e : Expr} {te : TE} {k : Nat} {p1 p2 p3 pos : Pos} (he : PE X e te) : PE X (.Subscript e (.Slice none none (some (.UnaryOp .USub (.Constant (.int 1) k p1) p2)) p3) pos) (tRevT X.K te) := by
  constructor
  intro pins s σ H Q I h
  refine Subscript_ (thn (he.run pins s σ H _ I h) fun v s1 hz => ?_)
  obtain ⟨x, H1, I1, r1, a, xs, ex, hx, q⟩ := hz
  subst ex
  cases r1
  refine wpAny_Slice (thn (po_none.run pins s1 σ H1 (fun o H2 => o = none ∧ H2 = H1) I1 ⟨rfl, rfl⟩) fun vl s2 hz => ?_)
  obtain ⟨l, H2, I2, pl, rfl, rfl⟩ := hz
  refine thn (po_none.run pins s2 σ H2 (fun o H3 => o = none ∧ H3 = H2) I2 ⟨rfl, rfl⟩) fun vu s3 hz => ?_
  obtain ⟨u, H3, I3, pu, rfl, rfl⟩ := hz
  refine thn ((po_some (pe_un un_neg pe_int)).run pins s3 σ H3 (fun o H4 => o = some (-1) ∧ H4 = H3) I3 ⟨1, rfl, -1, rfl, rfl, rfl⟩) fun vs s4 hz => ?_
  obtain ⟨o, H4, I4, ps, rfl, rfl⟩ := hz
  cases pl
  cases pu
  cases ps
  rename_i tk
  have I5 : Inv X pins σ H4 { s4 with heap := s4.heap.push { cls := .type "slice", data := .fields #[.none, .none, .int (-1) tk] } } := I4.kept (t' := s4.toks) fun b ob q => Heap.get?_push_of_some _ q
  obtain ⟨its, r, ht, hz⟩ := I5.tuple hx
  have hlen := r.length
  show wpAny (model X.prog X.w) X.A (subscriptTail e (.Slice none none (some (.UnaryOp .USub (.Constant (.int 1) k p1) p2)) p3) (.ref a) (.ref s4.heap.objs.size)) (EP X pins σ Q) X.xe { s4 with heap := s4.heap.push { cls := .type "slice", data := .fields #[.none, .none, .int (-1) tk] } }
  refine tail_any (ops := [.ref a, .ref s4.heap.objs.size]) ht.typeIs PyProof.Rows.slot_tuple_getitem.lookup ?_ (by with_unfolding_all rfl)
  refine itemRev ht (Heap.IsSliceOf.new _ .none .none (.int (-1) tk)) ?_ (by rw [List.size_toArray]; omega)
  refine ⟨.ref _, _, I5.laid (t' := s4.toks) (o := .tup xs.reverse) (fun b ob q => Heap.get?_push_of_some _ q) (Nat.le_refl _) ?_, rfl, q _ (I5.hok.fresh (Nat.le_refl _))⟩
  exact ⟨by rw [List.length_reverse]; exact hz, _, r.reverse, IsTup.new _ _⟩
end
/-! ### breaks -/
def nextB (bs : List (Int × Int)) (m : Int) : Option Int := (bs.map (·.1)).find? fun k => decide (m < k)
def GoodB (bs : List (Int × Int)) : Prop := bs.length ≤ 20 ∧ (bs.map (·.1)).Pairwise (· < ·) ∧ ∀ b ∈ bs, 0 ≤ b.1 ∧ b.1 < 2 ^ 120
def BrAt (H : Hp) (a : Addr) (bs : List (Int × Int)) : Prop := ∃ as, H a = some (.tup (as.map V.ref)) ∧ TupsAt H as (bs.map stepV)
theorem BrAt.mono {H H' : Hp} {a : Addr} {bs : List (Int × Int)} (h : BrAt H a bs) (t : Tups H H') : BrAt H' a bs := by
  obtain ⟨as, h1, h2⟩ := h
  exact ⟨as, t _ _ h1, h2.mono t⟩
theorem find_yes {m n : Int} (r : List Int) (c : m < n) : (n :: r).find? (fun k => decide (m < k)) = some n := by simp [List.find?_cons, c]
theorem find_skip {m n : Int} (r : List Int) (c : ¬ m < n) : (n :: r).find? (fun k => decide (m < k)) = r.find? fun k => decide (m < k) := by simp [List.find?_cons, c]
theorem find_least {m x : Int} : ∀ ns : List Int, ns.Pairwise (· < ·) → x ∈ ns → m < x → (∀ y ∈ ns, m < y → x ≤ y) → ns.find? (fun k => decide (m < k)) = some x
  | [], _, h, _, _ => by cases h
  | n :: r, hp, h, h1, h2 => by
    obtain ⟨p1, p2⟩ := List.pairwise_cons.mp hp
    by_cases c : m < n
    · have hx := h2 n List.mem_cons_self c
      have e : x = n := by
        rcases List.mem_cons.mp h with e | e
        · exact e
        · have := p1 x e
          omega
      rw [find_yes r c, e]
    · rw [find_skip r c]
      rcases List.mem_cons.mp h with e | e
      · omega
      · exact find_least r p2 e h1 fun y hy => h2 y (List.mem_cons_of_mem _ hy)
theorem find_no {m : Int} : ∀ ns : List Int, (∀ y ∈ ns, ¬ m < y) → ns.find? (fun k => decide (m < k)) = none
  | [], _ => rfl
  | n :: r, h => by
    rw [find_skip r (h n List.mem_cons_self)]
    exact find_no r fun y hy => h y (List.mem_cons_of_mem _ hy)
theorem next_cons (b : Int × Int) (r : List (Int × Int)) (m : Int) : nextB (b :: r) m = if m < b.1 then some b.1 else nextB r m := by
  unfold nextB
  rw [List.map_cons]
  by_cases c : m < b.1
  · rw [if_pos c, find_yes _ c]
  · rw [if_neg c, find_skip _ c]
theorem next_of {bs : List (Int × Int)} {m n : Int} (h : nextB bs m = some n) : m < n ∧ n ∈ bs.map (·.1) := by
  unfold nextB at h
  have h1 := List.find?_some h
  exact ⟨of_decide_eq_true h1, List.mem_of_find?_eq_some h⟩
theorem next_le {bs : List (Int × Int)} (g : (bs.map (·.1)).Pairwise (· < ·)) {m k : Int} (hk : k ∈ bs.map (·.1)) (h : m < k) : ∃ n, nextB bs m = some n ∧ n ≤ k := by
  unfold nextB
  generalize bs.map (·.1) = ns at g hk
  induction ns with
  | nil => cases hk
  | cons x r ih =>
    obtain ⟨p1, p2⟩ := List.pairwise_cons.mp g
    by_cases c : m < x
    · refine ⟨x, find_yes r c, ?_⟩
      rcases List.mem_cons.mp hk with e | e
      · omega
      · have := p1 k e
        omega
    · rw [find_skip r c]
      rcases List.mem_cons.mp hk with e | e
      · omega
      · exact ih p2 e
def brkL (bs : List (Int × Int)) (L : Lw) : Lw := ⟨L.so, L.ps, L.pl, nextB bs L.pl⟩
def laysB (bs : List (Int × Int)) (Ws : List Wi) (ms : List Int) : List Lw := (laidAll Ws ms).map (brkL bs)
theorem laysB_none (Ws : List Wi) (ms : List Int) : laysB [] Ws ms = laidAll Ws ms := by
  unfold laysB
  have : ∀ L ∈ laidAll Ws ms, brkL [] L = L := fun L hL => by
    obtain ⟨W, _, m, _, rfl⟩ := laidAll_mem hL
    rfl
  calc (laidAll Ws ms).map (brkL []) = (laidAll Ws ms).map id := List.map_congr_left this
    _ = laidAll Ws ms := List.map_id _
def spNextBreak : Sp := fun vs H Q _ => ∃ (m : Int) (b : Addr) (bs : List (Int × Int)), vs = [.int m, .ref b] ∧ BrAt H b bs ∧ GoodB bs ∧ ∀ H', Same H H' → Q (letV (nextB bs m)) H'
def spWithB : Sp := fun vs H Q _ => ∃ (a c b : Addr) (as : List Addr) (Ws : List Wi) (ms : List Int) (bs : List (Int × Int)), vs = [.ref a, .ref c, .ref b] ∧ H a = some (.tup (as.map V.ref)) ∧ RowAt H as Ws ∧ H c = some (.tup (ms.map V.int)) ∧ Ws.length = ms.length ∧ Ws.length ≤ 60 ∧ BrAt H b bs ∧ GoodB bs ∧
  ∀ H' o, Same H H' → H o = none → StrandAt H' o (laysB bs Ws ms) → Q (.ref o) H'
def spSomeBreaks : Sp := fun vs H Q _ => ∃ (p : Addr) (T : Nat) (most : Int) (far : Bool), vs = [.ref p, .int most, .bl far] ∧ PotC H p T ∧ T < 2 ^ 37 ∧ 0 ≤ most ∧ most ≤ 20 ∧
  ∀ H' o bs, PotC H' p (T + 50) → Keep p p H H' → BrAt H' o bs → GoodB bs → H o = none → Q (.ref o) H'
def spOneStep : Sp := fun vs H Q _ => ∃ (p : Addr) (T : Nat), vs = [.ref p] ∧ PotC H p T ∧ T < 2 ^ 38 ∧
  ∀ H' a (W : Wi), WispAt H' a W.1 W.2 → GoodW W → H a = none → PotC H' p (T + 3) → Keep p p H H' → Q (.ref a) H'
def spMoments : Sp := fun vs H Q _ => ∃ (p : Addr) (T : Nat) (many : Int) (b : Addr) (bs : List (Int × Int)), vs = [.ref p, .int many, .ref b] ∧ PotC H p T ∧ T < 2 ^ 37 ∧ 0 ≤ many ∧ many ≤ 60 ∧ BrAt H b bs ∧ GoodB bs ∧
  ∀ H' o (ms : List Int), PotC H' p (T + 130) → Keep p p H H' → H' o = some (.tup (ms.map V.int)) → (ms.length : Int) = many → (∀ m ∈ ms, 0 ≤ m ∧ m < 2 ^ 121) → H o = none → Q (.ref o) H'
def spDue35 : Sp := fun vs H Q _ => ∃ (a c b : Addr) (as : List Addr) (Ws : List Wi) (ms : List Int) (bs : List (Int × Int)), vs = [.ref a, .ref c, .ref b] ∧ H a = some (.tup (as.map V.ref)) ∧ RowAt H as Ws ∧ H c = some (.tup (ms.map V.int)) ∧ Ws.length = ms.length ∧ Ws.length ≤ 60 ∧ BrAt H b bs ∧ bs.length ≤ 20 ∧
  ∀ H' o, Same H H' → H o = none → StrandAt H' o (laysB bs Ws ms) → Q (.ref o) H'
theorem TupsAt.rev {H : Hp} {as : List Addr} {bs : List (Int × Int)} (h : TupsAt H as (bs.map stepV)) : TupsAt H as.reverse (bs.reverse.map stepV) := by
  have hl : as.length = bs.length := by rw [h.1, List.length_map]
  refine ⟨by simp [hl], fun i a ha => ?_⟩
  have hi : i < as.length := by
    have := (List.getElem?_eq_some_iff.mp ha).1
    simpa using this
  rw [List.getElem?_reverse hi] at ha
  obtain ⟨xs, h1, h2⟩ := h.2 _ a ha
  refine ⟨xs, ?_, h2⟩
  rw [List.map_reverse, List.getElem?_reverse (by simp; omega)]
  simpa [hl] using h1
theorem walk_zipT {K : PySem.W.Frag} {a b : Addr} {xs ys : List V} (hl : xs.length = ys.length) : Walk (RZ.ItzT K a b) xs.length (fun H => SqT K H a xs ∧ SqT K H b ys) (YPair (fun i => xs[i]?) (fun i => ys[i]?)) where
  goes i H hi q := ⟨xs, ys, xs[i], ys[i]'(hl ▸ hi), q.1, q.2, List.getElem?_eq_getElem hi, List.getElem?_eq_getElem (hl ▸ hi)⟩
  stops H q := ⟨xs, ys, q.1, q.2, .inl (Nat.le_refl _)⟩
  yields i H v H' _ q y := by
    obtain ⟨c, x, z, k1, k2, k3, k4, k5⟩ := y
    exact ⟨c, x, z, k1, k2, k3, k4 xs q.1, k5 ys q.2⟩
theorem drop_back {bs : List (Int × Int)} {i : Nat} {b : Int × Int} (h : bs.reverse[i]? = some b) : bs.drop (bs.length - (i + 1)) = b :: bs.drop (bs.length - i) := by
  have hi : i < bs.length := by
    have := (List.getElem?_eq_some_iff.mp h).1
    simpa using this
  rw [List.getElem?_reverse hi] at h
  obtain ⟨h1, h2⟩ := List.getElem?_eq_some_iff.mp h
  rw [show bs.length - (i + 1) = bs.length - 1 - i by omega, List.drop_eq_getElem_cons h1, h2, show bs.length - 1 - i + 1 = bs.length - i by omega]
theorem laysB_mem {bs : List (Int × Int)} {Ws : List Wi} {ms : List Int} {L : Lw} (h : L ∈ laysB bs Ws ms) : ∃ W ∈ Ws, ∃ m ∈ ms, L = brkL bs (laidOf W m) := by
  obtain ⟨M, hM, rfl⟩ := List.mem_map.mp h
  obtain ⟨W, hW, m, hm, rfl⟩ := laidAll_mem hM
  exact ⟨W, hW, m, hm, rfl⟩
theorem laysB_good {bs : List (Int × Int)} {Ws : List Wi} {ms : List Int} (gb : GoodB bs) (gw : ∀ W ∈ Ws, GoodW W) (gm : ∀ m ∈ ms, 0 ≤ m ∧ m < 2 ^ 121) : ∀ L ∈ laysB bs Ws ms, GoodL L := fun L hL => by
  obtain ⟨W, hW, m, hm, rfl⟩ := laysB_mem hL
  have g := gw W hW
  have b := gm m hm
  refine ⟨g.1, g.2.1, g.2.2.1, b.1, Int.lt_trans b.2 (by decide), fun n e => ?_⟩
  obtain ⟨n1, n2⟩ := next_of (bs := bs) (m := m) (n := n) e
  obtain ⟨x, hx, rfl⟩ := List.mem_map.mp n2
  exact ⟨n1, Int.lt_trans (gb.2.2 x hx).2 (by decide)⟩
theorem thickS_zero : ∀ {Ls : List Lw} {p : Int}, (∀ L ∈ Ls, thickL L p = 0) → thickS Ls p = 0
  | [], _, _ => rfl
  | L :: r, p, h => by
    have e : thickS (L :: r) p = thickL L p + thickS r p := rfl
    rw [e, h L List.mem_cons_self, thickS_zero fun M hM => h M (List.mem_cons_of_mem _ hM)]
    rfl
theorem laysB_cut {bs : List (Int × Int)} {Ws : List Wi} {ms : List Int} (gb : GoodB bs) {k : Int} (hk : k ∈ bs.map (·.1)) : thickS ((laysB bs Ws ms).filter fun L => decide (L.pl < k)) k = 0 := by
  refine thickS_zero fun L hL => ?_
  obtain ⟨h1, h2⟩ := List.mem_filter.mp hL
  have h2 : L.pl < k := of_decide_eq_true h2
  obtain ⟨W, hW, m, hm, rfl⟩ := laysB_mem h1
  have h2 : m < k := h2
  obtain ⟨n, e, hn⟩ := next_le gb.2.1 hk h2
  show (if k < m then 0 else match nextB bs m with | none => thickAt W.2 (k - m) | some n => if n ≤ k then 0 else thickAt W.2 (k - m)) = 0
  rw [e]
  show (if k < m then 0 else if n ≤ k then 0 else thickAt W.2 (k - m)) = 0
  rw [if_neg (by omega), if_pos hn]
/-- row, moments, breaks and the strand that is due -/
def LotB (H : Hp) (e : Addr) : Prop := ∃ (r c b d : Addr) (as : List Addr) (Ws : List Wi) (ms : List Int) (bs : List (Int × Int)), H e = some (.tup [.ref r, .ref c, .ref b, .ref d]) ∧ H r = some (.tup (as.map V.ref)) ∧ RowAt H as Ws ∧ H c = some (.tup (ms.map V.int)) ∧ Ws.length = ms.length ∧ Ws.length ≤ 60 ∧ (∀ W ∈ Ws, GoodW W) ∧ (∀ m ∈ ms, 0 ≤ m ∧ m < 2 ^ 121) ∧ BrAt H b bs ∧ GoodB bs ∧ StrandAt H d (laysB bs Ws ms)
theorem LotB.mono {H H' : Hp} {e : Addr} (h : LotB H e) (t : Tups H H') : LotB H' e := by
  obtain ⟨r, c, b, d, as, Ws, ms, bs, h1, h2, h3, h4, h5, h6, h7, h8, h9, h10, h11⟩ := h
  exact ⟨r, c, b, d, as, Ws, ms, bs, t _ _ h1, t _ _ h2, h3.mono t, t _ _ h4, h5, h6, h7, h8, h9.mono t, h10, h11.mono t⟩
theorem GoodB.nil : GoodB [] := ⟨Nat.zero_le _, List.Pairwise.nil, fun b hb => by cases hb⟩
theorem strand_ne {K : PySem.W.Frag} {H : Hp} {a b : Addr} {Ls : List Lw} {Q : VK} (ha : StrandAt H a Ls) (hb : StrandAt H b Ls) (g : ∀ L ∈ Ls, GoodL L) (q : Q (.bl false) H) : rNeD K (.ref a) (.ref b) H Q := by
  have sh := (strand_sh g).shaped (Nat.le_trans (strand_depth Ls) (by decide))
  refine ⟨strandD Ls, strandD Ls, ha.dp, hb.dp, sh, sh, ?_⟩
  rw [SeqAt.eqv_refl _ (SeqAt.canLay_of_shaped sh)]
  exact q
/-! ### zip where the second one is no longer -/
theorem lcZipS {K : PySem.W.Frag} {a b : Addr} {xs ys : List V} {g : TG} {tt : TT} {te : TE} {us : List Nat} {σ : L2.St} {H1 : Hp} {D : Addr} {Qd : Hp → Prop} (hl : ys.length ≤ xs.length) (Pv : Nat → Hp → Prop) (h0 : Pv 0 (upd H1 D (.lst []))) (hq : ∀ i H, Pv i H → SqT K H a xs ∧ SqT K H b ys)
    (hs : ∀ i x y T H, xs[i]? = some x → ys[i]? = some y → H T = none → Pv i H → g (.ref T) (wipe σ us) (upd H T (.tup [x, y])) fun σ2 H2 => wipe σ2 us = wipe σ us ∧ tt σ2 H2 fun c H3 =>
      if c = true then te σ2 H3 fun y H4 => ∃ acc, H4 D = some (.lst acc) ∧ acc.length < sizeLine ∧ Pv (i + 1) (upd H4 D (.lst (acc ++ [y]))) else Pv (i + 1) H3) (hd : ∀ H, Pv ys.length H → Qd H) :
    ∃ W : Nat → Nat → Hp → Prop, (∃ m, W 0 m (upd H1 D (.lst []))) ∧ ∀ i m H, W i m H →
      ((RZ.ItzT K a b).stop i H ∧ Qd H) ∨ ((RZ.ItzT K a b).go i H ∧ ∃ Nx : Hp → Prop, (∀ H', Nx H' → ∃ m', m' < m ∧ W (i + 1) m' H') ∧ ∀ x H', (RZ.ItzT K a b).yld i H x H' → g x (wipe σ us) H' fun σ2 H2 => wipe σ2 us = wipe σ us ∧ tt σ2 H2 fun c H3 =>
        if c = true then te σ2 H3 fun y H4 => ∃ acc, H4 D = some (.lst acc) ∧ acc.length < sizeLine ∧ Nx (upd H4 D (.lst (acc ++ [y]))) else Nx H3) := by
  refine ⟨fun i m H => i + m = ys.length ∧ Pv i H, ⟨ys.length, Nat.zero_add _, h0⟩, fun i m H ⟨em, p⟩ => ?_⟩
  obtain ⟨q1, q2⟩ := hq i H p
  by_cases hi : i < ys.length
  · have g1 : xs[i]? = some (xs[i]'(by omega)) := List.getElem?_eq_getElem (by omega)
    have g2 : ys[i]? = some ys[i] := List.getElem?_eq_getElem hi
    refine .inr ⟨⟨xs, ys, _, _, q1, q2, g1, g2⟩, Pv (i + 1), fun H' p' => ⟨m - 1, by omega, by omega, p'⟩, fun v H' hy => ?_⟩
    obtain ⟨T, x, y, rfl, nT, rfl, f1, f2⟩ := hy
    exact hs i x y T H (f1 _ q1) (f2 _ q2) nT p
  · have e : i = ys.length := by omega
    subst e
    exact .inl ⟨⟨xs, ys, q1, q2, .inr (Nat.le_refl _)⟩, hd H p⟩
theorem cut_tail (xs : List V) : cutV xs (some 1) none = xs.drop 1 := by
  unfold cutV
  have h : HT.sIx xs.length 0 (some 1) = min 1 xs.length := HT.sIx_nat xs.length 0 1
  rw [h]
  cases xs with
  | nil => rfl
  | cons x r =>
    show ((x :: r).drop (min 1 (r.length + 1))).take (r.length + 1 - min 1 (r.length + 1)) = r
    rw [show min 1 (r.length + 1) = 1 by omega]
    show r.take (r.length + 1 - 1) = r
    simp
/-! ### things of any kind -/
section
variable {B : Int}
abbrev topB : Int := 2 ^ 250
inductive Th where
  | int (n : Int)
  | bl (b : Bool)
  | oth
  | tup (ts : List Th)
/-- what such a thing is in the heap -/
inductive ThAt (B : Int) (H : Hp) : V → Th → Prop where
  | int (n : Int) (h1 : -B ≤ n) (h2 : n ≤ B) : ThAt B H (.int n) (.int n)
  | bl (b : Bool) : ThAt B H (.bl b) (.bl b)
  | non : ThAt B H .non .oth
  | str (z : Str) : ThAt B H (.str z) .oth
  | lst {a : Addr} {xs : List V} (e : H a = some (.lst xs)) : ThAt B H (.ref a) .oth
  | dic {a : Addr} {kvs : List (Key × V)} (e : H a = some (.dK kvs)) : ThAt B H (.ref a) .oth
  | tup {a : Addr} {vs : List V} {ts : List Th} (e : H a = some (.tup vs)) (hl : vs.length = ts.length) (h : ∀ (i : Nat) (v : V) (t : Th), vs[i]? = some v → ts[i]? = some t → ThAt B H v t) : ThAt B H (.ref a) (.tup ts)
/-- tuples stay, lists stay lists, dicts stay dicts -/
def Kinds (H H' : Hp) : Prop := Tups H H' ∧ (∀ a xs, H a = some (.lst xs) → ∃ ys, H' a = some (.lst ys)) ∧ ∀ a kvs, H a = some (.dK kvs) → ∃ kvs', H' a = some (.dK kvs')
theorem Kinds.same {H H' : Hp} (s : Same H H') : Kinds H H' := ⟨Tups.same s, fun a xs e => ⟨xs, s _ _ e⟩, fun a kvs e => ⟨kvs, s _ _ e⟩⟩
theorem Kinds.trans {H H1 H2 : Hp} (a : Kinds H H1) (b : Kinds H1 H2) : Kinds H H2 := ⟨a.1.trans b.1, fun c xs e => by
  obtain ⟨ys, e1⟩ := a.2.1 c xs e
  exact b.2.1 c ys e1, fun c kvs e => by
  obtain ⟨ys, e1⟩ := a.2.2 c kvs e
  exact b.2.2 c ys e1⟩
theorem Kinds.put {H : Hp} {R : Addr} {xs ys : List V} (e : H R = some (.lst xs)) : Kinds H (upd H R (.lst ys)) := by
  refine ⟨Tups.ls e, fun a zs ha => ?_, fun a kvs ha => ?_⟩
  · by_cases c : a = R
    · subst c
      exact ⟨ys, upd_same⟩
    · exact ⟨zs, (upd_ne c).trans ha⟩
  · refine ⟨kvs, (upd_ne fun c => ?_).trans ha⟩
    rw [c, e] at ha
    cases ha
theorem Kinds.keep {p : Addr} {H H' : Hp} {T U : Nat} (k : Keep p p H H') (h : PotC H p T) (h' : PotC H' p U) : Kinds H H' := by
  refine ⟨k.tupsC h, fun a xs e => ?_, fun a kvs e => ?_⟩
  · by_cases c : a = p
    · subst c
      obtain ⟨_, _, _, e2, _⟩ := h'
      exact ⟨_, e2⟩
    · exact ⟨xs, k.at c e⟩
  · refine ⟨kvs, k.at (fun c => ?_) e⟩
    obtain ⟨_, _, _, e2, _⟩ := h
    rw [c, e2] at e
    cases e
theorem ThAt.mono {H H' : Hp} (k : Kinds H H') {v : V} {t : Th} (h : ThAt B H v t) : ThAt B H' v t := by
  induction h with
  | int n h1 h2 => exact .int n h1 h2
  | bl b => exact .bl b
  | non => exact .non
  | str z => exact .str z
  | lst e =>
    obtain ⟨ys, e1⟩ := k.2.1 _ _ e
    exact .lst e1
  | dic e =>
    obtain ⟨ys, e1⟩ := k.2.2 _ _ e
    exact .dic e1
  | tup e hl h ih => exact .tup (k.1 _ _ e) hl ih
theorem ThAt.ty {K : PySem.W.Frag} {H : Hp} {v : V} {t : Th} (h : ThAt B H v t) : ∃ T : String, TyX K H v (.type T) ∧ (match t with
    | .int _ => T = "int"
    | .bl _ => T = "bool"
    | .oth => T = "NoneType" ∨ T = "str" ∨ T = "list" ∨ T = "dict"
    | .tup _ => T = "tuple") := by
  cases h with
  | int n h1 h2 => exact ⟨_, .base (.int n), rfl⟩
  | bl b => exact ⟨_, .base (.bl b), rfl⟩
  | non => exact ⟨_, .base .non, .inl rfl⟩
  | str z => exact ⟨_, .base (.str z), .inr (.inl rfl)⟩
  | lst e => exact ⟨_, .base (.lst e), .inr (.inr (.inl rfl))⟩
  | dic e => exact ⟨_, .base (.dK e), .inr (.inr (.inr rfl))⟩
  | tup e hl h => exact ⟨_, .base (.tup e), rfl⟩
def Th.isT : Th → Bool
  | .tup _ => true
  | _ => false
def Th.isI : Th → Bool
  | .int _ => true
  | .bl _ => true
  | _ => false
def Th.isB : Th → Bool
  | .bl _ => true
  | _ => false
theorem isi_tup {K : PySem.W.Frag} {H : Hp} {v : V} {t : Th} (h : ThAt B H v t) : ∃ T : String, TyX K H v (.type T) ∧ PySem.W.kitOne K (.type T) (.type "tuple") = some t.isT := by
  obtain ⟨T, hT, ht⟩ := h.ty (K := K)
  refine ⟨T, hT, ?_⟩
  cases t with
  | int n =>
    have : T = "int" := ht
    subst this
    exact kit_ty (show kitB "int" "tuple" = some false by decide +kernel)
  | bl b =>
    have : T = "bool" := ht
    subst this
    exact kit_ty (show kitB "bool" "tuple" = some false by decide +kernel)
  | oth =>
    rcases ht with rfl | rfl | rfl | rfl
    · exact kit_ty (show kitB "NoneType" "tuple" = some false by decide +kernel)
    · exact kit_ty (show kitB "str" "tuple" = some false by decide +kernel)
    · exact kit_ty (show kitB "list" "tuple" = some false by decide +kernel)
    · exact kit_ty (show kitB "dict" "tuple" = some false by decide +kernel)
  | tup ts =>
    have : T = "tuple" := ht
    subst this
    exact kit_ty (show kitB "tuple" "tuple" = some true by decide +kernel)
theorem isi_int {K : PySem.W.Frag} {H : Hp} {v : V} {t : Th} (h : ThAt B H v t) : ∃ T : String, TyX K H v (.type T) ∧ PySem.W.kitOne K (.type T) (.type "int") = some t.isI := by
  obtain ⟨T, hT, ht⟩ := h.ty (K := K)
  refine ⟨T, hT, ?_⟩
  cases t with
  | int n =>
    have : T = "int" := ht
    subst this
    exact kit_ty (show kitB "int" "int" = some true by decide +kernel)
  | bl b =>
    have : T = "bool" := ht
    subst this
    exact kit_ty (show kitB "bool" "int" = some true by decide +kernel)
  | oth =>
    rcases ht with rfl | rfl | rfl | rfl
    · exact kit_ty (show kitB "NoneType" "int" = some false by decide +kernel)
    · exact kit_ty (show kitB "str" "int" = some false by decide +kernel)
    · exact kit_ty (show kitB "list" "int" = some false by decide +kernel)
    · exact kit_ty (show kitB "dict" "int" = some false by decide +kernel)
  | tup ts =>
    have : T = "tuple" := ht
    subst this
    exact kit_ty (show kitB "tuple" "int" = some false by decide +kernel)
theorem isi_bl {K : PySem.W.Frag} {H : Hp} {v : V} {t : Th} (h : ThAt B H v t) : ∃ T : String, TyX K H v (.type T) ∧ PySem.W.kitOne K (.type T) (.type "bool") = some t.isB := by
  obtain ⟨T, hT, ht⟩ := h.ty (K := K)
  refine ⟨T, hT, ?_⟩
  cases t with
  | int n =>
    have : T = "int" := ht
    subst this
    exact kit_ty (show kitB "int" "bool" = some false by decide +kernel)
  | bl b =>
    have : T = "bool" := ht
    subst this
    exact kit_ty (show kitB "bool" "bool" = some true by decide +kernel)
  | oth =>
    rcases ht with rfl | rfl | rfl | rfl
    · exact kit_ty (show kitB "NoneType" "bool" = some false by decide +kernel)
    · exact kit_ty (show kitB "str" "bool" = some false by decide +kernel)
    · exact kit_ty (show kitB "list" "bool" = some false by decide +kernel)
    · exact kit_ty (show kitB "dict" "bool" = some false by decide +kernel)
  | tup ts =>
    have : T = "tuple" := ht
    subst this
    exact kit_ty (show kitB "tuple" "bool" = some false by decide +kernel)
theorem ThAt.tupE {H : Hp} {v : V} {ts : List Th} (h : ThAt B H v (.tup ts)) : ∃ a vs, v = .ref a ∧ H a = some (.tup vs) ∧ vs.length = ts.length ∧ ∀ (i : Nat) (v : V) (t : Th), vs[i]? = some v → ts[i]? = some t → ThAt B H v t := by
  cases h with
  | tup e hl h => exact ⟨_, _, rfl, e, hl, h⟩
theorem ThAt.intE {H : Hp} {v : V} {n : Int} (h : ThAt B H v (.int n)) : v = .int n := by
  cases h
  rfl
theorem ThAt.intB {H : Hp} {v : V} {n : Int} (h : ThAt B H v (.int n)) : -B ≤ n ∧ n ≤ B := by
  cases h with
  | int n h1 h2 => exact ⟨h1, h2⟩
theorem ThAt.up {B B' : Int} {H : Hp} {v : V} {t : Th} (l : B ≤ B') (h : ThAt B H v t) : ThAt B' H v t := by
  induction h with
  | int n h1 h2 => exact .int n (by omega) (by omega)
  | bl b => exact .bl b
  | non => exact .non
  | str z => exact .str z
  | lst e => exact .lst e
  | dic e => exact .dic e
  | tup e hl h ih => exact .tup e hl ih
/-- wholes -/
def whT (t : Th) (least : Int) : Bool := match t with
  | .int n => decide (least ≤ n)
  | _ => false
def isBr : Th → Bool
  | .tup [a, b] => whT a 0 && whT b 0
  | _ => false
def firstT : Th → Int
  | .tup (.int n :: _) => n
  | _ => 0
def risesI : List Int → Bool
  | a :: b :: r => decide (a < b) && risesI (b :: r)
  | _ => true
def areBr : Th → Bool
  | .tup ts => decide (ts.length ≤ 20) && ts.all isBr && risesI (ts.map firstT)
  | _ => false
theorem wh_of {t : Th} {n : Int} (h : whT t n = true) : ∃ m, t = .int m ∧ n ≤ m := by
  cases t with
  | int m => exact ⟨m, rfl, of_decide_eq_true h⟩
  | bl b => cases h
  | oth => cases h
  | tup ts => cases h
theorem isBr_of {t : Th} (h : isBr t = true) : ∃ m l, t = .tup [.int m, .int l] ∧ 0 ≤ m ∧ 0 ≤ l := by
  cases t with
  | int m => cases h
  | bl b => cases h
  | oth => cases h
  | tup ts =>
    match ts, h with
    | [], h => cases h
    | [_], h => cases h
    | [a, b], h =>
      obtain ⟨h1, h2⟩ := Bool.and_eq_true_iff.mp (show (whT a 0 && whT b 0) = true from h)
      obtain ⟨m, rfl, m0⟩ := wh_of h1
      obtain ⟨l, rfl, l0⟩ := wh_of h2
      exact ⟨m, l, rfl, m0, l0⟩
    | _ :: _ :: _ :: _, h => cases h
def spWholeT : Sp := fun vs H Q _ => ∃ (v : V) (t : Th) (least : Int), vs = [v, .int least] ∧ ThAt topB H v t ∧ Q (.bl (whT t least)) H
def lenIn (t : Th) (a b : Int) : Bool := match t with
  | .tup ts => decide (a ≤ (ts.length : Int)) && decide ((ts.length : Int) ≤ b)
  | _ => false
def spTupleT : Sp := fun vs H Q _ => ∃ (v : V) (t : Th) (a b : Int), vs = [v, .int a, .int b] ∧ ThAt topB H v t ∧ Q (.bl (lenIn t a b)) H
def spIsBreak : Sp := fun vs H Q _ => ∃ (v : V) (t : Th), vs = [v] ∧ ThAt topB H v t ∧ Q (.bl (isBr t)) H
def spRise : Sp := fun vs H Q _ => ∃ (a : Addr) (ns : List Int), vs = [.ref a] ∧ H a = some (.lst (ns.map V.int)) ∧ ns.length ≤ 60 ∧ ∀ H', Same H H' → Q (.bl (risesI ns)) H'
def spAreBr : Sp := fun vs H Q _ => ∃ (v : V) (t : Th), vs = [v] ∧ ThAt topB H v t ∧ ∀ H', Same H H' → Q (.bl (areBr t)) H'
def spWhole1 : Sp := fun vs H Q _ => ∃ (v : V) (t : Th), vs = [v] ∧ ThAt topB H v t ∧ Q (.bl (whT t 0)) H
/-- ints and tuples of them -/
inductive IT : Th → Prop where
  | int {n : Int} (h1 : -2 ^ 250 ≤ n) (h2 : n ≤ 2 ^ 250) : IT (.int n)
  | tup {ts : List Th} (hl : ts.length ≤ 60) (h : ∀ t ∈ ts, IT t) : IT (.tup ts)
mutual
def Th.deep : Th → Nat
  | .tup ts => Th.deepAll ts + 1
  | _ => 0
def Th.deepAll : List Th → Nat
  | [] => 0
  | t :: r => max t.deep (Th.deepAll r)
end
theorem deep_mem : ∀ {ts : List Th} {t : Th}, t ∈ ts → t.deep ≤ Th.deepAll ts
  | x :: r, t, h => by
    show t.deep ≤ max x.deep (Th.deepAll r)
    rcases List.mem_cons.mp h with rfl | h
    · omega
    · have := deep_mem h
      omega
def spBent (n : Nat) : Sp := fun vs H Q _ => ∃ (B : Int) (p : Addr) (T : Nat) (v : V) (t : Th), vs = [.ref p, v] ∧ PotC H p T ∧ T + 4 * n < 2 ^ 36 ∧ ThAt B H v t ∧ IT t ∧ t.deep < n ∧ n ≤ 10 ∧ 0 ≤ B ∧ ∀ H' u s, PotC H' p (T + 4 * n) → Keep p p H H' → ThAt (2 * B + 100) H' u s → Q u H'
theorem Keep.newK {p a : Addr} {H H1 : Hp} {o : HO} (k : Keep p p H H1) (h : H1 a = none) : Keep p p H (upd H1 a o) := k.new h
theorem th_take {H : Hp} {vs : List V} {ts : List Th} (h : ∀ (i : Nat) (v : V) (t : Th), vs[i]? = some v → ts[i]? = some t → ThAt B H v t) (n : Nat) : ∀ (i : Nat) (v : V) (t : Th), (vs.take n)[i]? = some v → (ts.take n)[i]? = some t → ThAt B H v t := fun i v t h1 h2 => by
  rw [List.getElem?_take] at h1 h2
  split at h1
  · next c =>
    rw [if_pos c] at h2
    exact h i v t h1 h2
  · cases h1
theorem th_drop {H : Hp} {vs : List V} {ts : List Th} (h : ∀ (i : Nat) (v : V) (t : Th), vs[i]? = some v → ts[i]? = some t → ThAt B H v t) (n : Nat) : ∀ (i : Nat) (v : V) (t : Th), (vs.drop n)[i]? = some v → (ts.drop n)[i]? = some t → ThAt B H v t := fun i v t h1 h2 => by
  rw [List.getElem?_drop] at h1 h2
  exact h _ v t h1 h2
theorem th_app {H : Hp} {vs ws : List V} {ts ss : List Th} (hl : vs.length = ts.length) (h : ∀ (i : Nat) (v : V) (t : Th), vs[i]? = some v → ts[i]? = some t → ThAt B H v t) (g : ∀ (i : Nat) (v : V) (t : Th), ws[i]? = some v → ss[i]? = some t → ThAt B H v t) : ∀ (i : Nat) (v : V) (t : Th), (vs ++ ws)[i]? = some v → (ts ++ ss)[i]? = some t → ThAt B H v t := fun i v t h1 h2 => by
  by_cases c : i < vs.length
  · rw [List.getElem?_append_left c] at h1
    rw [List.getElem?_append_left (by omega)] at h2
    exact h i v t h1 h2
  · rw [List.getElem?_append_right (by omega)] at h1
    rw [List.getElem?_append_right (by omega), ← hl] at h2
    exact g _ v t h1 h2
/-- a tuple of things: its values and what they are -/
def ThsAt (B : Int) (H : Hp) (vs : List V) : Prop := ∃ ts : List Th, vs.length = ts.length ∧ ∀ (i : Nat) (v : V) (t : Th), vs[i]? = some v → ts[i]? = some t → ThAt B H v t
theorem ThsAt.app {H : Hp} {vs ws : List V} (a : ThsAt B H vs) (b : ThsAt B H ws) : ThsAt B H (vs ++ ws) := by
  obtain ⟨ts, h1, h2⟩ := a
  obtain ⟨ss, g1, g2⟩ := b
  exact ⟨ts ++ ss, by rw [List.length_append, List.length_append, h1, g1], th_app h1 h2 g2⟩
theorem ThsAt.take {H : Hp} {vs : List V} (a : ThsAt B H vs) (n : Nat) : ThsAt B H (vs.take n) := by
  obtain ⟨ts, h1, h2⟩ := a
  exact ⟨ts.take n, by rw [List.length_take, List.length_take, h1], th_take h2 n⟩
theorem ThsAt.drop {H : Hp} {vs : List V} (a : ThsAt B H vs) (n : Nat) : ThsAt B H (vs.drop n) := by
  obtain ⟨ts, h1, h2⟩ := a
  exact ⟨ts.drop n, by rw [List.length_drop, List.length_drop, h1], th_drop h2 n⟩
theorem ThsAt.one {H : Hp} {v : V} {t : Th} (h : ThAt B H v t) : ThsAt B H [v] := ⟨[t], rfl, fun i u s h1 h2 => by
  cases i with
  | zero =>
    cases h1
    cases h2
    exact h
  | succ i => cases h1⟩
theorem ThsAt.nil {H : Hp} : ThsAt B H [] := ⟨[], rfl, fun i u s h1 h2 => by cases h1⟩
theorem ThsAt.mono {H H' : Hp} {vs : List V} (a : ThsAt B H vs) (k : Kinds H H') : ThsAt B H' vs := by
  obtain ⟨ts, h1, h2⟩ := a
  exact ⟨ts, h1, fun i v t e1 e2 => (h2 i v t e1 e2).mono k⟩
theorem ThsAt.rev {H : Hp} {vs : List V} (a : ThsAt B H vs) : ThsAt B H vs.reverse := by
  obtain ⟨ts, h1, h2⟩ := a
  refine ⟨ts.reverse, by rw [List.length_reverse, List.length_reverse, h1], fun i v t e1 e2 => ?_⟩
  have hi : i < vs.length := by
    have := (List.getElem?_eq_some_iff.mp e1).1
    simpa using this
  rw [List.getElem?_reverse hi] at e1
  rw [List.getElem?_reverse (by omega)] at e2
  exact h2 _ v t e1 (by rw [h1]; exact e2)
theorem ThsAt.tup {H : Hp} {vs : List V} {a : Addr} (h : ThsAt B H vs) (e : H a = some (.tup vs)) : ∃ t, ThAt B H (.ref a) t := by
  obtain ⟨ts, h1, h2⟩ := h
  exact ⟨.tup ts, .tup e h1 h2⟩
theorem ThsAt.mem {H : Hp} {vs : List V} (h : ThsAt B H vs) {v : V} (hv : v ∈ vs) : ∃ t, ThAt B H v t := by
  obtain ⟨ts, h1, h2⟩ := h
  obtain ⟨i, hi, rfl⟩ := List.getElem_of_mem hv
  exact ⟨ts[i]'(by omega), h2 i _ _ (List.getElem?_eq_getElem hi) (List.getElem?_eq_getElem (by omega))⟩
def spOdd : Sp := fun vs H Q _ => vs = [] ∧ ∀ H' o xs, Same H H' → H o = none → H' o = some (.lst xs) → xs.length ≤ 20 → (∀ x ∈ xs, ∃ t, ThAt topB H' x t) → Q (.ref o) H'
def brT (b : Int × Int) : Th := .tup [.int b.1, .int b.2]
def spManyBr : Sp := fun vs H Q _ => ∃ (p : Addr) (T : Nat) (many : Int), vs = [.ref p, .int many] ∧ PotC H p T ∧ T < 2 ^ 37 ∧ 0 ≤ many ∧ many ≤ 20 ∧ ∀ H' o bs, PotC H' p (T + 50) → Keep p p H H' → BrAt H' o bs → bs.length ≤ 20 → (∀ b ∈ bs, 0 ≤ b.1 ∧ b.1 ≤ 2 ^ 200 ∧ 0 ≤ b.2 ∧ b.2 ≤ 2 ^ 200) → Q (.ref o) H'
theorem br_th {H : Hp} {o : Addr} {bs : List (Int × Int)} (h : BrAt H o bs) (bd : ∀ b ∈ bs, -B ≤ b.1 ∧ b.1 ≤ B ∧ -B ≤ b.2 ∧ b.2 ≤ B) : ThAt B H (.ref o) (.tup (bs.map brT)) := by
  obtain ⟨as, e, tb⟩ := h
  have hl : as.length = bs.length := by rw [tb.1, List.length_map]
  refine .tup e (by rw [List.length_map, List.length_map, hl]) fun i v t h1 h2 => ?_
  obtain ⟨a, m, l, rfl, ep, ea⟩ := step_get tb h1
  rw [List.getElem?_map, ep] at h2
  have : brT (m, l) = t := Option.some.inj h2
  subst this
  have hb := bd _ (List.mem_of_getElem? ep)
  refine .tup ea rfl fun j u s g1 g2 => ?_
  match j, g1, g2 with
  | 0, g1, g2 =>
    cases g1
    cases g2
    exact .int m hb.1 hb.2.1
  | 1, g1, g2 =>
    cases g1
    cases g2
    exact .int l hb.2.2.1 hb.2.2.2
def riseB (p : Int × Int) : Bool := decide (p.1 < p.2)
theorem rises_pairs : ∀ ns : List Int, risesI ns = ((List.zip ns (ns.drop 1)).map riseB).all id
  | [] => rfl
  | [_] => rfl
  | a :: b :: r => by
    have ih := rises_pairs (b :: r)
    show (decide (a < b) && risesI (b :: r)) = _
    rw [ih]
    rfl
theorem iteNF {A C : Prop} (h : A) : if (!false) = true then A else C := iteT h
theorem rises_get : ∀ {ns : List Int} {k : Nat} {a b : Int}, risesI ns = true → ns[k]? = some a → ns[k + 1]? = some b → a < b
  | [], k, a, b, h, h1, _ => by cases h1
  | [x], 0, a, b, h, _, h2 => by cases h2
  | [x], k + 1, a, b, h, h1, _ => by cases h1
  | x :: y :: r, 0, a, b, h, h1, h2 => by
    cases h1
    cases h2
    exact of_decide_eq_true (Bool.and_eq_true_iff.mp h).1
  | x :: y :: r, k + 1, a, b, h, h1, h2 => rises_get (ns := y :: r) (Bool.and_eq_true_iff.mp h).2 h1 h2
theorem rises_idx (ns : List Int) : risesI ns = (((List.range (ns.length - 1)).map fun k => decide (ns.getD k 0 < ns.getD (k + 1) 0)).all id) := by
  rw [rises_pairs]
  congr 1
  refine List.ext_getElem? fun i => ?_
  rw [List.getElem?_map, List.getElem?_map]
  by_cases h : i < ns.length - 1
  · have e1 : ns[i]? = some ns[i] := List.getElem?_eq_getElem (by omega)
    have e2 : ns[i + 1]? = some ns[i + 1] := List.getElem?_eq_getElem (by omega)
    have e3 : (List.zip ns (ns.drop 1))[i]? = some (ns[i], ns[i + 1]) := by
      rw [List.getElem?_zip_eq_some]
      refine ⟨e1, ?_⟩
      rw [List.getElem?_drop, Nat.add_comm]
      exact e2
    rw [e3, List.getElem?_range h]
    show some (riseB (ns[i], ns[i + 1])) = some (decide (ns.getD i 0 < ns.getD (i + 1) 0))
    rw [List.getD_eq_getElem?_getD, List.getD_eq_getElem?_getD, e1, e2]
    rfl
  · rw [List.getElem?_eq_none (by rw [List.length_zip, List.length_drop]; omega), List.getElem?_eq_none (by rw [List.length_range]; omega)]
    rfl
/-- a value of a written thing -/
def ThV (B : Int) (H : Hp) (v : V) : Prop := ∃ t, ThAt B H v t
theorem ThV.mono {H H' : Hp} {v : V} (h : ThV B H v) (k : Kinds H H') : ThV B H' v := by
  obtain ⟨t, h⟩ := h
  exact ⟨t, h.mono k⟩
theorem ThsAt.of : ∀ {H : Hp} {vs : List V}, (∀ v ∈ vs, ThV B H v) → ThsAt B H vs
  | H, [], _ => ThsAt.nil
  | H, v :: r, h => by
    obtain ⟨t, ht⟩ := h v List.mem_cons_self
    exact (ThsAt.one ht).app (ThsAt.of fun u hu => h u (List.mem_cons_of_mem _ hu))
theorem ThV.tup {H : Hp} {a : Addr} {vs : List V} (h : ∀ v ∈ vs, ThV B H v) (n : H a = none) : ThV B (upd H a (.tup vs)) (.ref a) :=
  ((ThsAt.of h).mono (Kinds.same (same_new (Same.refl _) n))).tup upd_same
theorem ThV.lst {H : Hp} {a : Addr} {xs : List V} (e : H a = some (.lst xs)) : ThV B H (.ref a) := ⟨.oth, .lst e⟩
theorem ThsAt.cut {H : Hp} {vs : List V} (a : ThsAt B H vs) (lo hi : Option Int) : ThsAt B H (cutV vs lo hi) := by
  unfold cutV
  exact (a.drop _).take _
theorem slT {K : PySem.W.Frag} {H : Hp} {a : Addr} {vs : List V} {lo hi : Option Int} {Q : VK} {N : Nat} (h : H a = some (.tup vs)) (t : ThsAt B H vs) (hl : vs.length ≤ N) (q : ∀ H' p ws, Same H H' → H' p = some (.tup ws) → ThsAt B H' ws → ws.length ≤ N → Q (.ref p) H') : rSlA K (.ref a) lo hi H Q :=
  slA h fun H' p s e => q H' p _ s e ((t.cut lo hi).mono (Kinds.same s)) (Nat.le_trans (cutV_length _ _ _) hl)
theorem catT {K : PySem.W.Frag} {H : Hp} {a b : Addr} {vs ws : List V} {Q : VK} (ha : H a = some (.tup vs)) (hb : H b = some (.tup ws)) (ta : ThsAt B H vs) (tb : ThsAt B H ws) (hz : vs.length + ws.length ≤ 1000) (q : ∀ H' p, Same H H' → H' p = some (.tup (vs ++ ws)) → ThsAt B H' (vs ++ ws) → Q (.ref p) H') : rCatA K (.ref a) (.ref b) H Q :=
  catA ha hb (Nat.le_of_lt (small1000 hz)) fun H' p s e => q H' p s e ((ta.app tb).mono (Kinds.same s))
theorem log_small {m : Int} (h1 : -2 ^ 250 ≤ m) (h2 : m ≤ 2 ^ 250) : m.natAbs.log2 < 400 := by
  by_cases c : m.natAbs = 0
  · rw [c]
    decide
  · have h : m.natAbs.log2 < 251 := by
      rw [Nat.log2_lt c]
      omega
    omega
mutual
def dataT : Th → PyData
  | .int n => .int n
  | .tup ts => .tuple (dataTs ts)
  | _ => .none
def dataTs : List Th → List PyData
  | [] => []
  | t :: r => dataT t :: dataTs r
end
theorem dataTs_map : ∀ ts : List Th, dataTs ts = ts.map dataT
  | [] => rfl
  | t :: r => by
    show dataT t :: dataTs r = dataT t :: r.map dataT
    rw [dataTs_map r]
theorem it_dp {K : PySem.W.Frag} {H : Hp} {t : Th} (i : IT t) : ∀ {v : V}, ThAt B H v t → Dp K H v (dataT t) := by
  induction i with
  | int h1 h2 =>
    intro v h
    rw [h.intE]
    exact .int _
  | @tup ts hl h ih =>
    intro v hv
    obtain ⟨a, vs, rfl, e, hvl, hh⟩ := hv.tupE
    refine .tup (SqT.of e) ?_
    rw [dataTs_map]
    clear hl h e hv
    induction ts generalizing vs with
    | nil =>
      have : vs = [] := List.eq_nil_of_length_eq_zero hvl
      subst this
      exact .nil
    | cons t r ihr =>
      cases vs with
      | nil => cases hvl
      | cons v ws => exact .cons (ih t List.mem_cons_self (hh 0 v t rfl rfl)) (ihr (fun x hx => ih x (List.mem_cons_of_mem _ hx)) ws (Nat.succ.inj hvl) fun i u s h1 h2 => hh (i + 1) u s h1 h2)
theorem it_sh {t : Th} (i : IT t) : Sh (dataT t) := by
  induction i with
  | int h1 h2 => exact .int (log_small h1 h2)
  | @tup ts hl h ih =>
    show Sh (.tuple (dataTs ts))
    rw [dataTs_map]
    refine .tup fun x hx => ?_
    obtain ⟨t, ht, rfl⟩ := List.mem_map.mp hx
    exact ih t ht
theorem it_depth {t : Th} (i : IT t) : (dataT t).depth ≤ t.deep := by
  induction i with
  | int h1 h2 => exact Nat.le_refl _
  | @tup ts hl h ih =>
    show PyData.depthAll (dataTs ts) + 1 ≤ Th.deepAll ts + 1
    refine Nat.succ_le_succ ?_
    rw [dataTs_map]
    refine depth_all fun x hx => ?_
    obtain ⟨t, ht, rfl⟩ := List.mem_map.mp hx
    exact Nat.le_trans (ih t ht) (deep_mem ht)
theorem deep_pairs {ts : List Th} (h : ∀ t ∈ ts, ∃ m l : Int, t = .tup [.int m, .int l]) : (Th.tup ts).deep < 3 := by
  show Th.deepAll ts + 1 < 3
  have : Th.deepAll ts ≤ 1 := by
    induction ts with
    | nil => exact Nat.zero_le _
    | cons t r ih =>
      obtain ⟨m, l, rfl⟩ := h t List.mem_cons_self
      have := ih fun x hx => h x (List.mem_cons_of_mem _ hx)
      show max (max 0 (max 0 0) + 1) (Th.deepAll r) ≤ 1
      omega
  omega
theorem ThsAt.up {B B' : Int} {H : Hp} {vs : List V} (l : B ≤ B') (h : ThsAt B H vs) : ThsAt B' H vs := by
  obtain ⟨ts, h1, h2⟩ := h
  exact ⟨ts, h1, fun i v t e1 e2 => (h2 i v t e1 e2).up l⟩
theorem areBr_it {H : Hp} {v : V} {t : Th} (hB : B ≤ 2 ^ 250) (h : ThAt B H v t) (e : areBr t = true) : IT t ∧ t.deep < 3 := by
  cases t with
  | int m => cases e
  | bl b => cases e
  | oth => cases e
  | tup ts =>
    obtain ⟨e1, _⟩ := Bool.and_eq_true_iff.mp (show (decide (ts.length ≤ 20) && ts.all isBr && risesI (ts.map firstT)) = true from e)
    obtain ⟨e1, e2⟩ := Bool.and_eq_true_iff.mp e1
    have e1 := of_decide_eq_true e1
    rw [List.all_eq_true] at e2
    obtain ⟨a, vs, rfl, _, hvl, hh⟩ := h.tupE
    refine ⟨.tup (by omega) fun x hx => ?_, deep_pairs fun x hx => ?_⟩
    · obtain ⟨m, l, rfl, m0, l0⟩ := isBr_of (e2 x hx)
      obtain ⟨i, hi, ei⟩ := List.getElem_of_mem hx
      have hx' := hh i _ _ (List.getElem?_eq_getElem (by omega)) (List.getElem?_eq_getElem hi)
      rw [ei] at hx'
      obtain ⟨c, ws, _, _, hwl, hw⟩ := hx'.tupE
      have hwl : ws.length = 2 := hwl
      have b1 := (hw 0 _ (.int m) (List.getElem?_eq_getElem (by omega)) rfl).intB
      have b2 := (hw 1 _ (.int l) (List.getElem?_eq_getElem (by omega)) rfl).intB
      refine .tup (by show 2 ≤ 60; decide) fun y hy => ?_
      simp only [List.mem_cons, List.not_mem_nil, or_false] at hy
      rcases hy with rfl | rfl
      · exact .int (by omega) (by omega)
      · exact .int (by omega) (by omega)
    · obtain ⟨m, l, rfl, _⟩ := isBr_of (e2 x hx)
      exact ⟨m, l, rfl⟩
end
/-! ### wisps, rows and schedules of any kind -/
def numT : Th → Int
  | .int n => n
  | _ => 0
def isStep : Th → Bool
  | .tup [a, b] => whT a 1 && whT b 1
  | _ => false
def fallsT : List Int → Bool
  | a :: b :: r => decide (b < a) && fallsT (b :: r)
  | _ => true
def areSteps : Th → Bool
  | .tup ts => decide (1 ≤ ts.length) && decide (ts.length ≤ 8) && ts.all isStep && fallsT (ts.map firstT)
  | _ => false
def isWispT : Th → Bool
  | .tup [s, st] => whT s 0 && decide (numT s ≤ 1) && areSteps st
  | _ => false
def isRowT : Th → Bool
  | .tup ts => decide (ts.length ≤ 60) && ts.all isWispT
  | _ => false
def goUp : Int → List Th → Bool
  | _, [] => true
  | least, t :: r => whT t least && goUp (numT t) r
def isSchedT (n : Nat) : Th → Bool
  | .tup ts => decide (ts.length = n) && goUp 0 ts
  | _ => false
theorem isStep_of {t : Th} (h : isStep t = true) : ∃ m l, t = .tup [.int m, .int l] ∧ 1 ≤ m ∧ 1 ≤ l := by
  cases t with
  | int m => cases h
  | bl b => cases h
  | oth => cases h
  | tup ts =>
    match ts, h with
    | [], h => cases h
    | [_], h => cases h
    | [a, b], h =>
      obtain ⟨h1, h2⟩ := Bool.and_eq_true_iff.mp (show (whT a 1 && whT b 1) = true from h)
      obtain ⟨m, rfl, m0⟩ := wh_of h1
      obtain ⟨l, rfl, l0⟩ := wh_of h2
      exact ⟨m, l, rfl, m0, l0⟩
    | _ :: _ :: _ :: _, h => cases h
def fallB (p : Int × Int) : Bool := decide (p.2 < p.1)
theorem falls_pairs : ∀ ns : List Int, fallsT ns = ((List.zip ns (ns.drop 1)).map fallB).all id
  | [] => rfl
  | [_] => rfl
  | a :: b :: r => by
    have ih := falls_pairs (b :: r)
    show (decide (b < a) && fallsT (b :: r)) = _
    rw [ih]
    rfl
def spStepT : Sp := fun vs H Q _ => ∃ (v : V) (t : Th), vs = [v] ∧ ThAt topB H v t ∧ Q (.bl (isStep t)) H
def spStepsT : Sp := fun vs H Q _ => ∃ (v : V) (t : Th), vs = [v] ∧ ThAt topB H v t ∧ ∀ H', Same H H' → Q (.bl (areSteps t)) H'
def spWispT : Sp := fun vs H Q _ => ∃ (v : V) (t : Th), vs = [v] ∧ ThAt topB H v t ∧ ∀ H', Same H H' → Q (.bl (isWispT t)) H'
def spRowT : Sp := fun vs H Q _ => ∃ (v : V) (t : Th), vs = [v] ∧ ThAt topB H v t ∧ ∀ H', Same H H' → Q (.bl (isRowT t)) H'
/-- a good row, and a thing of any kind -/
def spSchedT : Sp := fun vs H Q _ => ∃ (v u : V) (ts : List Th) (t : Th), vs = [v, u] ∧ ThAt topB H v (.tup ts) ∧ isRowT (.tup ts) = true ∧ ThAt topB H u t ∧ ∀ H', Same H H' → Q (.bl (isSchedT ts.length t)) H'
def spSchedL : Sp := fun vs H Q _ => ∃ (u : V) (n : Nat) (t : Th), vs = [.int n, u] ∧ ThAt topB H u t ∧ n ≤ 60 ∧ ∀ H', Same H H' → Q (.bl (isSchedT n t)) H'
def spToldT : Sp := fun vs H Q _ => ∃ b : Bool, vs = [.bl b, .bl b] ∧ Q (.bl true) H
def fitsT : Option Int → Int → Bool
  | none, _ => true
  | some l, m => decide (m < l)
def goFall : Option Int → List Th → Bool
  | _, [] => true
  | last, t :: r => isStep t && fitsT last (firstT t) && goFall (some (firstT t)) r
theorem fall_rest : ∀ {ts : List Th} {l : Int}, goFall (some l) ts = (ts.all isStep && fallsT (l :: ts.map firstT))
  | [], l => rfl
  | t :: r, l => by
    have ih := fall_rest (ts := r) (l := firstT t)
    show (isStep t && decide (firstT t < l) && goFall (some (firstT t)) r) = (isStep t && r.all isStep && (decide (firstT t < l) && fallsT (firstT t :: r.map firstT)))
    rw [ih]
    cases isStep t <;> cases decide (firstT t < l) <;> cases r.all isStep <;> rfl
theorem fall_all (ts : List Th) : goFall none ts = (ts.all isStep && fallsT (ts.map firstT)) := by
  cases ts with
  | nil => rfl
  | cons t r =>
    show (isStep t && true && goFall (some (firstT t)) r) = (isStep t && r.all isStep && fallsT (firstT t :: r.map firstT))
    rw [fall_rest]
    cases isStep t <;> cases r.all isStep <;> rfl
def lastV : Option Int → V
  | none => .non
  | some l => .int l
theorem up_idx : ∀ {ts : List Th} {n : Int}, ts.all (fun t => whT t 0) = true → 0 ≤ n → goUp n ts = ((List.range ts.length).map fun k => decide ((if k = 0 then n else numT (ts.getD (k - 1) .oth)) ≤ numT (ts.getD k .oth))).all id
  | [], n, _, _ => rfl
  | t :: r, n, h, hn => by
    obtain ⟨h1, h2⟩ := Bool.and_eq_true_iff.mp (show (whT t 0 && r.all fun t => whT t 0) = true from h)
    obtain ⟨m, rfl, m0⟩ := wh_of h1
    have ih := up_idx (ts := r) (n := m) h2 m0
    show (decide (n ≤ m) && goUp m r) = _
    rw [ih, show (Th.int m :: r).length = r.length + 1 from rfl, List.range_succ_eq_map, List.map_cons, List.all_cons, List.map_map]
    congr 1
    congr 1
    refine List.map_congr_left fun k hk => ?_
    cases k with
    | zero => rfl
    | succ k => rfl
theorem up_all {ts : List Th} (h : ts.all (fun t => whT t 0) = true) : goUp 0 ts = ((List.range (ts.length - 1)).map fun k => decide (numT (ts.getD k .oth) ≤ numT (ts.getD (k + 1) .oth))).all id := by
  cases ts with
  | nil => rfl
  | cons t r =>
    rw [up_idx h (Int.le_refl 0)]
    obtain ⟨h1, h2⟩ := Bool.and_eq_true_iff.mp (show (whT t 0 && r.all fun t => whT t 0) = true from h)
    obtain ⟨m, rfl, m0⟩ := wh_of h1
    rw [show (Th.int m :: r).length = r.length + 1 from rfl, List.range_succ_eq_map, List.map_cons, List.all_cons, List.map_map]
    show (decide (0 ≤ m) && _) = _
    rw [decide_eq_true m0, Bool.true_and]
    rfl
theorem up_whole : ∀ {ts : List Th} {n : Int}, 0 ≤ n → goUp n ts = true → ts.all (fun t => whT t 0) = true
  | [], _, _, _ => rfl
  | t :: r, n, hn, h => by
    obtain ⟨h1, h2⟩ := Bool.and_eq_true_iff.mp (show (whT t n && goUp (numT t) r) = true from h)
    obtain ⟨m, rfl, m0⟩ := wh_of h1
    show (decide (0 ≤ m) && r.all _) = true
    rw [up_whole (n := m) (by omega) h2, decide_eq_true (show 0 ≤ m by omega)]
    rfl
def spSchedule : Sp := fun vs H Q _ => ∃ (p : Addr) (T n : Nat), vs = [.ref p, .int n] ∧ PotC H p T ∧ T < 2 ^ 37 ∧ n ≤ 60 ∧ ∀ H' o (ms : List Int), PotC H' p (T + 1 + n) → Keep p p H H' → H' o = some (.tup (ms.map V.int)) → ms.length = n → (∀ m ∈ ms, 0 ≤ m ∧ m ≤ 2 ^ 200) → ms.Pairwise (fun a b => a ≤ b) → Q (.ref o) H'
def spDWisp8 : Sp := fun vs H Q _ => ∃ (p : Addr) (T : Nat) (sty : Int), vs = [.ref p, .int sty] ∧ PotC H p T ∧ T < 2 ^ 37 ∧ 0 ≤ sty ∧ sty < 3 ∧
  ∀ H' a W, WispAt H' a W.1 W.2 → GoodW W → Falls W.2 → W.2.length ≤ 8 → H a = none → PotC H' p (T + 100) → Keep p p H H' → Q (.ref a) H'
def wispT (W : Wi) : Th := .tup [.int W.1, .tup (W.2.map brT)]
/-- a good wisp, short and falling -/
def GoodT (W : Wi) : Prop := GoodW W ∧ Falls W.2 ∧ W.2.length ≤ 8
theorem steps_th {B : Int} {H : Hp} {st : Addr} {as : List Addr} {ps : List (Int × Int)} (e : H st = some (.tup (as.map V.ref))) (tu : TupsAt H as (ps.map stepV)) (bd : ∀ b ∈ ps, -B ≤ b.1 ∧ b.1 ≤ B ∧ -B ≤ b.2 ∧ b.2 ≤ B) : ThAt B H (.ref st) (.tup (ps.map brT)) := br_th ⟨as, e, tu⟩ bd
theorem wisp_th {H : Hp} {a : Addr} {W : Wi} (h : WispAt H a W.1 W.2) (g : GoodT W) : ThAt (2 ^ 200) H (.ref a) (wispT W) := by
  obtain ⟨st, as, e1, e2, tu⟩ := h
  obtain ⟨⟨gd, s0, s1, _⟩, _, _⟩ := g
  refine .tup e1 rfl fun j u t g1 g2 => ?_
  match j, g1, g2 with
  | 0, g1, g2 =>
    cases g1
    cases g2
    exact .int _ (by omega) (by omega)
  | 1, g1, g2 =>
    cases g1
    cases g2
    exact steps_th e2 tu fun b hb => by
      have := gd.2.2 b hb
      omega
theorem row_th {H : Hp} {r : Addr} {as : List Addr} {Ws : List Wi} (e : H r = some (.tup (as.map V.ref))) (ra : RowAt H as Ws) (g : ∀ W ∈ Ws, GoodT W) : ThAt (2 ^ 200) H (.ref r) (.tup (Ws.map wispT)) := by
  refine .tup e (by rw [List.length_map, List.length_map, ra.1]) fun i v t h1 h2 => ?_
  rw [List.getElem?_map] at h1 h2
  cases ea : as[i]? with
  | none =>
    rw [ea] at h1
    cases h1
  | some a =>
    rw [ea] at h1
    obtain ⟨W, eW, hW⟩ := ra.2 i a ea
    rw [eW] at h2
    have h1 : V.ref a = v := Option.some.inj h1
    have h2 : wispT W = t := Option.some.inj h2
    subst h1
    subst h2
    exact wisp_th hW (g W (List.mem_of_getElem? eW))
theorem falls_of : ∀ {ps : List (Int × Int)}, Falls ps → fallsT ((ps.map brT).map firstT) = true
  | [], _ => rfl
  | [_], _ => rfl
  | a :: b :: r, h => by
    have h1 := (List.pairwise_cons.mp h).1 b List.mem_cons_self
    have ih := falls_of (ps := b :: r) (List.pairwise_cons.mp h).2
    show (decide (b.1 < a.1) && fallsT (((b :: r).map brT).map firstT)) = true
    rw [ih, decide_eq_true h1]
    rfl
theorem good_isWisp {W : Wi} (g : GoodT W) : isWispT (wispT W) = true := by
  obtain ⟨⟨gd, s0, s1, _⟩, fl, l8⟩ := g
  have l1 := gd.1
  have hall : (W.2.map brT).all isStep = true := by
    rw [List.all_eq_true]
    intro t ht
    obtain ⟨b, hb, rfl⟩ := List.mem_map.mp ht
    have := gd.2.2 b hb
    show (decide (1 ≤ b.1) && decide (1 ≤ b.2)) = true
    rw [decide_eq_true (by omega), decide_eq_true (by omega)]
    rfl
  show (decide (0 ≤ W.1) && decide (W.1 ≤ 1) && (decide (1 ≤ (W.2.map brT).length) && decide ((W.2.map brT).length ≤ 8) && (W.2.map brT).all isStep && fallsT ((W.2.map brT).map firstT))) = true
  rw [hall, falls_of fl, List.length_map, decide_eq_true s0, decide_eq_true s1, decide_eq_true l1, decide_eq_true l8]
  rfl
theorem good_isRow {Ws : List Wi} (g : ∀ W ∈ Ws, GoodT W) (h60 : Ws.length ≤ 60) : isRowT (.tup (Ws.map wispT)) = true := by
  show (decide ((Ws.map wispT).length ≤ 60) && (Ws.map wispT).all isWispT) = true
  rw [List.length_map, decide_eq_true h60, Bool.true_and, List.all_eq_true]
  intro t ht
  obtain ⟨W, hW, rfl⟩ := List.mem_map.mp ht
  exact good_isWisp (g W hW)
theorem deep_all {ts : List Th} {n : Nat} (h : ∀ t ∈ ts, t.deep ≤ n) : Th.deepAll ts ≤ n := by
  induction ts with
  | nil => exact Nat.zero_le _
  | cons t r ih =>
    show max t.deep (Th.deepAll r) ≤ n
    have h1 := h t List.mem_cons_self
    have h2 := ih fun x hx => h x (List.mem_cons_of_mem _ hx)
    omega
theorem isRow_it {B : Int} {H : Hp} {v : V} {t : Th} (hB : B ≤ 2 ^ 250) (h : ThAt B H v t) (e : isRowT t = true) : IT t ∧ t.deep < 5 := by
  cases t with
  | int m => cases e
  | bl b => cases e
  | oth => cases e
  | tup ts =>
    obtain ⟨e1, e2⟩ := Bool.and_eq_true_iff.mp (show (decide (ts.length ≤ 60) && ts.all isWispT) = true from e)
    have e1 := of_decide_eq_true e1
    rw [List.all_eq_true] at e2
    obtain ⟨a, vs, rfl, _, hvl, hh⟩ := h.tupE
    have each : ∀ x ∈ ts, IT x ∧ x.deep ≤ 3 := fun x hx => by
      obtain ⟨i, hi, ei⟩ := List.getElem_of_mem hx
      have hx' := hh i _ _ (List.getElem?_eq_getElem (by omega)) (List.getElem?_eq_getElem hi)
      rw [ei] at hx'
      have ew := e2 x hx
      cases x with
      | int m => cases ew
      | bl b => cases ew
      | oth => cases ew
      | tup us =>
        match us, ew, hx' with
        | [], ew, _ => cases ew
        | [_], ew, _ => cases ew
        | _ :: _ :: _ :: _, ew, _ => cases ew
        | [s, st], ew, hx' =>
          obtain ⟨f1, f3⟩ := Bool.and_eq_true_iff.mp (show (whT s 0 && decide (numT s ≤ 1) && areSteps st) = true from ew)
          obtain ⟨f1, f2⟩ := Bool.and_eq_true_iff.mp f1
          obtain ⟨m, rfl, m0⟩ := wh_of f1
          obtain ⟨c, ws, _, _, hwl, hw⟩ := hx'.tupE
          have hwl : ws.length = 2 := hwl
          have b1 := (hw 0 _ (.int m) (List.getElem?_eq_getElem (by omega)) rfl).intB
          have hst := hw 1 _ st (List.getElem?_eq_getElem (by omega)) rfl
          have ist : IT st ∧ st.deep ≤ 2 := by
            cases st with
            | int m => cases f3
            | bl b => cases f3
            | oth => cases f3
            | tup ss =>
              obtain ⟨p1, _⟩ := Bool.and_eq_true_iff.mp (show (decide (1 ≤ ss.length) && decide (ss.length ≤ 8) && ss.all isStep && fallsT (ss.map firstT)) = true from f3)
              obtain ⟨p1, p2⟩ := Bool.and_eq_true_iff.mp p1
              obtain ⟨_, p3⟩ := Bool.and_eq_true_iff.mp p1
              have p3 := of_decide_eq_true p3
              rw [List.all_eq_true] at p2
              obtain ⟨_, ys, _, _, hyl, hy⟩ := hst.tupE
              refine ⟨.tup (by omega) fun y hy' => ?_, ?_⟩
              · obtain ⟨k, l, rfl, _⟩ := isStep_of (p2 y hy')
                obtain ⟨j, hj, ej⟩ := List.getElem_of_mem hy'
                have hyy := hy j _ _ (List.getElem?_eq_getElem (by omega)) (List.getElem?_eq_getElem hj)
                rw [ej] at hyy
                obtain ⟨_, zs, _, _, hzl, hz⟩ := hyy.tupE
                have hzl : zs.length = 2 := hzl
                have c1 := (hz 0 _ (.int k) (List.getElem?_eq_getElem (by omega)) rfl).intB
                have c2 := (hz 1 _ (.int l) (List.getElem?_eq_getElem (by omega)) rfl).intB
                refine .tup (by show 2 ≤ 60; decide) fun z hz => ?_
                simp only [List.mem_cons, List.not_mem_nil, or_false] at hz
                rcases hz with rfl | rfl
                · exact .int (by omega) (by omega)
                · exact .int (by omega) (by omega)
              · show Th.deepAll ss + 1 ≤ 2
                have := deep_all (ts := ss) (n := 1) fun y hy' => by
                  obtain ⟨k, l, rfl, _⟩ := isStep_of (p2 y hy')
                  exact Nat.le_refl _
                omega
          refine ⟨.tup (by show 2 ≤ 60; decide) fun z hz => ?_, ?_⟩
          · simp only [List.mem_cons, List.not_mem_nil, or_false] at hz
            rcases hz with rfl | rfl
            · exact .int (by omega) (by omega)
            · exact ist.1
          · show max 0 (max st.deep 0) + 1 ≤ 3
            have := ist.2
            omega
    refine ⟨.tup e1 fun x hx => (each x hx).1, ?_⟩
    show Th.deepAll ts + 1 < 5
    have := deep_all (ts := ts) (n := 3) fun x hx => (each x hx).2
    omega
theorem places_th {H : Hp} {o : Addr} {ms : List Int} (e : H o = some (.tup (ms.map V.int))) (bd : ∀ m ∈ ms, 0 ≤ m ∧ m ≤ 2 ^ 200) (h60 : ms.length ≤ 60) : ThAt (2 ^ 200) H (.ref o) (.tup (ms.map Th.int)) ∧ IT (.tup (ms.map Th.int)) ∧ (Th.tup (ms.map Th.int)).deep < 5 := by
  refine ⟨.tup e (by rw [List.length_map, List.length_map]) fun i v t h1 h2 => ?_, .tup (by rw [List.length_map]; exact h60) fun t ht => ?_, ?_⟩
  · rw [List.getElem?_map] at h1 h2
    cases em : ms[i]? with
    | none =>
      rw [em] at h1
      cases h1
    | some m =>
      rw [em] at h1 h2
      cases h1
      cases h2
      have := bd m (List.mem_of_getElem? em)
      exact .int m (by omega) (by omega)
  · obtain ⟨m, hm, rfl⟩ := List.mem_map.mp ht
    have := bd m hm
    exact .int (by omega) (by omega)
  · show Th.deepAll (ms.map Th.int) + 1 < 5
    have := deep_all (ts := ms.map Th.int) (n := 0) fun t ht => by
      obtain ⟨m, _, rfl⟩ := List.mem_map.mp ht
      exact Nat.le_refl _
    omega
/-! ### lists of a wisp, a place and None -/
def LstAt (H : Hp) (e : Addr) (L : Lw) : Prop := ∃ wa, H e = some (.lst [.ref wa, .int L.pl, .non]) ∧ WispAt H wa L.so L.ps
def lstD (L : Lw) : PyData := .list [wispD L.so L.ps, .int L.pl, .none]
def LstsAt (H : Hp) (D : Addr) (es : List Addr) (Ls : List Lw) : Prop := es.length = Ls.length ∧ ∀ (i : Nat) (e : Addr), es[i]? = some e → ∃ L, Ls[i]? = some L ∧ LstAt H e L ∧ e ≠ D
theorem LstsAt.nil {H : Hp} {D : Addr} : LstsAt H D [] [] := ⟨rfl, fun i e h => by cases h⟩
theorem LstAt.same {H H' : Hp} {e : Addr} {L : Lw} (s : Same H H') (h : LstAt H e L) : LstAt H' e L := by
  obtain ⟨wa, h1, h2⟩ := h
  exact ⟨wa, s _ _ h1, h2.mono (Tups.same s)⟩
theorem LstsAt.same {H H' : Hp} {D : Addr} {es : List Addr} {Ls : List Lw} (s : Same H H') (h : LstsAt H D es Ls) : LstsAt H' D es Ls :=
  ⟨h.1, fun i e he => by
    obtain ⟨L, h1, h2, h3⟩ := h.2 i e he
    exact ⟨L, h1, h2.same s, h3⟩⟩
theorem LstsAt.put {H : Hp} {D : Addr} {es : List Addr} {Ls : List Lw} {xs ys : List V} (h : LstsAt H D es Ls) (e : H D = some (.lst xs)) : LstsAt (upd H D (.lst ys)) D es Ls :=
  ⟨h.1, fun i c he => by
    obtain ⟨L, h1, ⟨wa, h2, h4⟩, h3⟩ := h.2 i c he
    exact ⟨L, h1, ⟨wa, (upd_ne h3).trans h2, h4.mono (Tups.ls e)⟩, h3⟩⟩
theorem LstsAt.snoc {H : Hp} {D c : Addr} {es : List Addr} {Ls : List Lw} {L : Lw} (h : LstsAt H D es Ls) (hc : LstAt H c L) (n : c ≠ D) : LstsAt H D (es ++ [c]) (Ls ++ [L]) := by
  refine ⟨by rw [List.length_append, List.length_append, h.1]; rfl, fun i e he => ?_⟩
  by_cases hi : i < es.length
  · rw [List.getElem?_append_left hi] at he
    obtain ⟨M, h1, h2, h3⟩ := h.2 i e he
    exact ⟨M, by rw [List.getElem?_append_left (by rw [← h.1]; exact hi)]; exact h1, h2, h3⟩
  · rw [List.getElem?_append_right (by omega)] at he
    have hz : i - es.length = 0 := by
      have := (List.getElem?_eq_some_iff.mp he).1
      have h1 : [c].length = 1 := rfl
      omega
    rw [hz] at he
    have : c = e := Option.some.inj he
    subst this
    refine ⟨L, ?_, hc, n⟩
    rw [List.getElem?_append_right (by rw [← h.1]; omega), ← h.1, hz]
    rfl
theorem lsts_dpA {K : PySem.W.Frag} {H : Hp} {D : Addr} : ∀ {es : List Addr} {Ls : List Lw}, LstsAt H D es Ls → DpAll K H (es.map V.ref) (Ls.map lstD)
  | [], [], _ => .nil
  | [], _ :: _, h => absurd h.1 (by simp)
  | _ :: _, [], h => absurd h.1 (by simp)
  | e :: es, L :: Ls, h => by
    obtain ⟨M, h1, ⟨wa, h2, h3⟩, _⟩ := h.2 0 e rfl
    have : L = M := Option.some.inj h1
    subst this
    exact .cons (.lst (SqL.of h2) (.cons h3.dp (.cons (.int _) (.cons .non .nil)))) (lsts_dpA ⟨Nat.succ.inj (by simpa using h.1), fun i b hb => h.2 (i + 1) b hb⟩)
theorem lsts_ne {K : PySem.W.Frag} {H : Hp} {a b D : Addr} {es fs : List Addr} {Ls : List Lw} {Q : VK} (ea : H a = some (.lst (es.map V.ref))) (eb : H b = some (.lst (fs.map V.ref))) (ha : LstsAt H D es Ls) (hb : LstsAt H b fs Ls) (g : ∀ L ∈ Ls, Good L.ps ∧ 0 ≤ L.so ∧ L.so ≤ 1 ∧ 0 ≤ L.pl ∧ L.pl < 2 ^ 250) (q : Q (.bl false) H) : rNeD K (.ref a) (.ref b) H Q := by
  have sh : SeqAt.shaped (.list (Ls.map lstD)) = true := by
    refine Sh.shaped (.lst fun x hx => ?_) ?_
    · obtain ⟨L, hL, rfl⟩ := List.mem_map.mp hx
      obtain ⟨g1, g2, g3, g4, g5⟩ := g L hL
      refine .lst fun y hy => ?_
      simp only [List.mem_cons, List.not_mem_nil, or_false] at hy
      rcases hy with rfl | rfl | rfl
      · exact wisp_sh g2 g3 g1
      · exact .int (log_lt g4 g5)
      · exact .non
    · refine Nat.le_trans (Nat.succ_le_succ (depth_all (n := 4) fun x hx => ?_)) (by decide)
      obtain ⟨L, hL, rfl⟩ := List.mem_map.mp hx
      show max (wispD L.so L.ps).depth (max 0 (max 0 0)) + 1 ≤ 4
      have := wisp_depth L.so L.ps
      omega
  refine ⟨.list (Ls.map lstD), .list (Ls.map lstD), .lst (SqL.of ea) (lsts_dpA ha), .lst (SqL.of eb) (lsts_dpA hb), sh, sh, ?_⟩
  rw [SeqAt.eqv_refl _ (SeqAt.canLay_of_shaped sh)]
  exact q
/-! ### things at addresses, one by one -/
def Each {α : Type} (φ : Addr → α → Prop) (as : List Addr) (xs : List α) : Prop := as.length = xs.length ∧ ∀ (i : Nat) (a : Addr) (x : α), as[i]? = some a → xs[i]? = some x → φ a x
section
variable {α : Type} {φ ψ : Addr → α → Prop}
theorem Each.mono {as : List Addr} {xs : List α} (h : Each φ as xs) (f : ∀ a x, φ a x → ψ a x) : Each ψ as xs := ⟨h.1, fun i a x h1 h2 => f a x (h.2 i a x h1 h2)⟩
theorem Each.nil : Each φ [] [] := ⟨rfl, fun i a x h => by cases h⟩
theorem Each.app {as bs : List Addr} {xs ys : List α} (h : Each φ as xs) (g : Each φ bs ys) : Each φ (as ++ bs) (xs ++ ys) := by
  refine ⟨by rw [List.length_append, List.length_append, h.1, g.1], fun i a x e1 e2 => ?_⟩
  by_cases c : i < as.length
  · rw [List.getElem?_append_left c] at e1
    rw [List.getElem?_append_left (by rw [← h.1]; exact c)] at e2
    exact h.2 i a x e1 e2
  · rw [List.getElem?_append_right (by omega)] at e1
    rw [List.getElem?_append_right (by rw [← h.1]; omega), ← h.1] at e2
    exact g.2 _ a x e1 e2
theorem Each.one {a : Addr} {x : α} (h : φ a x) : Each φ [a] [x] := ⟨rfl, fun i b y e1 e2 => by
  cases i with
  | zero =>
    cases e1
    cases e2
    exact h
  | succ i => cases e1⟩
theorem Each.snoc {as : List Addr} {xs : List α} {a : Addr} {x : α} (h : Each φ as xs) (e : φ a x) : Each φ (as ++ [a]) (xs ++ [x]) := h.app (Each.one e)
theorem Each.take {as : List Addr} {xs : List α} (h : Each φ as xs) (n : Nat) : Each φ (as.take n) (xs.take n) := by
  refine ⟨by rw [List.length_take, List.length_take, h.1], fun i a x e1 e2 => ?_⟩
  rw [List.getElem?_take] at e1 e2
  split at e1
  · next c =>
    rw [if_pos c] at e2
    exact h.2 i a x e1 e2
  · cases e1
theorem Each.drop {as : List Addr} {xs : List α} (h : Each φ as xs) (n : Nat) : Each φ (as.drop n) (xs.drop n) := by
  refine ⟨by rw [List.length_drop, List.length_drop, h.1], fun i a x e1 e2 => ?_⟩
  rw [List.getElem?_drop] at e1 e2
  exact h.2 _ a x e1 e2
theorem Each.get {as : List Addr} {xs : List α} (h : Each φ as xs) {i : Nat} {v : V} (e : (as.map V.ref)[i]? = some v) : ∃ a x, v = .ref a ∧ as[i]? = some a ∧ xs[i]? = some x ∧ φ a x := by
  obtain ⟨a, rfl, ea⟩ := ref_get e
  have hi := (List.getElem?_eq_some_iff.mp ea).1
  have ex : xs[i]? = some (xs[i]'(by rw [← h.1]; exact hi)) := List.getElem?_eq_getElem _
  exact ⟨a, _, rfl, ea, ex, h.2 i a _ ea ex⟩
end
/-! ### numbers as texts, texts put together and parted -/
abbrev tI (n : Int) : Str := Str.ofString (toString n)
abbrev cpl (s : Str) : List Nat := s.cps.toList
theorem str_ext {a b : Str} (h : cpl a = cpl b) : a = b := by
  cases a with
  | mk a =>
  cases b with
  | mk b =>
  have : a = b := Array.toList_inj.mp h
  rw [this]
theorem cpl_app (a b : Str) : cpl (a ++ b) = cpl a ++ cpl b := by
  show (a ++ b).cps.toList = _
  rw [Str.cps_append, Array.toList_append]
theorem cpl_len (a : Str) : a.length = (cpl a).length := rfl
theorem digs (n : Nat) : ∃ c r, (Nat.toDigits 10 n).map Char.toNat = c :: r ∧ (∀ x ∈ c :: r, 48 ≤ x ∧ x ≤ 57) ∧ NumText.digitsVal (c :: r) = n ∧ (c = 48 → n = 0 ∧ r = []) := by
  induction n using Nat.strongRecOn with
  | _ n ih =>
    have hd : ∀ d, d < 10 → (Nat.digitChar d).toNat = 48 + d := fun d hd => by
      match d, hd with
      | 0, _ => rfl
      | 1, _ => rfl
      | 2, _ => rfl
      | 3, _ => rfl
      | 4, _ => rfl
      | 5, _ => rfl
      | 6, _ => rfl
      | 7, _ => rfl
      | 8, _ => rfl
      | 9, _ => rfl
      | _ + 10, h => omega
    by_cases h : n < 10
    · rw [Nat.toDigits_of_lt_base h]
      refine ⟨48 + n, [], by show [(Nat.digitChar n).toNat] = _; rw [hd n h], fun x hx => ?_, ?_, fun e => ⟨by omega, rfl⟩⟩
      · rw [List.mem_singleton.mp hx]
        omega
      · show 0 * 10 + (48 + n - 48) = n
        omega
    · obtain ⟨c, r, e1, e2, e3, e4⟩ := ih (n / 10) (by omega)
      rw [Nat.toDigits_of_base_le (by decide) (by omega)]
      have hm := hd (n % 10) (by omega)
      refine ⟨c, r ++ [48 + n % 10], ?_, fun x hx => ?_, ?_, fun e => ?_⟩
      · rw [List.map_append, e1]
        show c :: r ++ [(Nat.digitChar (n % 10)).toNat] = _
        rw [hm]
        rfl
      · have hx : x ∈ (c :: r) ++ [48 + n % 10] := hx
        rcases List.mem_append.mp hx with hx | hx
        · exact e2 x hx
        · rw [List.mem_singleton.mp hx]
          omega
      · show NumText.digitsVal ((c :: r) ++ [48 + n % 10]) = n
        rw [NumText.digitsVal_snoc, e3]
        omega
      · have := (e4 e).1
        omega
theorem tI_cps {n : Int} (h : 0 ≤ n) : cpl (tI n) = (Nat.toDigits 10 n.toNat).map Char.toNat := by
  obtain ⟨m, rfl⟩ : ∃ m : Nat, n = m := ⟨n.toNat, by omega⟩
  show (Str.ofString (toString (m : Int))).cps.toList = _
  rw [signs_ofString]
  show (toString m).toList.map Char.toNat = _
  rw [Int.toNat_natCast]
  show (Nat.repr m).toList.map _ = _
  rw [Nat.repr, String.toList_ofList]
theorem tI_dig {n : Int} (h : 0 ≤ n) : ∃ c r, cpl (tI n) = c :: r ∧ (∀ x ∈ cpl (tI n), 48 ≤ x ∧ x ≤ 57) ∧ (c = 48 → n = 0) := by
  obtain ⟨c, r, e1, e2, e3, e4⟩ := digs n.toNat
  rw [tI_cps h, e1]
  exact ⟨c, r, rfl, e2, fun e => by have := (e4 e).1; omega⟩
theorem tI_free {n : Int} (h : 0 ≤ n) {c : Nat} (hc : c < 48 ∨ 57 < c) : c ∉ cpl (tI n) := fun hm => by
  obtain ⟨_, _, _, h2, _⟩ := tI_dig h
  have := h2 c hm
  omega
theorem tI_len {n : Int} (h : 0 ≤ n) (h2 : n < 10 ^ 40) : 1 ≤ (tI n).length ∧ (tI n).length ≤ 40 := by
  refine ⟨?_, toString_length_le h (by decide) h2⟩
  obtain ⟨c, r, e, _⟩ := tI_dig h
  rw [cpl_len, e]
  exact Nat.succ_le_succ (Nat.zero_le _)
theorem tI_int {n : Int} (h : 0 ≤ n) (h2 : n < 10 ^ 40) : intText? (tI n) = some n := by
  obtain ⟨c, r, e1, e2, e3, e4⟩ := digs n.toNat
  have hc := tI_cps h
  rw [e1] at hc
  have := intText_digits (x := tI n) (by rw [show (tI n).cps.toList = c :: r from hc]; exact e2) (by rw [show (tI n).cps.toList = c :: r from hc]; simp) (by have := (tI_len h h2).2; omega)
  rw [this, show (tI n).cps.toList = c :: r from hc, e3]
  congr 1
  omega
theorem tI_log {n : Int} (h : 0 ≤ n) (h2 : n < 10 ^ 40) : n.natAbs.log2 < 1920 := by
  by_cases e : n = 0
  · subst e
    decide
  · have : n.natAbs < 2 ^ 140 := by omega
    have := (Nat.log2_lt (by omega)).mpr this
    omega
/-- texts without a sign, put together by it -/
theorem free_head {c : Nat} : ∀ {a a' b b' : List Nat}, c ∉ a → c ∉ a' → a ++ c :: b = a' ++ c :: b' → a = a' ∧ b = b'
  | [], [], _, _, _, _, h => ⟨rfl, (List.cons.inj h).2⟩
  | [], x :: r, _, _, _, h2, h => by
    have := (List.cons.inj h).1
    subst this
    exact absurd (by simp) h2
  | x :: r, [], _, _, h1, _, h => by
    have := (List.cons.inj h).1
    subst this
    exact absurd (by simp) h1
  | x :: r, y :: s, _, _, h1, h2, h => by
    obtain ⟨e1, e2⟩ := List.cons.inj h
    subst e1
    obtain ⟨e3, e4⟩ := free_head (fun m => h1 (List.mem_cons_of_mem _ m)) (fun m => h2 (List.mem_cons_of_mem _ m)) e2
    exact ⟨by rw [e3], e4⟩
def gl (c : Nat) : List (List Nat) → List Nat
  | [] => []
  | [x] => x
  | x :: y :: r => x ++ c :: gl c (y :: r)
theorem gl_inj {c : Nat} : ∀ {xs ys : List (List Nat)}, xs ≠ [] → ys ≠ [] → (∀ x ∈ xs, c ∉ x) → (∀ y ∈ ys, c ∉ y) → gl c xs = gl c ys → xs = ys
  | [], _, h, _, _, _, _ => absurd rfl h
  | _ :: _, [], _, h, _, _, _ => absurd rfl h
  | [x], [y], _, _, _, _, h => by
    have h : x = y := h
    rw [h]
  | [x], y :: z :: s, _, _, h1, _, h => by
    have h : x = y ++ c :: gl c (z :: s) := h
    exact absurd (by rw [h]; simp) (h1 x (by simp))
  | x :: w :: r, [y], _, _, _, h2, h => by
    have h : x ++ c :: gl c (w :: r) = y := h
    exact absurd (by rw [← h]; simp) (h2 y (by simp))
  | x :: w :: r, y :: z :: s, _, _, h1, h2, h => by
    have h : x ++ c :: gl c (w :: r) = y ++ c :: gl c (z :: s) := h
    obtain ⟨e1, e2⟩ := free_head (h1 x (by simp)) (h2 y (by simp)) h
    subst e1
    have := gl_inj (xs := w :: r) (ys := z :: s) (by simp) (by simp) (fun a ha => h1 a (List.mem_cons_of_mem _ ha)) (fun a ha => h2 a (List.mem_cons_of_mem _ ha)) e2
    rw [this]
theorem join_gl (c : Nat) : ∀ xs : List Str, cpl (Str.join ⟨#[c]⟩ xs) = gl c (xs.map cpl)
  | [] => by
    rw [PyProof.Rows.join_nil]
    rfl
  | [x] => by
    rw [join_one]
    rfl
  | x :: y :: r => by
    rw [join_cons_cons, cpl_app, cpl_app, join_gl c (y :: r)]
    show cpl x ++ [c] ++ gl c ((y :: r).map cpl) = cpl x ++ c :: gl c ((y :: r).map cpl)
    rw [List.append_assoc]
    rfl
theorem join_eq (sep : Str) (xs : List Str) : Txt.join sep xs = Str.join sep xs := by
  have := join_plain_closes sep xs
  simpa using this
theorem map_cpl_inj {xs ys : List Str} (h : xs.map cpl = ys.map cpl) : xs = ys := by
  induction xs generalizing ys with
  | nil =>
    cases ys with
    | nil => rfl
    | cons _ _ => cases h
  | cons x r ih =>
    cases ys with
    | nil => cases h
    | cons y s =>
      obtain ⟨e1, e2⟩ := List.cons.inj h
      rw [str_ext e1, ih e2]
theorem split_glued (c : Nat) {xs : List Str} (hne : xs ≠ []) (hf : ∀ x ∈ xs, c ∉ cpl x) : Txt.split (Txt.join ⟨#[c]⟩ xs) ⟨#[c]⟩ = xs := by
  rw [join_eq]
  have h1 := StrLaws.join_split (Str.join ⟨#[c]⟩ xs) ⟨#[c]⟩
  have h2 := congrArg cpl h1
  rw [join_gl, join_gl] at h2
  have hp := split_pos (Str.join ⟨#[c]⟩ xs) ⟨#[c]⟩
  refine map_cpl_inj (gl_inj ?_ ?_ (fun x hx => ?_) (fun x hx => ?_) h2)
  · intro e
    rw [List.map_eq_nil_iff] at e
    rw [e] at hp
    cases hp
  · intro e
    exact hne (List.map_eq_nil_iff.mp e)
  · obtain ⟨y, hy, rfl⟩ := List.mem_map.mp hx
    exact StrLaws.split_free _ c y hy
  · obtain ⟨y, hy, rfl⟩ := List.mem_map.mp hx
    exact hf y hy
theorem part_at (c : Nat) (a b : Str) (hf : c ∉ cpl a) : Txt.partition (a ++ ⟨#[c]⟩ ++ b) ⟨#[c]⟩ = (a, ⟨#[c]⟩, b) := by
  have hx : cpl (a ++ ⟨#[c]⟩ ++ b) = cpl a ++ c :: cpl b := by
    rw [cpl_app, cpl_app, List.append_assoc]
    rfl
  generalize hX : a ++ ⟨#[c]⟩ ++ b = x at hx
  have hs := StrLaws.partition_sum x ⟨#[c]⟩
  have at_iff : ∀ i, StrLaws.At x ⟨#[c]⟩ x.length i ↔ (cpl x)[i]? = some c := fun i => by
    unfold StrLaws.At Builtin.Str.subAt
    rw [beq_iff_eq]
    have e1 : (x.cps.extract i (i + 1)).toList = ((cpl x).drop i).take 1 := by
      rw [Array.toList_extract, List.extract_eq_take_drop]
      congr 1
      omega
    constructor
    · rintro ⟨_, h⟩
      have h : x.cps.extract i (i + 1) = #[c] := h
      rw [h] at e1
      have e2 : ((cpl x).drop i)[0]? = some c := by
        have := congrArg (fun l => l[0]?) e1
        rw [List.getElem?_take_of_lt (by decide)] at this
        exact this.symm
      rw [List.getElem?_drop] at e2
      exact e2
    · intro h
      have hi := (List.getElem?_eq_some_iff.mp h).1
      refine ⟨hi, Array.toList_inj.mp ?_⟩
      show (x.cps.extract i (i + 1)).toList = [c]
      rw [e1]
      obtain ⟨hl, hv⟩ := List.getElem?_eq_some_iff.mp h
      rw [List.drop_eq_getElem_cons hl, hv]
      rfl
  rcases partition_whole x ⟨#[c]⟩ with ⟨h1, h2⟩ | ⟨i, h1, h2, h3⟩
  · exact absurd ((at_iff (cpl a).length).mpr (by rw [hx]; simp)) (h2 _)
  · have hi := (at_iff i).mp h2
    rw [h1] at hs ⊢
    have hs := congrArg cpl hs
    dsimp only at hs
    rw [cpl_app, cpl_app, hx, List.append_assoc] at hs
    have hs : cpl (Builtin.Str.strSub x 0 i) ++ c :: cpl (Builtin.Str.strSub x (i + (⟨#[c]⟩ : Str).length) x.length) = cpl a ++ c :: cpl b := hs
    have hfree : c ∉ cpl (Builtin.Str.strSub x 0 i) := fun hm => by
      obtain ⟨k, hk, ek⟩ := List.getElem_of_mem hm
      have e0 : cpl (Builtin.Str.strSub x 0 i) = (cpl x).take i := by
        show (x.cps.extract 0 i).toList = _
        rw [Array.toList_extract, List.extract_eq_take_drop, List.drop_zero, Nat.sub_zero]
      have hk2 : k < i := by
        rw [e0, List.length_take] at hk
        omega
      refine h3 k hk2 ((at_iff k).mpr ?_)
      have := List.getElem?_eq_getElem hk
      rw [ek, e0, List.getElem?_take_of_lt hk2] at this
      exact this
    obtain ⟨e1, e2⟩ := free_head hfree hf hs
    rw [str_ext e1, str_ext e2]
def tJoin (ts : List TE) : TE := fun σ H Q => tJs ts Str.empty σ H fun out H1 => Q (.str out) H1
theorem pe_joinN {X : Cx} {v1 v2 : Expr} {rest : List Expr} {ts : List TE} {pos : Pos} (h : PJ X (v1 :: v2 :: rest) ts) : PE X (.JoinedStr (v1 :: v2 :: rest) pos) (tJoin ts) := pe_joined h
/-! ### wisps and rows as texts -/
def GoodP (ps : List (Int × Int)) : Prop := 1 ≤ ps.length ∧ ps.length ≤ 8 ∧ ∀ p ∈ ps, 1 ≤ p.1 ∧ p.1 < 2 ^ 130 ∧ 1 ≤ p.2 ∧ p.2 < 2 ^ 126
def spWispP : Sp := fun vs H Q _ => ∃ (p l : Addr) (T : Nat) (most : Int) (small : Bool), vs = [.ref p, .int most, .bl small] ∧ Pot H p l T ∧ T < 2 ^ 38 ∧ 1 ≤ most ∧ most ≤ 8 ∧
  ∀ H' a s ps, Pot H' p l (T + 150) → Keep p l H H' → WispAt H' a s ps → 0 ≤ s → s ≤ 1 → GoodP ps → (ps.length : Int) ≤ most → Falls ps → (small = true → Small ps) → H a = none → Q (.ref a) H'
/-- a wisp of numbers of at most forty figures -/
structure NumW (W : Wi) : Prop where
  s0 : 0 ≤ W.1
  s1 : W.1 ≤ 1
  l1 : 1 ≤ W.2.length
  l8 : W.2.length ≤ 8
  fa : Falls W.2
  bd : ∀ x ∈ W.2, 1 ≤ x.1 ∧ x.1 < 10 ^ 40 ∧ 1 ≤ x.2 ∧ x.2 < 10 ^ 40
def stepTx (p : Int × Int) : Str := tI p.1 ++ (⟨#[120]⟩ : Str) ++ tI p.2
def wispTx (W : Wi) : Str := tI W.1 ++ (⟨#[58]⟩ : Str) ++ Txt.join ⟨#[44]⟩ (W.2.map stepTx)
def rowTx (Ws : List Wi) : Str := if Ws = [] then ⟨#[45]⟩ else Txt.join ⟨#[32]⟩ (Ws.map wispTx)
theorem empty_app (a : Str) : Str.empty ++ a = a := str_ext (by rw [cpl_app]; rfl)
theorem step_free {p : Int × Int} (h1 : 0 ≤ p.1) (h2 : 0 ≤ p.2) {c : Nat} (hc : c < 48 ∨ 57 < c) (h3 : c ≠ 120) : c ∉ cpl (stepTx p) := by
  unfold stepTx
  rw [cpl_app, cpl_app]
  intro h
  rcases List.mem_append.mp h with h | h
  · rcases List.mem_append.mp h with h | h
    · exact tI_free h1 hc h
    · exact h3 (by simpa using h)
  · exact tI_free h2 hc h
theorem step_len {p : Int × Int} (h1 : 0 ≤ p.1) (h2 : 0 ≤ p.2) (h3 : p.1 < 10 ^ 40) (h4 : p.2 < 10 ^ 40) : (stepTx p).length ≤ 81 := by
  unfold stepTx
  rw [Str.length_append, Str.length_append]
  have := (tI_len h1 h3).2
  have := (tI_len h2 h4).2
  have : (⟨#[120]⟩ : Str).length = 1 := rfl
  omega
theorem gl_mem {c d : Nat} : ∀ {xs : List (List Nat)}, d ∈ gl c xs → d = c ∨ ∃ x ∈ xs, d ∈ x
  | [], h => by cases h
  | [x], h => .inr ⟨x, by simp, h⟩
  | x :: y :: r, h => by
    have h : d ∈ x ++ c :: gl c (y :: r) := h
    rcases List.mem_append.mp h with h | h
    · exact .inr ⟨x, by simp, h⟩
    · rcases List.mem_cons.mp h with h | h
      · exact .inl h
      · rcases gl_mem h with h | ⟨z, hz, h⟩
        · exact .inl h
        · exact .inr ⟨z, List.mem_cons_of_mem _ hz, h⟩
theorem join_free {c d : Nat} {xs : List Str} (h : ∀ x ∈ xs, d ∉ cpl x) (hd : d ≠ c) : d ∉ cpl (Txt.join ⟨#[c]⟩ xs) := by
  rw [join_eq, join_gl]
  intro hm
  rcases gl_mem hm with h1 | ⟨x, hx, h1⟩
  · exact hd h1
  · obtain ⟨y, hy, rfl⟩ := List.mem_map.mp hx
    exact h y hy h1
theorem gl_len {c N : Nat} : ∀ {xs : List (List Nat)}, (∀ x ∈ xs, x.length ≤ N) → (gl c xs).length ≤ xs.length * (N + 1)
  | [], _ => Nat.zero_le _
  | [x], h => by
    have := h x (by simp)
    show x.length ≤ 1 * (N + 1)
    omega
  | x :: y :: r, h => by
    have h1 := h x (by simp)
    have h2 := gl_len (c := c) (xs := y :: r) fun z hz => h z (List.mem_cons_of_mem _ hz)
    show (x ++ c :: gl c (y :: r)).length ≤ ((y :: r).length + 1) * (N + 1)
    rw [List.length_append, List.length_cons, Nat.add_mul]
    omega
theorem join_len {c N : Nat} {xs : List Str} (h : ∀ x ∈ xs, x.length ≤ N) : (Txt.join ⟨#[c]⟩ xs).length ≤ xs.length * (N + 1) := by
  rw [join_eq, cpl_len, join_gl]
  have := gl_len (c := c) (N := N) (xs := xs.map cpl) fun x hx => by
    obtain ⟨y, hy, rfl⟩ := List.mem_map.mp hx
    exact h y hy
  rw [List.length_map] at this
  exact this
theorem sum_len {N : Nat} : ∀ {xs : List Str}, (∀ x ∈ xs, x.length ≤ N) → (xs.map (·.length)).sum ≤ xs.length * N
  | [], _ => by simp
  | x :: r, h => by
    have h1 := h x List.mem_cons_self
    have h2 := sum_len (xs := r) fun y hy => h y (List.mem_cons_of_mem _ hy)
    rw [List.map_cons, List.sum_cons, List.length_cons, Nat.add_mul]
    omega
theorem NumW.steps_free {W : Wi} (g : NumW W) {c : Nat} (hc : c < 48 ∨ 57 < c) (h3 : c ≠ 120) : ∀ x ∈ W.2.map stepTx, c ∉ cpl x := fun x hx => by
  obtain ⟨p, hp, rfl⟩ := List.mem_map.mp hx
  have := g.bd p hp
  exact step_free (by omega) (by omega) hc h3
theorem NumW.steps_len {W : Wi} (g : NumW W) : ∀ x ∈ W.2.map stepTx, x.length ≤ 81 := fun x hx => by
  obtain ⟨p, hp, rfl⟩ := List.mem_map.mp hx
  have := g.bd p hp
  exact step_len (by omega) (by omega) this.2.1 this.2.2.2
theorem NumW.join_len {W : Wi} (g : NumW W) : (Txt.join ⟨#[44]⟩ (W.2.map stepTx)).length ≤ 656 := by
  have := My.join_len (c := 44) g.steps_len
  rw [List.length_map] at this
  have := g.l8
  omega
theorem NumW.text_len {W : Wi} (g : NumW W) : (wispTx W).length ≤ 700 := by
  unfold wispTx
  rw [Str.length_append, Str.length_append]
  have := (tI_len g.s0 (by have := g.s1; omega)).2
  have := g.join_len
  have : (⟨#[58]⟩ : Str).length = 1 := rfl
  omega
theorem NumW.text_free {W : Wi} (g : NumW W) : 32 ∉ cpl (wispTx W) := by
  unfold wispTx
  rw [cpl_app, cpl_app]
  intro h
  rcases List.mem_append.mp h with h | h
  · rcases List.mem_append.mp h with h | h
    · exact tI_free g.s0 (.inl (by decide)) h
    · simp at h
  · exact join_free (g.steps_free (.inl (by decide)) (by decide)) (by decide) h
theorem NumW.part {W : Wi} (g : NumW W) : Txt.partition (wispTx W) ⟨#[58]⟩ = (tI W.1, ⟨#[58]⟩, Txt.join ⟨#[44]⟩ (W.2.map stepTx)) := part_at 58 _ _ (tI_free g.s0 (.inr (by decide)))
theorem NumW.split {W : Wi} (g : NumW W) : Txt.split (Txt.join ⟨#[44]⟩ (W.2.map stepTx)) ⟨#[44]⟩ = W.2.map stepTx := split_glued 44 (fun e => by
  have := g.l1
  rw [List.map_eq_nil_iff.mp e] at this
  cases this) (g.steps_free (.inl (by decide)) (by decide))
theorem step_part {p : Int × Int} (h1 : 0 ≤ p.1) : Txt.partition (stepTx p) ⟨#[120]⟩ = (tI p.1, ⟨#[120]⟩, tI p.2) := part_at 120 _ _ (tI_free h1 (.inr (by decide)))
theorem row_split {Ws : List Wi} (g : ∀ W ∈ Ws, NumW W) (hne : Ws ≠ []) : Txt.split (rowTx Ws) ⟨#[32]⟩ = Ws.map wispTx := by
  unfold rowTx
  rw [if_neg hne]
  refine split_glued 32 (fun e => hne (List.map_eq_nil_iff.mp e)) fun x hx => ?_
  obtain ⟨W, hW, rfl⟩ := List.mem_map.mp hx
  exact (g W hW).text_free
theorem row_len {Ws : List Wi} (g : ∀ W ∈ Ws, NumW W) (h60 : Ws.length ≤ 60) : (rowTx Ws).length ≤ 42060 := by
  unfold rowTx
  split
  · decide
  · have := My.join_len (c := 32) (N := 700) (xs := Ws.map wispTx) fun x hx => by
      obtain ⟨W, hW, rfl⟩ := List.mem_map.mp hx
      exact (g W hW).text_len
    rw [List.length_map] at this
    omega
theorem gl_pos {c : Nat} : ∀ {xs : List (List Nat)} {x : List Nat} {d : Nat}, x ∈ xs → d ∈ x → d ∈ gl c xs
  | [y], x, d, hx, hd => by
    rw [List.mem_singleton.mp hx] at hd
    exact hd
  | y :: z :: r, x, d, hx, hd => by
    show d ∈ y ++ c :: gl c (z :: r)
    rcases List.mem_cons.mp hx with rfl | hx
    · exact List.mem_append_left _ hd
    · exact List.mem_append_right _ (List.mem_cons_of_mem _ (gl_pos hx hd))
theorem row_join {Ws : List Wi} (hne : Ws ≠ []) : 58 ∈ cpl (Txt.join ⟨#[32]⟩ (Ws.map wispTx)) := by
  rw [join_eq, join_gl]
  obtain ⟨W, hW⟩ := List.exists_mem_of_ne_nil _ hne
  refine gl_pos (List.mem_map_of_mem (List.mem_map_of_mem hW)) (?_ : 58 ∈ cpl (wispTx W))
  unfold wispTx
  rw [cpl_app, cpl_app]
  exact List.mem_append_left _ (List.mem_append_right _ (by simp))
theorem row_dash {Ws : List Wi} (hne : Ws ≠ []) : rowTx Ws ≠ ⟨#[45]⟩ := fun e => by
  unfold rowTx at e
  rw [if_neg hne] at e
  have := row_join hne
  rw [e] at this
  simp at this
theorem NumW.th {H : Hp} {a : Addr} {W : Wi} (h : WispAt H a W.1 W.2) (g : NumW W) : ThAt topB H (.ref a) (wispT W) := by
  obtain ⟨st, as, e1, e2, tu⟩ := h
  have h0 := g.s0
  have h1 := g.s1
  have tb : (10 : Int) ^ 40 ≤ topB := by decide
  refine .tup e1 rfl fun j u t g1 g2 => ?_
  match j, g1, g2 with
  | 0, g1, g2 =>
    cases g1
    cases g2
    exact .int _ (by omega) (by omega)
  | 1, g1, g2 =>
    cases g1
    cases g2
    exact steps_th e2 tu fun b hb => by
      have := g.bd b hb
      omega
theorem NumW.isW {W : Wi} (g : NumW W) : isWispT (wispT W) = true := by
  have hall : (W.2.map brT).all isStep = true := by
    rw [List.all_eq_true]
    intro t ht
    obtain ⟨b, hb, rfl⟩ := List.mem_map.mp ht
    have := g.bd b hb
    show (decide (1 ≤ b.1) && decide (1 ≤ b.2)) = true
    rw [decide_eq_true (by omega), decide_eq_true (by omega)]
    rfl
  show (decide (0 ≤ W.1) && decide (W.1 ≤ 1) && (decide (1 ≤ (W.2.map brT).length) && decide ((W.2.map brT).length ≤ 8) && (W.2.map brT).all isStep && fallsT ((W.2.map brT).map firstT))) = true
  rw [hall, falls_of g.fa, List.length_map, decide_eq_true g.s0, decide_eq_true g.s1, decide_eq_true g.l1, decide_eq_true g.l8]
  rfl
theorem num_row_th {H : Hp} {r : Addr} {as : List Addr} {Ws : List Wi} (e : H r = some (.tup (as.map V.ref))) (ra : RowAt H as Ws) (g : ∀ W ∈ Ws, NumW W) : ThAt topB H (.ref r) (.tup (Ws.map wispT)) := by
  refine .tup e (by rw [List.length_map, List.length_map, ra.1]) fun i v t h1 h2 => ?_
  rw [List.getElem?_map] at h1 h2
  cases ea : as[i]? with
  | none =>
    rw [ea] at h1
    cases h1
  | some a =>
    rw [ea] at h1
    obtain ⟨W, eW, hW⟩ := ra.2 i a ea
    rw [eW] at h2
    have h1 : V.ref a = v := Option.some.inj h1
    have h2 : wispT W = t := Option.some.inj h2
    subst h1
    subst h2
    exact (g W (List.mem_of_getElem? eW)).th hW
theorem num_isRow {Ws : List Wi} (g : ∀ W ∈ Ws, NumW W) (h60 : Ws.length ≤ 60) : isRowT (.tup (Ws.map wispT)) = true := by
  show (decide ((Ws.map wispT).length ≤ 60) && (Ws.map wispT).all isWispT) = true
  rw [List.length_map, decide_eq_true h60, Bool.true_and, List.all_eq_true]
  intro t ht
  obtain ⟨W, hW, rfl⟩ := List.mem_map.mp ht
  exact (g W hW).isW
def RowN (H : Hp) (r : Addr) (Ws : List Wi) : Prop := ∃ as, H r = some (.tup (as.map V.ref)) ∧ RowAt H as Ws ∧ (∀ W ∈ Ws, NumW W) ∧ Ws.length ≤ 60
theorem RowN.mono {H H' : Hp} {r : Addr} {Ws : List Wi} (h : RowN H r Ws) (t : Tups H H') : RowN H' r Ws := by
  obtain ⟨as, e, ra, g, l⟩ := h
  exact ⟨as, t _ _ e, ra.mono t, g, l⟩
/-- data of numbers, texts and tuples -/
inductive TX : PyData → Prop where
  | int (i : Int) : TX (.int i)
  | str (s : Str) (h : SeqAt.shaped (.str s) = true) : TX (.str s)
  | tup {xs : List PyData} (h : ∀ x ∈ xs, TX x) (hl : xs.length ≤ 1000) : TX (.tuple xs)
def spSame64 (K : PySem.W.Frag) (n : Nat) : Sp := fun vs H Q _ => ∃ (x y : V) (d : PyData), vs = [x, y] ∧ TX d ∧ d.depth < n ∧ Dp K H x d ∧ Dp K H y d ∧ ∀ H', Same H H' → Q (.bl true) H'
def spWhole64 : Sp := fun vs H Q _ => ∃ v, vs = [v] ∧ ((∃ i, v = .int i ∧ Q (.bl true) H) ∨ (∃ s, v = .str s ∧ Q (.bl false) H))
def spShowW : Sp := fun vs H Q _ => ∃ (a : Addr) (W : Wi), vs = [.ref a] ∧ WispAt H a W.1 W.2 ∧ NumW W ∧ ∀ H', Same H H' → Q (.str (wispTx W)) H'
def spShowR : Sp := fun vs H Q _ => ∃ (r : Addr) (Ws : List Wi), vs = [.ref r] ∧ RowN H r Ws ∧ ∀ H', Same H H' → Q (.str (rowTx Ws)) H'
def spNumberOf : Sp := fun vs H Q _ => ∃ n : Int, vs = [.str (tI n)] ∧ 0 ≤ n ∧ n < 10 ^ 40 ∧ ∀ H', Same H H' → Q (.int n) H'
def spStepOf : Sp := fun vs H Q _ => ∃ p : Int × Int, vs = [.str (stepTx p)] ∧ 0 ≤ p.1 ∧ p.1 < 10 ^ 40 ∧ 0 ≤ p.2 ∧ p.2 < 10 ^ 40 ∧ ∀ H' o, Same H H' → H' o = some (.tup (stepV p)) → Q (.ref o) H'
def spWispOf : Sp := fun vs H Q _ => ∃ W : Wi, vs = [.str (wispTx W)] ∧ NumW W ∧ ∀ H' a, Same H H' → WispAt H' a W.1 W.2 → Q (.ref a) H'
def spRowOf : Sp := fun vs H Q _ => ∃ Ws : List Wi, vs = [.str (rowTx Ws)] ∧ (∀ W ∈ Ws, NumW W) ∧ Ws.length ≤ 60 ∧ ∀ H' r, Same H H' → RowN H' r Ws → Q (.ref r) H'
def spFarW : Sp := fun vs H Q _ => ∃ (p l : Addr) (T : Nat) (small : Bool), vs = [.ref p, .bl small] ∧ Pot H p l T ∧ T < 2 ^ 37 ∧
  ∀ H' a W, Pot H' p l (T + 200) → Keep p l H H' → WispAt H' a W.1 W.2 → NumW W → Q (.ref a) H'
def spFarRow : Sp := fun vs H Q _ => ∃ (p l : Addr) (T : Nat), vs = [.ref p] ∧ Pot H p l T ∧ T < 2 ^ 36 ∧
  ∀ H' r Ws, Pot H' p l (T + 20000) → Keep p l H H' → RowN H' r Ws → Q (.ref r) H'
def spRight64 : Sp := fun vs H Q _ => ∃ (a r : Addr) (W : Wi) (Ws : List Wi), vs = [.ref a, .ref r] ∧ WispAt H a W.1 W.2 ∧ NumW W ∧ RowN H r Ws ∧ ∀ H', Same H H' → Q (.bl true) H'
theorem stepAt {H : Hp} {as : List Addr} {ps : List (Int × Int)} (tu : TupsAt H as (ps.map stepV)) {i : Nat} {v : V} (h : (as.map V.ref)[i]? = some v) : ∃ b p, v = .ref b ∧ ps[i]? = some p ∧ H b = some (.tup [.int p.1, .int p.2]) := by
  obtain ⟨a, xs, rfl, _, ex, ea⟩ := tu.get h
  rw [List.getElem?_map] at ex
  cases ep : ps[i]? with
  | none =>
    rw [ep] at ex
    cases ex
  | some p =>
    rw [ep] at ex
    have ex : stepV p = xs := Option.some.inj ex
    subst ex
    exact ⟨a, p, rfl, rfl, ea⟩
theorem small_line {n : Nat} (h : n ≤ 100000) : n ≤ sizeLine := by
  rw [sizeLine_eq]
  omega
/-! ### enumerate(list, start=1); str of a text, a number, a tuple -/
section
theorem callWith_tyK {M : Model} {A : Around} {E : Value → Shared → Prop} {s : Shared} {pos : Pos} {T : String} {args : List (Bool × Sem Value)} {keywords : List (Option Str × Sem Value)} {Q : Value → Shared → Prop} (hplain : (args.any fun x => x.1) = false) (hkw : (keywords.any fun x => x.1.isNone) = false)
    (h : wpAny M A (evalArgs (.type T) true args keywords) (fun a s1 => wpAny M A (call (.type T) a.pos a.kw) Q E s1) E s) : wpAny M A (callWith pos (.type T) [] args keywords) Q E s := by
  unfold callWith
  refine wpAny_bind (wpAny_holding (wpAny_mono h (fun a s1 h1 => wpAny_bind (wpAny_standAt ?_)) fun _ _ e => e))
  rw [hplain, hkw]
  exact wpAny_bind (wpAny_pure (wpAny_bind (wpAny_mono h1 (fun r s2 hr => wpAny_bind (wpAny_holding (wpAny_point (wpAny_pure hr)))) fun _ _ e => e)))
variable {prog : Program} {w : World}
theorem lat1 {h h' : Heap} {j a : Addr} {i : Nat} (g : h.IsListIter j a i) (k : ∀ o, h.get? j = some o → h'.get? j = some o) : h'.IsListIter j a i := by
  obtain ⟨o, eo, ec, ed⟩ := g
  exact ⟨o, k o eo, ec, ed⟩
variable {A : Around} {E : Value → Shared → Prop} {s : Shared}
theorem enuItem1 {e j a : Addr} {i : Nat} {us : Array Value} {x old : Value} {Q : Value → Shared → Prop} (g : IsEnum s.heap e j ((i : Int) + 1) old) (gj : s.heap.IsListIter j a i) (t : s.heap.IsList a us) (ex : us[i]? = some x) (ne : e ≠ j)
    (q : ∀ h', IsEnumOut h' e j ((i : Int) + 1 + 1) x s.heap.objs.size → h'.IsListIter j a (i + 1) → h'.get? s.heap.objs.size = some { cls := .type "tuple", data := .seq #[.int ((i : Int) + 1) s.toks, x] } →
      (∀ b o, b ≠ e → b ≠ j → s.heap.get? b = some o → h'.get? b = some o) → Q (.ref s.heap.objs.size) { s with heap := h', toks := s.toks + 1 }) :
    wpAny (model prog w) A (Builtin.«enumerate.__next__» ⟨[.ref e], []⟩) (fun r s' => ∃ v, r = .done (.ret v) ∧ Q v s') E s := by
  obtain ⟨hp, gg, dd, tk, os⟩ := s
  show wpAny _ _ (field (.ref e) 2 >>= _) _ _ _
  refine wpAny_bind (wpAny_field g rfl (x := .ref j) rfl (wpAny_bind (wpAny_nextOf_list_item gj t ex fun p1 gj1 b1 => ?_)))
  have b1 : Heap.SameBut j hp p1 := b1
  have g1 : IsEnum p1 e j ((i : Int) + 1) old := (b1.2 e ne).trans g
  show wpAny _ _ (field (.ref e) 3 >>= _) _ _ ⟨p1, gg, dd, tk, os⟩
  refine wpAny_bind (wpAny_field g1 rfl (x := rawInt ((i : Int) + 1)) rfl ?_)
  show wpAny _ _ (field (.ref e) 4 >>= _) _ _ ⟨p1, gg, dd, tk, os⟩
  refine wpAny_bind (wpAny_field g1 rfl (x := .none) rfl ?_)
  show wpAny _ _ (mkInt ((i : Int) + 1) >>= _) _ _ ⟨p1, gg, dd, tk, os⟩
  refine wpAny_bind (wpAny_mkInt ?_)
  show wpAny _ _ (setField (.ref e) 3 (rawInt ((i : Int) + 1 + 1)) >>= _) _ _ ⟨p1, gg, dd, tk + 1, os⟩
  refine wpAny_bind (wpAny_setField_rec g1 (by simp) fun p2 g2 b2 => ?_)
  have b2 : Heap.SameBut e p1 p2 := b2
  have g2 : IsEnum p2 e j ((i : Int) + 1 + 1) old := g2
  show wpAny _ _ (setField (.ref e) 4 .none >>= _) _ _ ⟨p2, gg, dd, tk + 1, os⟩
  refine wpAny_bind (wpAny_setField_rec g2 (by simp) fun p3 g3 b3 => ?_)
  have b3 : Heap.SameBut e p2 p3 := b3
  have g3 : IsEnum p3 e j ((i : Int) + 1 + 1) old := g3
  show wpAny _ _ (newTuple [.int ((i : Int) + 1) tk, x] >>= _) _ _ ⟨p3, gg, dd, tk + 1, os⟩
  refine wpAny_bind (wpAny_newTuple ?_)
  have zs : p3.objs.size = hp.objs.size := by rw [b3.1, b2.1, b1.1]
  have g4 : IsEnum (p3.push { cls := .type "tuple", data := .seq #[.int ((i : Int) + 1) tk, x] }) e j ((i : Int) + 1 + 1) old := Heap.get?_push_of_some _ g3
  have t4 : (p3.push { cls := .type "tuple", data := .seq #[.int ((i : Int) + 1) tk, x] }).get? hp.objs.size = some { cls := .type "tuple", data := .seq #[.int ((i : Int) + 1) tk, x] } := by
    rw [← zs]
    exact Heap.get?_push_size _ rfl
  have k4 : ∀ b o, b ≠ e → b ≠ j → hp.get? b = some o → (p3.push { cls := .type "tuple", data := .seq #[.int ((i : Int) + 1) tk, x] }).get? b = some o := fun b o n1 n2 h => Heap.get?_push_of_some _ (by
    rw [b3.2 b n1, b2.2 b n1, b1.2 b n2]
    exact h)
  have j4 : (p3.push { cls := .type "tuple", data := .seq #[.int ((i : Int) + 1) tk, x] }).IsListIter j a (i + 1) := lat1 gj1 fun o h => Heap.get?_push_of_some _ (by
    rw [b3.2 j ne.symm, b2.2 j ne.symm]
    exact h)
  have el : e < hp.objs.size := Heap.lt_size g
  show wpAny _ _ (Builtin.SmallTypes.ownedTupleIsFree (.ref e) >>= _) _ _ ⟨p3.push { cls := .type "tuple", data := .seq #[.int ((i : Int) + 1) tk, x] }, gg, dd, tk + 1, os⟩
  rw [zs]
  generalize p3.push { cls := .type "tuple", data := .seq #[.int ((i : Int) + 1) tk, x] } = p4 at g4 t4 k4 j4
  refine wpAny_bind ?_; unfold Builtin.SmallTypes.ownedTupleIsFree
  refine wpAny_bind (wpAny_field g4 rfl (x := .none) rfl (wpAny_pure ?_)); simp only [if_true]
  refine wpAny_bind (wpAny_rule (wpAny_bind (wpAny_field g4 rfl (x := old) rfl (wpAny_bind (wpAny_setField_rec g4 (by simp) fun p5 g5 b5 => ?_)))))
  have b5 : Heap.SameBut e p4 p5 := b5
  have g5 : IsEnum p5 e j ((i : Int) + 1 + 1) x := g5
  show wpAny _ _ (Builtin.SmallTypes.ownedTupleHandOut (.ref e) (.ref hp.objs.size) >>= _) _ _ ⟨p5, gg, dd, tk + 1, os⟩
  refine wpAny_bind ?_; unfold Builtin.SmallTypes.ownedTupleHandOut
  refine wpAny_bind (wpAny_setField_rec g5 (by simp) fun p6 g6 b6 => ?_)
  have b6 : Heap.SameBut e p5 p6 := b6
  have g6 : IsEnumOut p6 e j ((i : Int) + 1 + 1) x hp.objs.size := g6
  refine wpAny_setField_rec g6 (by simp) fun p7 g7 b7 => ?_
  have b7 : Heap.SameBut e p6 p7 := b7
  have up : ∀ b o, b ≠ e → p4.get? b = some o → p7.get? b = some o := fun b o n h => by
    rw [b7.2 b n, b6.2 b n, b5.2 b n]
    exact h
  exact wpAny_bind (wpAny_letGo (wpAny_pure ⟨_, rfl, q p7 g7 (lat1 j4 fun o h => up _ o ne.symm h) (up _ _ (Nat.ne_of_gt el) t4) fun b o n1 n2 h => up b o n1 (k4 b o n1 n2 h)⟩))
theorem enuNextItem1 {e j a : Addr} {i : Nat} {us : Array Value} {x old : Value} {Q : Option Value → Shared → Prop} (g : IsEnum s.heap e j ((i : Int) + 1) old) (gj : s.heap.IsListIter j a i) (t : s.heap.IsList a us) (ex : us[i]? = some x) (ne : e ≠ j)
    (q : ∀ h', IsEnumOut h' e j ((i : Int) + 1 + 1) x s.heap.objs.size → h'.IsListIter j a (i + 1) → h'.get? s.heap.objs.size = some { cls := .type "tuple", data := .seq #[.int ((i : Int) + 1) s.toks, x] } →
      (∀ b o, b ≠ e → b ≠ j → s.heap.get? b = some o → h'.get? b = some o) → Q (some (.ref s.heap.objs.size)) { s with heap := h', toks := s.toks + 1 }) : wpAny (model prog w) A (pyNext (.ref e)) Q E s := by
  have ty : s.TypeIs (.ref e) "enumerate" := ⟨_, g, rfl⟩
  unfold pyNext; refine wpAny_bind (wpAny_attempt (wpAny_callSpecial?_slot (name := Str.ofString "__next__") ty F.slot_enumerate_next ?_))
  exact wpAny_call_entry F.slot_enumerate_next ty F.entry_enumerate_next (enuItem1 g gj t ex ne fun h' r1 r2 r3 r4 => wpAny_pure (q h' r1 r2 r3 r4)) (F.args_enumerate_next_1 _)
/-- the list at a, each item in a new pair, counted from 1 -/
def Ite1 (K : PySem.W.Frag) (a : Addr) : It where
  go i H := ∃ (us : List V) (x : V), SqL K H a us ∧ us[i]? = some x
  yld i H v H' := ∃ c x, v = .ref c ∧ H c = none ∧ H' = upd H c (.tup [.int ((i : Int) + 1), x]) ∧ ∀ us, SqL K H a us → us[i]? = some x
  stop i H := ∃ us : List V, SqL K H a us ∧ us.length ≤ i
theorem turnEnu1 {P : Program} {w : World} {K : PySem.W.Frag} {el : List Expr} {n : Nat} {tp : Pos} (a e j : Addr) :
    Turn P w K (.Tuple el n tp) (Ite1 K a) [e, j] e (fun i h => (∃ old, IsEnum h e j ((i : Int) + 1) old) ∧ h.IsListIter j a i ∧ e ≠ j) where
  mem := by simp
  obj := fun i h st b hb => by
    obtain ⟨⟨old, g⟩, ⟨o, eo, _, ed⟩, _⟩ := st
    simp only [List.mem_cons, List.not_mem_nil, or_false] at hb
    rcases hb with rfl | rfl
    · exact ⟨_, g, fun v q => nomatch q⟩
    · exact ⟨o, eo, fun v q => by rw [ed] at q; cases q⟩
  keep := fun i h h' st k => by
    obtain ⟨⟨old, g⟩, ⟨o, eo, ec, ed⟩, ne⟩ := st
    exact ⟨⟨old, k _ (by simp) _ g⟩, ⟨o, k _ (by simp) _ eo, ec, ed⟩, ne⟩
  item := by
    intro X eP ew eK hc i pins s σ H E I hf st hg
    subst eP ew eK
    obtain ⟨⟨old, g⟩, gj, ne⟩ := st
    obtain ⟨us, x, hq, ex⟩ := hg
    obtain ⟨as, r1, t1, _⟩ := I.list hq
    obtain ⟨u, eu, ru⟩ := r1.get ex
    have el : e < s.heap.objs.size := Heap.lt_size g
    have jl : j < s.heap.objs.size := gj.elim fun _ q => Heap.lt_size q.1
    refine enuNextItem1 g gj t1.isList (x := u) (by simpa using eu) ne fun h' k1 k2 k3 k4 => ⟨_, rfl, ?_⟩
    refine wpAny_letOwnedTupleGo_enum (s := { s with heap := h', toks := s.toks + 1 }) k1 fun h2 l1 sb => ?_
    have pr : h2.get? s.heap.objs.size = some { cls := .type "tuple", data := .seq #[.int ((i : Int) + 1) s.toks, u] } := (sb.2 _ (Nat.ne_of_gt el)).trans k3
    have ok : ObjOk X.prog X.w (upd H s.heap.objs.size (.tup [.int ((i : Int) + 1), x])) h2 s.heap.objs.size (.tup [.int ((i : Int) + 1), x]) := ⟨by show 2 ≤ sizeLine; decide, [.int ((i : Int) + 1) s.toks, u], .cons ⟨_, rfl⟩ (.cons ru .nil), _, pr, rfl, _, rfl⟩
    have J : Inv X pins σ (upd H s.heap.objs.size (.tup [.int ((i : Int) + 1), x])) { s with heap := h2, toks := s.toks + 1 } := I.turnedNew (ch := [e, j]) (fun b o n q => by
      have n1 : b ≠ e := fun z => n (by simp [z])
      have n2 : b ≠ j := fun z => n (by simp [z])
      exact (sb.2 b n1).trans (k4 b o n1 n2 q)) hf (Nat.le_refl _) ok
    refine ⟨.ref s.heap.objs.size, _, J, rfl, ⟨_, x, rfl, I.hok.fresh (Nat.le_refl _), rfl, fun ys hy => ?_⟩, ⟨⟨u, ?_⟩, lat1 k2 fun o q => (sb.2 j ne.symm).trans q, ne⟩, fun b hb => ?_⟩
    · rw [I.list_inj hy hq]
      exact ex
    · rw [show ((i + 1 : Nat) : Int) + 1 = (i : Int) + 1 + 1 by omega]
      exact l1
    · have lt : b < s.heap.objs.size := by
        have hb' := hb
        simp only [List.mem_cons, List.not_mem_nil, or_false] at hb'
        rcases hb' with rfl | rfl
        · exact el
        · exact jl
      rw [upd_ne (Nat.ne_of_lt lt)]
      exact (hf b hb).1
  done := by
    intro X eP ew eK hc i pins s σ H E I hf st hg
    subst eP ew eK
    obtain ⟨⟨old, g⟩, gj, ne⟩ := st
    obtain ⟨us, hq, hx⟩ := hg
    obtain ⟨as, r1, t1, _⟩ := I.list hq
    obtain ⟨f0, f1, f2, f3, f4, f5⟩ := hf j (by simp)
    have l1 := r1.length
    have ty : s.TypeIs (.ref e) "enumerate" := ⟨_, g, rfl⟩
    unfold pyNext; refine wpAny_bind (wpAny_attempt (wpAny_callSpecial?_slot (name := Str.ofString "__next__") ty F.slot_enumerate_next ?_))
    refine wpAny_call_entry F.slot_enumerate_next ty F.entry_enumerate_next ?_ (F.args_enumerate_next_1 _)
    show wpAny _ _ (field (.ref e) 2 >>= _) _ _ _
    refine wpAny_bind (wpAny_field g rfl (x := .ref j) rfl (wpAny_bind (wpAny_nextOf_list_end (I.ok.hd hc) gj t1.isList (by simp; omega) fun h' x b ⟨o, eo, ec⟩ => ?_)))
    exact wpAny_bind (wpAny_isInstance (T := "StopIteration") (b := true) ⟨o, eo, ec⟩ isSubtype_stop (wpAny_pure ⟨rfl, I.turned (t' := s.toks) (fun c o n q => b c o n q) f0 f1 f3 f4 f5⟩))
  self := fun A i s Q E st h => st.1.elim fun _ g => wpAny_pyIter_enum g h
end
theorem walk_enu1 {K : PySem.W.Frag} {a : Addr} {xs : List V} : Walk (Ite1 K a) xs.length (fun H => SqL K H a xs) (YPair (fun i => some (.int ((i : Int) + 1))) (fun i => xs[i]?)) where
  goes i H hi q := ⟨xs, xs[i], q, List.getElem?_eq_getElem hi⟩
  stops H q := ⟨xs, q, Nat.le_refl _⟩
  yields i H v H' _ q y := by
    obtain ⟨c, x, k1, k2, k3, k4⟩ := y
    exact ⟨c, .int ((i : Int) + 1), x, k1, k2, k3, rfl, k4 xs q⟩
def iEnu1 (K : PySem.W.Frag) (ta : TA) (tk : TA) : L2.TI := fun σ H R => ta σ H fun vs H1 => tk σ H1 fun ks H2 => ∃ a xs, vs = [.ref a] ∧ ks = [.int 1] ∧ SqL K H2 a xs ∧ R (Ite1 K a) H2
def rStrA (K : PySem.W.Frag) : List V → Hp → VK → Prop := fun xs H Q => (∃ i, xs = [.int i] ∧ i.natAbs.log2 < 1920 ∧ Q (.str (tI i)) H) ∨ (∃ z, xs = [.str z] ∧ Q (.str z) H) ∨ ∃ a d, xs = [.ref a] ∧ Dp K H (.ref a) d ∧ d.showable = true ∧ d.hasDict = false ∧ d.depth ≤ 50 ∧ d.shown.length ≤ sizeLine ∧ Q (.str d.shown) H
theorem call_strA {X : Cx} (gd : X.A.guards = some []) (hu : X.A.units + 64 < cLine) : CallR X (.type "str") (rStrA X.K) := by
  intro pins s σ H xs us Q I va h
  rcases h with ⟨i, rfl, hl, q⟩ | ⟨z, rfl, q⟩ | ⟨a, d, rfl, dp, h1, h2, h3, h4, q⟩
  · exact call_str_int pins s σ H _ us Q I va ⟨i, rfl, hl, q⟩
  · cases va with
    | cons r1 r2 =>
      cases r2
      obtain ⟨t, rfl⟩ := r1
      exact P.str_of_str ⟨.str z, H, I, ⟨_, rfl⟩, q⟩
  · rw [Vals.ref1 va]
    obtain ⟨as, rd⟩ := Dp.reads I d (.ref a) (.ref a) dp rfl
    exact str_of_reads rd h1 (PyData.noDict_hsm h2) gd (by omega) (fun _ _ e => e) (fun h' u tk hk => ⟨.str _, H, I.kept hk, ⟨_, rfl⟩, q⟩) h4
def rStrN : List V → Hp → VK → Prop := fun xs H Q => (∃ i, xs = [.int i] ∧ i.natAbs.log2 < 1920 ∧ Q (.str (tI i)) H) ∨ (∃ z, xs = [.str z] ∧ Q (.str z) H)
theorem call_strN {X : Cx} : CallR X (.type "str") rStrN := by
  intro pins s σ H xs us Q I va h
  rcases h with ⟨i, rfl, hl, q⟩ | ⟨z, rfl, q⟩
  · exact call_str_int pins s σ H _ us Q I va ⟨i, rfl, hl, q⟩
  · cases va with
    | cons r1 r2 =>
      cases r2
      obtain ⟨t, rfl⟩ := r1
      exact P.str_of_str ⟨.str z, H, I, ⟨_, rfl⟩, q⟩
theorem pi_enu1 {X : Cx} {e : Expr} {kws : List Keyword} {ta tk : TA} {p pos tp : Pos} {el : List Expr} {n : Nat} (hg : Gl X "enumerate") (hm : X.mg "enumerate" = none) (ha : PA X [e] ta) (hk : PK X kws tk) (h1 : starEach [e] X.env = [(false, eval e X.env)] := by rfl) (h2 : ((backTo pos (starEach [e] X.env)).any fun x => x.1) = false := by rfl)
    (h3 : ((backToKw pos (keywordEach kws X.env)).all fun x => x.1.isSome) = true := by rfl) (h4 : ((backToKw pos (keywordEach kws X.env)).any fun x => x.1.isNone) = false := by rfl) (h5 : (backToKw pos (keywordEach kws X.env)).filterMap (fun x => x.1) = [Str.ofString "start"] := by rfl) :
    PI X (.Tuple el n tp) (.Call (.Name "enumerate" p) [e] kws pos) (iEnu1 X.K ta tk) := by
  constructor
  intro pins s σ H R I h
  refine wpAny_Call_Name_kw (ld_blt I hg hm boot_enumerate (callWith_tyK h2 h4 (evalArgs_kw2 h3 (thn (ha.run pos pins s σ H _ I h) fun us s1 hz => ?_) h1)))
  obtain ⟨vs, H1, J, va, hz⟩ := hz
  refine thn (hk.run pos pins s1 σ H1 _ J hz) fun ks s2 hy => ?_
  obtain ⟨vks, H2, J2, vk, a, xs, rfl, rfl, hx, q⟩ := hy
  rw [h5]
  match us, va, ks, vk with
  | [_], .cons r1 .nil, [_], .cons r2 .nil =>
    cases r1
    obtain ⟨t, rfl⟩ := r2
    obtain ⟨as, rv, t1, _⟩ := J2.list hx
    refine enum_begins_start (begins_list a as.toArray) t1.isList (by decide) (by decide) fun h' g ej _ kp => wpAny_pyIter_enum g ?_
    refine ⟨s2.heap.objs.size + 1, [s2.heap.objs.size + 1, s2.heap.objs.size], _, _, H2, rfl, J2.kept (t' := s2.toks) kp, turnEnu1 a (s2.heap.objs.size + 1) s2.heap.objs.size, ⟨⟨.none, g⟩, ⟨_, ej, rfl, rfl⟩, Nat.succ_ne_self _⟩, fun b hb => ?_, q⟩
    have le : s2.heap.objs.size ≤ b := by
      simp only [List.mem_cons, List.not_mem_nil, or_false] at hb
      rcases hb with rfl | rfl
      · exact Nat.le_add_right _ _
      · exact Nat.le_refl _
    exact J2.fpOk le (J2.hok.fresh le)
/-! ### a text parted by a sign and a blank -/
abbrev sep2 : Str := ⟨#[59, 32]⟩
def gl2 : List (List Nat) → List Nat
  | [] => []
  | [x] => x
  | x :: y :: r => x ++ 59 :: 32 :: gl2 (y :: r)
theorem join_gl2 : ∀ xs : List Str, cpl (Str.join sep2 xs) = gl2 (xs.map cpl)
  | [] => by
    rw [PyProof.Rows.join_nil]
    rfl
  | [x] => by
    rw [join_one]
    rfl
  | x :: y :: r => by
    rw [join_cons_cons, cpl_app, cpl_app, join_gl2 (y :: r)]
    show cpl x ++ [59, 32] ++ gl2 ((y :: r).map cpl) = cpl x ++ 59 :: 32 :: gl2 ((y :: r).map cpl)
    rw [List.append_assoc]
    rfl
theorem semi_at : ∀ {xs : List (List Nat)}, (∀ x ∈ xs, 59 ∉ x) → ∀ p, (gl2 xs)[p]? = some 59 → (gl2 xs)[p + 1]? = some 32
  | [], _, p, h => by
    have h : ([] : List Nat)[p]? = some 59 := h
    simp at h
  | [x], hf, p, h => by
    have h : x[p]? = some 59 := h
    exact absurd (List.mem_of_getElem? h) (hf x (by simp))
  | x :: y :: r, hf, p, h => by
    have ih := semi_at (xs := y :: r) fun z hz => hf z (List.mem_cons_of_mem _ hz)
    have e : gl2 (x :: y :: r) = x ++ 59 :: 32 :: gl2 (y :: r) := rfl
    rw [e] at h ⊢
    by_cases c : p < x.length
    · rw [List.getElem?_append_left c] at h
      exact absurd (List.mem_of_getElem? h) (hf x (by simp))
    · rw [List.getElem?_append_right (by omega)] at h
      rw [List.getElem?_append_right (by omega), show p + 1 - x.length = p - x.length + 1 by omega]
      generalize p - x.length = d at h
      match d, h with
      | 0, _ => rfl
      | 1, h =>
        have h : some 32 = some 59 := h
        cases h
      | d + 2, h => exact ih d h
theorem gl2_inj : ∀ {xs ys : List (List Nat)}, xs ≠ [] → ys ≠ [] → (∀ x ∈ xs, 59 ∉ x) → (∀ y ∈ ys, 59 ∉ y) → gl2 xs = gl2 ys → xs = ys
  | [], _, h, _, _, _, _ => absurd rfl h
  | _ :: _, [], _, h, _, _, _ => absurd rfl h
  | [x], [y], _, _, _, _, h => by
    have h : x = y := h
    rw [h]
  | [x], y :: z :: s, _, _, h1, _, h => by
    have h : x = y ++ 59 :: 32 :: gl2 (z :: s) := h
    exact absurd (by rw [h]; simp) (h1 x (by simp))
  | x :: w :: r, [y], _, _, _, h2, h => by
    have h : x ++ 59 :: 32 :: gl2 (w :: r) = y := h
    exact absurd (by rw [← h]; simp) (h2 y (by simp))
  | x :: w :: r, y :: z :: s, _, _, h1, h2, h => by
    have h : x ++ 59 :: 32 :: gl2 (w :: r) = y ++ 59 :: 32 :: gl2 (z :: s) := h
    obtain ⟨e1, e2⟩ := free_head (h1 x (by simp)) (h2 y (by simp)) h
    subst e1
    have := gl2_inj (xs := w :: r) (ys := z :: s) (by simp) (by simp) (fun a ha => h1 a (List.mem_cons_of_mem _ ha)) (fun a ha => h2 a (List.mem_cons_of_mem _ ha)) (List.cons.inj e2).2
    rw [this]
theorem sub_mem {x : Str} {lo hi c : Nat} (h : c ∈ cpl (Builtin.Str.strSub x lo hi)) : ∃ p, lo ≤ p ∧ p < hi ∧ (cpl x)[p]? = some c := by
  have e : cpl (Builtin.Str.strSub x lo hi) = ((cpl x).drop lo).take (hi - lo) := by
    show (x.cps.extract lo hi).toList = _
    rw [Array.toList_extract, List.extract_eq_take_drop]
  rw [e] at h
  obtain ⟨k, hk, ek⟩ := List.getElem_of_mem h
  have h2 := List.getElem?_eq_getElem hk
  rw [ek] at h2
  rw [List.length_take] at hk
  rw [List.getElem?_take_of_lt (by omega), List.getElem?_drop] at h2
  exact ⟨lo + k, by omega, by omega, h2⟩
theorem parts_free {x y : Str} {c : Nat} (ha : ∀ p, (cpl x)[p]? = some c → StrLaws.At x y x.length p) : ∀ (cuts : List Nat) (lo f : Nat), StrLaws.ChainG x y x.length lo cuts f → (∀ k, f ≤ k → ¬ StrLaws.At x y x.length k) → ∀ p ∈ StrLaws.partsFrom x y.length lo cuts, c ∉ cpl p
  | [], lo, f, h, hend, p, hp, hc => by
    have h : f = lo := by
      unfold StrLaws.ChainG at h
      exact h
    have hp : p = Builtin.Str.strSub x lo x.length := by
      unfold StrLaws.partsFrom at hp
      exact List.mem_singleton.mp hp
    subst hp
    obtain ⟨q, q1, _, q3⟩ := sub_mem hc
    exact hend q (by omega) (ha q q3)
  | a :: r, lo, f, h, hend, p, hp, hc => by
    have h : lo ≤ a ∧ StrLaws.At x y x.length a ∧ (∀ (k : Nat), lo ≤ k → k < a → ¬StrLaws.At x y x.length k) ∧ StrLaws.ChainG x y x.length (a + y.length) r f := by
      unfold StrLaws.ChainG at h
      exact h
    have hp : p ∈ Builtin.Str.strSub x lo a :: StrLaws.partsFrom x y.length (a + y.length) r := by
      unfold StrLaws.partsFrom at hp
      exact hp
    rcases List.mem_cons.mp hp with rfl | hp
    · obtain ⟨q, q1, q2, q3⟩ := sub_mem hc
      exact h.2.2.1 q q1 q2 (ha q q3)
    · exact parts_free ha r _ f h.2.2.2 hend p hp hc
theorem at2 {x : Str} {p : Nat} (h1 : (cpl x)[p]? = some 59) (h2 : (cpl x)[p + 1]? = some 32) : StrLaws.At x sep2 x.length p := by
  have hi := (List.getElem?_eq_some_iff.mp h2).1
  refine ⟨hi, ?_⟩
  unfold Builtin.Str.subAt
  rw [beq_iff_eq]
  refine Array.toList_inj.mp ?_
  show (x.cps.extract p (p + 2)).toList = [59, 32]
  rw [Array.toList_extract, List.extract_eq_take_drop, show p + 2 - p = 2 by omega]
  show ((cpl x).drop p).take 2 = [59, 32]
  obtain ⟨l1, v1⟩ := List.getElem?_eq_some_iff.mp h1
  obtain ⟨l2, v2⟩ := List.getElem?_eq_some_iff.mp h2
  rw [List.drop_eq_getElem_cons l1, v1, List.drop_eq_getElem_cons l2, v2]
  rfl
theorem split2 {xs : List Str} (hne : xs ≠ []) (hf : ∀ x ∈ xs, 59 ∉ cpl x) : Txt.split (Txt.join sep2 xs) sep2 = xs := by
  rw [join_eq]
  have h1 := StrLaws.join_split (Str.join sep2 xs) sep2
  have hx := join_gl2 xs
  have hfm : ∀ x ∈ xs.map cpl, 59 ∉ x := fun x hx => by
    obtain ⟨y, hy, rfl⟩ := List.mem_map.mp hx
    exact hf y hy
  have hat : ∀ p, (cpl (Str.join sep2 xs))[p]? = some 59 → StrLaws.At (Str.join sep2 xs) sep2 (Str.join sep2 xs).length p := fun p h => at2 h (by
    rw [hx] at h ⊢
    exact semi_at hfm p h)
  have h2 := congrArg cpl h1
  rw [join_gl2, hx] at h2
  generalize Str.join sep2 xs = X at h1 hx hat h2
  have hp := split_pos X sep2
  have free : ∀ p ∈ Txt.split X sep2, 59 ∉ cpl p := by
    obtain ⟨f, ch, hend⟩ := StrLaws.occ_tight X sep2 (by decide)
    unfold Txt.split
    split
    · next hc =>
      intro p hp hm
      rw [List.mem_singleton.mp hp] at hm
      obtain ⟨k, hk, ek⟩ := List.getElem_of_mem hm
      have h3 := List.getElem?_eq_getElem hk
      rw [ek] at h3
      have h4 := (hat k h3).1
      have hc : X.length < sep2.length ∨ Builtin.Str.strKind X < Builtin.Str.strKind sep2 := by simpa using hc
      rcases hc with hc | hc
      · omega
      · have e1 : Builtin.Str.strKind sep2 = 1 := by decide +kernel
        rw [e1] at hc
        unfold Builtin.Str.strKind at hc
        split at hc
        · omega
        · split at hc <;> omega
    · split
      · next _ hc =>
        intro p hp hm
        rw [List.mem_singleton.mp hp] at hm
        obtain ⟨k, hk, ek⟩ := List.getElem_of_mem hm
        have h3 := List.getElem?_eq_getElem hk
        rw [ek] at h3
        have hc := List.isEmpty_iff.mp hc
        rw [hc] at ch
        have h5 : f = 0 := by
          unfold StrLaws.ChainG at ch
          exact ch
        exact hend k (by omega) (hat k h3)
      · rw [StrLaws.partsBetween_eq]
        exact parts_free hat _ _ f ch hend
  refine map_cpl_inj (gl2_inj ?_ ?_ (fun x hx => ?_) hfm h2)
  · intro e
    rw [List.map_eq_nil_iff] at e
    rw [e] at hp
    cases hp
  · intro e
    exact hne (List.map_eq_nil_iff.mp e)
  · obtain ⟨y, hy, rfl⟩ := List.mem_map.mp hx
    exact free y hy
/-! ### entries and pages as texts -/
inductive En where
  | lay (nm : Str) (W : Wi) (m : Int)
  | lt (nm : Str) (m : Int)
  | snap (m l : Int)
def NameOk (z : Str) : Prop := 1 ≤ (cpl z).length ∧ (cpl z).length ≤ 8 ∧ ∀ c ∈ cpl z, 97 ≤ c ∧ c ≤ 122
def NumOk (n : Int) : Prop := 0 ≤ n ∧ n < 10 ^ 40
def GoodEn : En → Prop
  | .lay z W m => NameOk z ∧ NumW W ∧ NumOk m
  | .lt z m => NameOk z ∧ NumOk m
  | .snap m l => NumOk m ∧ NumOk l
def EnAt (H : Hp) (a : Addr) : En → Prop
  | .lay z W m => ∃ wa, H a = some (.tup [.str "lay", .str z, .ref wa, .int m]) ∧ WispAt H wa W.1 W.2
  | .lt z m => H a = some (.tup [.str "let", .str z, .int m])
  | .snap m l => H a = some (.tup [.str "snap", .int m, .int l])
theorem EnAt.mono {H H' : Hp} {a : Addr} {e : En} (h : EnAt H a e) (t : Tups H H') : EnAt H' a e := by
  cases e with
  | lay z W m =>
    obtain ⟨wa, h1, h2⟩ := h
    exact ⟨wa, t _ _ h1, h2.mono t⟩
  | lt z m => exact t _ _ h
  | snap m l => exact t _ _ h
/-! texts of signs that there are -/
def Plain (s : Str) : Prop := ∀ c ∈ cpl s, c < 1114112
theorem Plain.app {a b : Str} (h1 : Plain a) (h2 : Plain b) : Plain (a ++ b) := fun c hc => by
  rw [cpl_app] at hc
  rcases List.mem_append.mp hc with h | h
  · exact h1 c h
  · exact h2 c h
theorem Plain.join {c : Nat} {xs : List Str} (hc : c < 1114112) (h : ∀ x ∈ xs, Plain x) : Plain (Txt.join ⟨#[c]⟩ xs) := fun d hd => by
  rw [join_eq, join_gl] at hd
  rcases gl_mem hd with h1 | ⟨x, hx, h1⟩
  · omega
  · obtain ⟨y, hy, rfl⟩ := List.mem_map.mp hx
    exact h y hy d h1
theorem Plain.num {n : Int} (h : 0 ≤ n) : Plain (tI n) := fun c hc => by
  obtain ⟨_, _, _, h2, _⟩ := tI_dig h
  have := h2 c hc
  omega
theorem Plain.sh {s : Str} (h : Plain s) : SeqAt.shaped (.str s) = true := by
  refine Bool.and_eq_true_iff.mpr ⟨?_, decide_eq_true (Nat.zero_le 64)⟩
  show s.cps.all (fun x => decide (x < 1114112)) = true
  rw [Array.all_eq_true']
  intro x hx
  exact decide_eq_true (h x (Array.mem_toList_iff.mpr hx))
theorem plain_one (c : Nat) (h : c < 1114112) : Plain ⟨#[c]⟩ := fun d hd => by
  have : d = c := by simpa using hd
  omega
theorem NumW.plain {W : Wi} (g : NumW W) : Plain (wispTx W) := ((Plain.num g.s0).app (plain_one 58 (by decide))).app (Plain.join (by decide) fun x hx => by
  obtain ⟨p, hp, rfl⟩ := List.mem_map.mp hx
  have := g.bd p hp
  exact ((Plain.num (by omega)).app (plain_one 120 (by decide))).app (Plain.num (by omega)))
/-! words -/
structure Word (x : Str) : Prop where
  blank : 32 ∉ cpl x
  semi : 59 ∉ cpl x
  short : x.length ≤ 700
  plain : Plain x
theorem Word.num {n : Int} (h : NumOk n) : Word (tI n) := ⟨tI_free h.1 (.inl (by decide)), tI_free h.1 (.inr (by decide)), by have := (tI_len h.1 h.2).2; omega, Plain.num h.1⟩
theorem Word.name {z : Str} (h : NameOk z) : Word z := ⟨fun m => by have := h.2.2 _ m; omega, fun m => by have := h.2.2 _ m; omega, by have := h.2.1; rw [cpl_len]; omega, fun c hc => by have := h.2.2 c hc; omega⟩
theorem Word.wisp {W : Wi} (g : NumW W) : Word (wispTx W) := ⟨g.text_free, by
  unfold wispTx
  rw [cpl_app, cpl_app]
  intro h
  rcases List.mem_append.mp h with h | h
  · rcases List.mem_append.mp h with h | h
    · exact tI_free g.s0 (.inr (by decide)) h
    · simp at h
  · exact join_free (g.steps_free (.inr (by decide)) (by decide)) (by decide) h, g.text_len, g.plain⟩
theorem Word.lit {x : Str} (h : ∀ c ∈ cpl x, 97 ≤ c ∧ c ≤ 122) (hl : x.length ≤ 700) : Word x := ⟨fun m => by have := h _ m; omega, fun m => by have := h _ m; omega, hl, fun c hc => by have := h c hc; omega⟩
theorem w_lay : Word (Str.ofString "lay") := .lit (by
  show ∀ c ∈ [108, 97, 121], 97 ≤ c ∧ c ≤ 122
  decide) (by show 3 ≤ 700; decide)
theorem w_let : Word (Str.ofString "let") := .lit (by
  show ∀ c ∈ [108, 101, 116], 97 ≤ c ∧ c ≤ 122
  decide) (by show 3 ≤ 700; decide)
theorem w_snap : Word (Str.ofString "snap") := .lit (by
  show ∀ c ∈ [115, 110, 97, 112], 97 ≤ c ∧ c ≤ 122
  decide) (by show 4 ≤ 700; decide)
theorem w_page : Word (Str.ofString "page") := .lit (by
  show ∀ c ∈ [112, 97, 103, 101], 97 ≤ c ∧ c ≤ 122
  decide) (by show 4 ≤ 700; decide)
def wordsOf : En → List Str
  | .lay z W m => [Str.ofString "lay", z, wispTx W, tI m]
  | .lt z m => [Str.ofString "let", z, tI m]
  | .snap m l => [Str.ofString "snap", tI m, tI l]
def enTx (e : En) : Str := Txt.join ⟨#[32]⟩ (wordsOf e)
def titleTx (n v : Int) : Str := Txt.join ⟨#[32]⟩ [Str.ofString "page", tI n, tI v]
def pageTx (n v : Int) (es : List En) : Str := Txt.join sep2 (titleTx n v :: es.map enTx)
theorem words_ok {e : En} (g : GoodEn e) : ∀ x ∈ wordsOf e, Word x := by
  cases e with
  | lay z W m =>
    obtain ⟨g1, g2, g3⟩ := g
    intro x hx
    simp only [wordsOf, List.mem_cons, List.not_mem_nil, or_false] at hx
    rcases hx with rfl | rfl | rfl | rfl
    · exact w_lay
    · exact .name g1
    · exact .wisp g2
    · exact .num g3
  | lt z m =>
    obtain ⟨g1, g3⟩ := g
    intro x hx
    simp only [wordsOf, List.mem_cons, List.not_mem_nil, or_false] at hx
    rcases hx with rfl | rfl | rfl
    · exact w_let
    · exact .name g1
    · exact .num g3
  | snap m l =>
    obtain ⟨g1, g3⟩ := g
    intro x hx
    simp only [wordsOf, List.mem_cons, List.not_mem_nil, or_false] at hx
    rcases hx with rfl | rfl | rfl
    · exact w_snap
    · exact .num g1
    · exact .num g3
theorem words_n (e : En) : wordsOf e ≠ [] ∧ (wordsOf e).length ≤ 4 := by
  cases e <;> exact ⟨by simp [wordsOf], by simp [wordsOf]⟩
theorem en_split {e : En} (g : GoodEn e) : Txt.split (enTx e) ⟨#[32]⟩ = wordsOf e := split_glued 32 (words_n e).1 fun x hx => (words_ok g x hx).blank
theorem en_len {e : En} (g : GoodEn e) : (enTx e).length ≤ 2804 := by
  have := My.join_len (c := 32) (N := 700) (xs := wordsOf e) fun x hx => (words_ok g x hx).short
  have := (words_n e).2
  show (Txt.join _ _).length ≤ _
  have : (wordsOf e).length * 701 ≤ 4 * 701 := Nat.mul_le_mul_right _ (by assumption)
  omega
theorem en_semi {e : En} (g : GoodEn e) : 59 ∉ cpl (enTx e) := join_free (fun x hx => (words_ok g x hx).semi) (by decide)
theorem en_plain {e : En} (g : GoodEn e) : Plain (enTx e) := Plain.join (by decide) fun x hx => (words_ok g x hx).plain
theorem title_ok {n v : Int} (h1 : NumOk n) (h2 : NumOk v) : ∀ x ∈ [Str.ofString "page", tI n, tI v], Word x := fun x hx => by
  simp only [List.mem_cons, List.not_mem_nil, or_false] at hx
  rcases hx with rfl | rfl | rfl
  · exact w_page
  · exact .num h1
  · exact .num h2
theorem title_split {n v : Int} (h1 : NumOk n) (h2 : NumOk v) : Txt.split (titleTx n v) ⟨#[32]⟩ = [Str.ofString "page", tI n, tI v] := split_glued 32 (by simp) fun x hx => (title_ok h1 h2 x hx).blank
theorem title_len {n v : Int} (h1 : NumOk n) (h2 : NumOk v) : (titleTx n v).length ≤ 2804 := by
  have : (Txt.join ⟨#[32]⟩ [Str.ofString "page", tI n, tI v]).length ≤ 3 * 701 := My.join_len (c := 32) (N := 700) (xs := [Str.ofString "page", tI n, tI v]) fun x hx => (title_ok h1 h2 x hx).short
  show (Txt.join _ _).length ≤ _
  omega
theorem title_semi {n v : Int} (h1 : NumOk n) (h2 : NumOk v) : 59 ∉ cpl (titleTx n v) := join_free (fun x hx => (title_ok h1 h2 x hx).semi) (by decide)
theorem title_plain {n v : Int} (h1 : NumOk n) (h2 : NumOk v) : Plain (titleTx n v) := Plain.join (by decide) fun x hx => (title_ok h1 h2 x hx).plain
theorem gl2_mem {d : Nat} : ∀ {xs : List (List Nat)}, d ∈ gl2 xs → d = 59 ∨ d = 32 ∨ ∃ x ∈ xs, d ∈ x
  | [], h => by cases h
  | [x], h => .inr (.inr ⟨x, by simp, h⟩)
  | x :: y :: r, h => by
    have h : d ∈ x ++ 59 :: 32 :: gl2 (y :: r) := h
    rcases List.mem_append.mp h with h | h
    · exact .inr (.inr ⟨x, by simp, h⟩)
    · rcases List.mem_cons.mp h with h | h
      · exact .inl h
      · rcases List.mem_cons.mp h with h | h
        · exact .inr (.inl h)
        · rcases gl2_mem h with h | h | ⟨z, hz, h⟩
          · exact .inl h
          · exact .inr (.inl h)
          · exact .inr (.inr ⟨z, List.mem_cons_of_mem _ hz, h⟩)
theorem gl2_len {N : Nat} : ∀ {xs : List (List Nat)}, (∀ x ∈ xs, x.length ≤ N) → (gl2 xs).length ≤ xs.length * (N + 2)
  | [], _ => Nat.zero_le _
  | [x], h => by
    have := h x (by simp)
    show x.length ≤ 1 * (N + 2)
    omega
  | x :: y :: r, h => by
    have h1 := h x (by simp)
    have h2 := gl2_len (xs := y :: r) fun z hz => h z (List.mem_cons_of_mem _ hz)
    show (x ++ 59 :: 32 :: gl2 (y :: r)).length ≤ ((y :: r).length + 1) * (N + 2)
    rw [List.length_append, List.length_cons, List.length_cons, Nat.add_mul]
    omega
structure GoodPg (n v : Int) (es : List En) : Prop where
  hn : NumOk n
  hv : NumOk v
  he : ∀ e ∈ es, GoodEn e
  few : es.length ≤ 20
theorem GoodPg.rows {n v : Int} {es : List En} (g : GoodPg n v es) : ∀ x ∈ titleTx n v :: es.map enTx, 59 ∉ cpl x ∧ x.length ≤ 2804 ∧ Plain x := fun x hx => by
  rcases List.mem_cons.mp hx with rfl | hx
  · exact ⟨title_semi g.hn g.hv, title_len g.hn g.hv, title_plain g.hn g.hv⟩
  · obtain ⟨e, he, rfl⟩ := List.mem_map.mp hx
    exact ⟨en_semi (g.he e he), en_len (g.he e he), en_plain (g.he e he)⟩
theorem GoodPg.split {n v : Int} {es : List En} (g : GoodPg n v es) : Txt.split (pageTx n v es) sep2 = titleTx n v :: es.map enTx := split2 (by simp) fun x hx => (g.rows x hx).1
theorem GoodPg.len {n v : Int} {es : List En} (g : GoodPg n v es) : (pageTx n v es).length ≤ 60000 := by
  show (Txt.join _ _).length ≤ _
  rw [join_eq, cpl_len, join_gl2]
  have := gl2_len (N := 2804) (xs := (titleTx n v :: es.map enTx).map cpl) fun x hx => by
    obtain ⟨y, hy, rfl⟩ := List.mem_map.mp hx
    exact (g.rows y hy).2.1
  rw [List.length_map, List.length_cons, List.length_map] at this
  have := g.few
  omega
theorem GoodPg.plain {n v : Int} {es : List En} (g : GoodPg n v es) : Plain (pageTx n v es) := fun d hd => by
  have hd : d ∈ cpl (Txt.join _ _) := hd
  rw [join_eq, join_gl2] at hd
  rcases gl2_mem hd with h | h | ⟨x, hx, h⟩
  · omega
  · omega
  · obtain ⟨y, hy, rfl⟩ := List.mem_map.mp hx
    exact (g.rows y hy).2.2 d h
theorem title_app (n v : Int) : Str.ofString "page " ++ tI n ++ Str.ofString " " ++ tI v = titleTx n v := by
  unfold titleTx
  rw [join_eq, join_cons_cons, join_cons_cons, join_one]
  refine str_ext ?_
  simp only [cpl_app]
  show [112, 97, 103, 101, 32] ++ _ ++ [32] ++ _ = [112, 97, 103, 101] ++ [32] ++ (_ ++ [32] ++ _)
  simp
theorem lay_app (z : Str) (W : Wi) (m : Int) : Str.ofString "lay " ++ z ++ Str.ofString " " ++ wispTx W ++ Str.ofString " " ++ tI m = enTx (.lay z W m) := by
  show _ = Txt.join ⟨#[32]⟩ [Str.ofString "lay", z, wispTx W, tI m]
  rw [join_eq, join_cons_cons, join_cons_cons, join_cons_cons, join_one]
  refine str_ext ?_
  simp only [cpl_app]
  show [108, 97, 121, 32] ++ _ ++ [32] ++ _ ++ [32] ++ _ = [108, 97, 121] ++ [32] ++ (_ ++ [32] ++ (_ ++ [32] ++ _))
  simp
def PageAt (H : Hp) (a : Addr) (n v : Int) (es : List En) : Prop := ∃ t as, H a = some (.tup [.int n, .int v, .ref t]) ∧ H t = some (.tup (as.map V.ref)) ∧ Each (EnAt H) as es
theorem PageAt.mono {H H' : Hp} {a : Addr} {n v : Int} {es : List En} (h : PageAt H a n v es) (t : Tups H H') : PageAt H' a n v es := by
  obtain ⟨b, as, h1, h2, h3⟩ := h
  exact ⟨b, as, t _ _ h1, t _ _ h2, h3.mono fun a x h => h.mono t⟩
def spShowE : Sp := fun vs H Q _ => ∃ (a : Addr) (e : En), vs = [.ref a] ∧ EnAt H a e ∧ GoodEn e ∧ ∀ H', Same H H' → Q (.str (enTx e)) H'
def spShowP : Sp := fun vs H Q _ => ∃ (a : Addr) (n v : Int) (es : List En), vs = [.ref a] ∧ PageAt H a n v es ∧ GoodPg n v es ∧ ∀ H', Same H H' → Q (.str (pageTx n v es)) H'
def spIsName : Sp := fun vs H Q _ => ∃ z : Str, vs = [.str z] ∧ NameOk z ∧ ∀ H', Same H H' → Q (.bl true) H'
def spIsEntry : Sp := fun vs H Q _ => ∃ (a : Addr) (e : En), vs = [.ref a] ∧ EnAt H a e ∧ GoodEn e ∧ ∀ H', Same H H' → Q (.bl true) H'
def spTitleOf : Sp := fun vs H Q _ => ∃ n v : Int, vs = [.str (titleTx n v)] ∧ NumOk n ∧ NumOk v ∧ ∀ H' o, Same H H' → H' o = some (.tup [.int n, .int v]) → Q (.ref o) H'
def spEntryOf : Sp := fun vs H Q _ => ∃ e : En, vs = [.str (enTx e)] ∧ GoodEn e ∧ ∀ H' a, Same H H' → EnAt H' a e → Q (.ref a) H'
def spReadP : Sp := fun vs H Q _ => ∃ (n v : Int) (es : List En), vs = [.str (pageTx n v es)] ∧ GoodPg n v es ∧ ∀ H' a, Same H H' → PageAt H' a n v es → Q (.ref a) H'
def spPick65 : Sp := fun vs H Q _ => ∃ (p l : Addr) (T : Nat), Pot H p l T ∧ T < 2 ^ 39 ∧ ((∃ (a : Addr) (xs : List V), vs = [.ref p, .ref a] ∧ H a = some (.lst xs) ∧ a ≠ p ∧ a ≠ l ∧ 1 ≤ xs.length ∧ xs.length ≤ 1000 ∧ ∀ (H' : Hp) (j : Nat) (x : V), xs[j]? = some x → Pot H' p l (T + 1) → Keep p l H H' → Q x H') ∨
  ∃ z : Str, vs = [.ref p, .str z] ∧ 1 ≤ (cpl z).length ∧ (cpl z).length ≤ 1000 ∧ ∀ H' c, c ∈ cpl z → Pot H' p l (T + 1) → Keep p l H H' → Q (.str ⟨#[c]⟩) H')
def spName65 : Sp := fun vs H Q _ => ∃ (p l : Addr) (T : Nat), vs = [.ref p] ∧ Pot H p l T ∧ T < 2 ^ 38 ∧ ∀ H' z, NameOk z → Pot H' p l (T + 12) → Keep p l H H' → Q (.str z) H'
def spNum65 : Sp := fun vs H Q _ => ∃ (p l : Addr) (T : Nat), vs = [.ref p] ∧ Pot H p l T ∧ T < 2 ^ 38 ∧ ∀ H' n, NumOk n → Pot H' p l (T + 20) → Keep p l H H' → Q (.int n) H'
def spEntry65 : Sp := fun vs H Q _ => ∃ (p l c : Addr) (T : Nat) (small : Bool) (zs : List Str), vs = [.ref p, .ref c, .bl small] ∧ Pot H p l T ∧ T < 2 ^ 36 ∧ H c = some (.lst (zs.map V.str)) ∧ zs.length ≤ 20 ∧ (∀ z ∈ zs, NameOk z) ∧ c ≠ p ∧ c ≠ l ∧
  ∀ H' a e, GoodEn e → EnAt H' a e → Pot H' p l (T + 300) → Keep p l H H' → Q (.ref a) H'
def spPage65 : Sp := fun vs H Q _ => ∃ (p l : Addr) (T : Nat), vs = [.ref p] ∧ Pot H p l T ∧ T < 2 ^ 35 ∧ ∀ H' a n v es, GoodPg n v es → PageAt H' a n v es → Pot H' p l (T + 8000) → Keep p l H H' → Q (.ref a) H'
section
variable {P : Program} {w : World} {K : PySem.W.Frag} {mg : Str → Option Value} {base : Heap}
theorem ok_is_whole {f : Addr} {fd : FuncData} {k : Nat} (F : Fun K "is_whole" "is_whole" s_is_whole f fd) (bi : Bi mg) : FnOk P w K mg base CX0 (k + 1) f fd P_is_whole spWholeT := by
  refine F.ok sc_is_whole (fun vs H Q E h => ?_) (fun cdv A outer s H vs Q E hr h => ?_)
  · obtain ⟨v, t, n, rfl, _⟩ := h
    rfl
  · obtain ⟨v, t, n, rfl, hv, q⟩ := h
    refine ⟨_, (pss_one (ps_ret (pe_and (pe_callB call_isi (by rfl) bi.m_isinstance (by decide +kernel) (pa_cons (pv 0) (pa_cons (pe_bltn (v := .ty "int") (by rfl) bi.m_int (by decide +kernel) rfl) pa_nil))) (pe_and (pe_not (pe_callB call_isi (by rfl) bi.m_isinstance (by decide +kernel) (pa_cons (pv 0) (pa_cons (pe_bltn (v := .ty "bool") (by rfl) bi.m_bool (by decide +kernel) rfl) pa_nil)))) (pe_one (pe_cmpR op_ge (pv 0) (pv 1) (nomark _))))))), ?_⟩
    obtain ⟨Tint, hint, kint⟩ := isi_int (K := K) hv
    refine ⟨_, rfl, _, _, _, _, _, rfl, ClsV.ty "int", hint, kint, _, rfl, ?_⟩
    cases t with
    | int m =>
      refine iteT ?_
      obtain ⟨Tbl, hbl, kbl⟩ := isi_bl (K := K) hv
      refine ⟨_, rfl, _, _, _, _, _, rfl, ClsV.ty "bool", hbl, kbl, _, rfl, _, rfl, ?_⟩
      refine iteT ?_
      cases hv
      exact ⟨_, rfl, _, rfl, _, _, rfl, rfl, q⟩
    | bl b =>
      refine iteT ?_
      obtain ⟨Tbl, hbl, kbl⟩ := isi_bl (K := K) hv
      refine ⟨_, rfl, _, _, _, _, _, rfl, ClsV.ty "bool", hbl, kbl, _, rfl, _, rfl, ?_⟩
      exact iteF q
    | oth => exact iteF q
    | tup ts => exact iteF q
theorem ok_is_tuple {f : Addr} {fd : FuncData} {k : Nat} (F : Fun K "is_tuple" "is_tuple" s_is_tuple f fd) (bi : Bi mg) : FnOk P w K mg base CX0 (k + 1) f fd P_is_tuple spTupleT := by
  refine F.ok sc_is_tuple (fun vs H Q E h => ?_) (fun cdv A outer s H vs Q E hr h => ?_)
  · obtain ⟨v, t, m, n, rfl, _⟩ := h
    rfl
  · obtain ⟨v, t, m, n, rfl, hv, q⟩ := h
    refine ⟨_, (pss_one (ps_ret (pe_and (pe_callB call_isi (by rfl) bi.m_isinstance (by decide +kernel) (pa_cons (pv 0) (pa_cons (pe_bltn (v := .ty "tuple") (by rfl) bi.m_tuple (by decide +kernel) rfl) pa_nil))) (pe_one (pe_chain op_le op_le (pv 1) (pe_callB call_len_seq (by rfl) bi.m_len (by decide +kernel) (pa_cons (pv 0) pa_nil)) (pv 2)))))), ?_⟩
    obtain ⟨Ttup, htup, ktup⟩ := isi_tup (K := K) hv
    refine ⟨_, rfl, _, _, _, _, _, rfl, ClsV.ty "tuple", htup, ktup, _, rfl, ?_⟩
    cases t with
    | int m => exact iteF q
    | bl b => exact iteF q
    | oth => exact iteF q
    | tup ts =>
      refine iteT ?_
      obtain ⟨a, vs, rfl, ea, hl, hh⟩ := hv.tupE
      have q : Q (.bl (decide (m ≤ (ts.length : Int)) && decide ((ts.length : Int) ≤ n))) H := q
      rw [← hl] at q
      refine ⟨_, rfl, _, rfl, a, vs, rfl, .inr (SqT.of ea), _, _, rfl, rfl, _, rfl, ite2 (fun e => ?_) (fun e => ?_)⟩
      · rw [e, Bool.true_and] at q
        exact ⟨_, rfl, _, _, rfl, rfl, q⟩
      · rw [Bool.eq_false_iff.mpr e, Bool.false_and] at q
        exact q
theorem ok_is_step {fT fW f : Addr} {fdT fdW fd : FuncData} (F : Fun K "is_step" "is_step" s_is_step f fd) (bi : Bi mg) (C_is_tuple : Cal P w K mg base "is_tuple" P_is_tuple 1 spTupleT fT fdT) (C_is_whole : Cal P w K mg base "is_whole" P_is_whole 1 spWholeT fW fdW) : FnOk P w K mg base CX0 2 f fd P_is_step spStepT := by
  refine F.ok sc_is_step (fun vs H Q E h => ?_) (fun cdv A outer s H vs Q E hr h => ?_)
  · obtain ⟨v, t, rfl, _⟩ := h
    rfl
  · obtain ⟨v, t, rfl, hv, q⟩ := h
    refine ⟨_, (pss_one (ps_ret (pe_and (pe_call (C_is_tuple.G.mono (by decide)) hr (by rfl) C_is_tuple.g C_is_tuple.kp C_is_tuple.b .nil pass0 (pa_cons (pv 0) (pa_cons pe_int (pa_cons pe_int pa_nil)))) (pe_and (pe_call (C_is_whole.G.mono (by decide)) hr (by rfl) C_is_whole.g C_is_whole.kp C_is_whole.b .nil pass0 (pa_cons (pe_ix ix_tup (pv 0) pe_int (fun _ _ => rfl)) (pa_cons pe_int pa_nil))) (pe_one (pe_call (C_is_whole.G.mono (by decide)) hr (by rfl) C_is_whole.g C_is_whole.kp C_is_whole.b .nil pass0 (pa_cons (pe_ix ix_tup (pv 0) pe_int (fun _ _ => rfl)) (pa_cons pe_int pa_nil)))))))), ?_⟩
    refine ⟨_, rfl, v, t, 2, 2, rfl, hv, _, rfl, ?_⟩
    cases t with
    | int m => exact iteF q
    | bl b => exact iteF q
    | oth => exact iteF q
    | tup ts =>
      match ts, hv, q with
      | [], hv, q => exact iteF q
      | [_], hv, q => exact iteF q
      | [x, y], hv, q =>
        refine iteT ?_
        obtain ⟨a, vs, rfl, ea, hl, hh⟩ := hv.tupE
        match vs, ea, hl, hh with
        | [u, v], ea, _, hh =>
          have q : Q (.bl (whT x 1 && whT y 1)) H := q
          refine ⟨_, rfl, a, _, 0, _, rfl, rfl, SqT.of ea, atI_nat (j := 0) rfl, u, x, 1, rfl, hh 0 u x rfl rfl, _, rfl, ite2 (fun e => ?_) (fun e => ?_)⟩
          · rw [e, Bool.true_and] at q
            exact ⟨_, rfl, a, _, 1, _, rfl, rfl, SqT.of ea, atI_nat (j := 1) rfl, v, y, 1, rfl, hh 1 v y rfl rfl, q⟩
          · rw [Bool.eq_false_iff.mpr e, Bool.false_and] at q
            exact q
      | x :: y :: z :: r, hv, q =>
        have hln : lenIn (.tup (x :: y :: z :: r)) 2 2 = false := by
          show (decide ((2 : Int) ≤ ((r.length + 1 + 1 + 1 : Nat) : Int)) && decide (((r.length + 1 + 1 + 1 : Nat) : Int) ≤ 2)) = false
          rw [decide_eq_false (show ¬ ((r.length + 1 + 1 + 1 : Nat) : Int) ≤ 2 by omega), Bool.and_false]
        rw [hln]
        exact iteF q
theorem ok_are_steps {fT fS f : Addr} {fdT fdS fd : FuncData} {tk_MOST_STEPS : Tok} (F : Fun K "are_steps" "are_steps" s_are_steps f fd) (bi : Bi mg) (g_MOST_STEPS : mg "MOST_STEPS" = some (.int 8 tk_MOST_STEPS)) (C_is_tuple : Cal P w K mg base "is_tuple" P_is_tuple 1 spTupleT fT fdT) (C_is_step : Cal P w K mg base "is_step" P_is_step 2 spStepT fS fdS) : FnOk P w K mg base CX0 3 f fd P_are_steps spStepsT := by
  refine F.ok sc_are_steps (fun vs H Q E h => ?_) (fun cdv A outer s H vs Q E hr h => ?_)
  · obtain ⟨v, t, rfl, _⟩ := h
    rfl
  · obtain ⟨v, t, rfl, hv, q⟩ := h
    refine ⟨_, (pss_cons (ps_if (pw_or (pt_not (pt_val (pe_call (C_is_tuple.G.mono (by decide)) hr (by rfl) C_is_tuple.g C_is_tuple.kp C_is_tuple.b .nil pass0 (pa_cons (pv 0) (pa_cons pe_int (pa_cons (pe_glob (v := .int 8) (by rfl) g_MOST_STEPS ⟨_, rfl⟩) pa_nil)))))) (pw_or1 (pt_not (pt_val (pe_callB (cr_all rfl) (by rfl) bi.m_all (by decide +kernel) (pa_cons (pe_lc (own := [("step", 2)]) (g := (gName 2)) (tt := tYes) rfl sc_are_steps.nd (pi_tup (pv 0)) (blkOk_by (N := N_are_steps) (sc := defScope s_are_steps) (by decide +kernel)) (fun _ _ _ _ _ => (pg_name (i := 2) sc_are_steps.nd rfl (.inl rfl) (.inr rfl))) (fun _ _ _ _ _ => pts_nil) (fun _ _ _ _ _ => (pe_call (C_is_step.G.mono (by decide)) hr (by rfl) C_is_step.g C_is_step.kp C_is_step.b .nil pass0 (pa_cons (pv 2) pa_nil)))) pa_nil)))))).pt
      (pss_one (ps_ret pe_bl))
      pss_nil)
    (pss_one (ps_ret (pe_callB (cr_all rfl) (by rfl) bi.m_all (by decide +kernel) (pa_cons (pe_lc (own := [("ahead", 1), ("step", 2)]) (g := (gTup K 2 (gCons (gName 1) (gCons (gName 2) gNil)))) (tt := tYes) (te := (tOp (rI0 fun i j => V.bl (decide (j < i))) (tOp (rIxT K) (tVar 1) (tC (.int 0))) (tOp (rIxT K) (tVar 2) (tC (.int 0))))) rfl sc_are_steps.nd (RZ.pi_zipA (by rfl) bi.m_zip (pa_cons (pv 0) (pa_cons (pe_slice sl_tupA (pv 0) (po_some pe_int) po_none) pa_nil))) (blkOk_by (N := N_are_steps) (sc := defScope s_are_steps) (by decide +kernel)) (fun _ _ _ _ _ => (pg_tup rfl (pgs_cons (pg_name (i := 1) sc_are_steps.nd rfl (.inl rfl) (.inr rfl)) (pgs_cons (pg_name (i := 2) sc_are_steps.nd rfl (.inl rfl) (.inr rfl)) pgs_nil)))) (fun _ _ _ _ _ => pts_nil) (fun _ _ _ _ _ => (pe_cmpR op_gt (pe_ix ix_tup (pv 1) pe_int (fun _ _ => rfl)) (pe_ix ix_tup (pv 2) pe_int (fun _ _ => rfl)) (nomark _)))) pa_nil))))), ?_⟩
    refine ⟨_, rfl, v, t, 1, 8, rfl, hv, _, rfl, ?_⟩
    cases t with
    | int m => exact iteNF (q _ (Same.refl _))
    | bl b => exact iteNF (q _ (Same.refl _))
    | oth => exact iteNF (q _ (Same.refl _))
    | tup ts =>
      have hq : lenIn (.tup ts) 1 8 = (decide (1 ≤ ts.length) && decide (ts.length ≤ 8)) := by
        show (decide ((1 : Int) ≤ (ts.length : Int)) && decide ((ts.length : Int) ≤ 8)) = (decide (1 ≤ ts.length) && decide (ts.length ≤ 8))
        rw [decide_eq_decide.mpr (show (1 : Int) ≤ (ts.length : Int) ↔ 1 ≤ ts.length by omega), decide_eq_decide.mpr (show (ts.length : Int) ≤ 8 ↔ ts.length ≤ 8 by omega)]
      rw [hq]
      have q : ∀ H', Same H H' → Q (.bl (decide (1 ≤ ts.length) && decide (ts.length ≤ 8) && ts.all isStep && fallsT (ts.map firstT))) H' := q
      cases hc : (decide (1 ≤ ts.length) && decide (ts.length ≤ 8)) with
      | false =>
        rw [hc] at q
        exact iteNF (q _ (Same.refl _))
      | true =>
        rw [hc, Bool.true_and] at q
        refine iteNT ?_
        obtain ⟨c1, c8⟩ := Bool.and_eq_true_iff.mp hc
        have c1 := of_decide_eq_true c1
        have c8 := of_decide_eq_true c8
        obtain ⟨a, vs, rfl, ea, hl, hh⟩ := hv.tupE
        refine ⟨_, rfl, a, rfl, ⟨_, SqT.of ea⟩, fun D nD => ?_⟩
        refine lc_tup (xs := vs) (fun i H' => Same H H' ∧ H' D = some (.lst (((ts.take i).map isStep).map V.bl))) ⟨same_new (Same.refl _) nD, upd_same⟩ (fun i H' hi hm => SqT.of (hm.1 _ _ ea)) (fun i x H' hx hm => ?_) (fun H' hm => ?_)
        · obtain ⟨sm, eD⟩ := hm
          have hi : i < vs.length := (List.getElem?_eq_some_iff.mp hx).1
          have et : ts[i]? = some (ts[i]'(by omega)) := List.getElem?_eq_getElem (by omega)
          generalize ts[i]'(by omega) = t at et
          refine ⟨rfl, yesIte ?_⟩
          refine ⟨_, rfl, x, t, rfl, (hh i x t hx et).mono (Kinds.same sm), _, eD, ?_, same_mine sm nD, ?_⟩
          · rw [List.length_map, List.length_map, List.length_take]
            exact small1000 (by omega)
          · rw [upd_same, List.take_add_one, et]
            show _ = some (HO.lst (((ts.take i ++ [t]).map isStep).map V.bl))
            rw [List.map_append, List.map_append]
            rfl
        obtain ⟨s1, eD⟩ := hm
        rw [hl, List.take_length] at eD
        refine ⟨D, _, rfl, SqL.of eD, _, rfl, ?_⟩
        have ea1 := s1 _ _ ea
        have eall : (ts.map isStep).all id = ts.all isStep := by
          rw [List.all_map]
          rfl
        rw [eall]
        cases hb : ts.all isStep with
        | false =>
          rw [hb] at q
          exact iteNF (q _ s1)
        | true =>
          rw [hb, Bool.true_and] at q
          refine iteNT ?_
          have ab := List.all_eq_true.mp hb
          have get : ∀ (i : Nat) (x : V), vs[i]? = some x → ∃ (b : Addr) (m l : Int), x = .ref b ∧ H b = some (.tup [.int m, .int l]) ∧ (ts.map firstT)[i]? = some m := fun i x hx => by
            have hi : i < vs.length := (List.getElem?_eq_some_iff.mp hx).1
            have et : ts[i]? = some (ts[i]'(by omega)) := List.getElem?_eq_getElem (by omega)
            generalize ts[i]'(by omega) = t at et
            obtain ⟨m, l, rfl, _⟩ := isStep_of (ab _ (List.mem_of_getElem? et))
            obtain ⟨b, ws, rfl, eb, hwl, hw⟩ := (hh i x _ hx et).tupE
            match ws, eb, hwl, hw with
            | [u, v], eb, _, hw =>
              have e1 := (hw 0 u _ rfl rfl).intE
              have e2 := (hw 1 v _ rfl rfl).intE
              subst e1
              subst e2
              exact ⟨b, m, l, rfl, eb, by rw [List.getElem?_map, et]; rfl⟩
          refine ⟨_, rfl, _, rfl, _, rfl, a, _, rfl, SqT.of ea1, ?_, ?_⟩
          · intro hz
            exfalso
            have := hz.1
            have h1 : HT.sIx vs.length 0 (some 1) = min 1 vs.length := HT.sIx_nat _ _ 1
            rw [h1] at this
            omega
          · intro _ Z nZ
            rw [cut_tail]
            have sZ : Same H' (upd H' Z (.tup (vs.drop 1))) := same_new (Same.refl _) nZ
            have eZ : upd H' Z (.tup (vs.drop 1)) Z = some (.tup (vs.drop 1)) := upd_same
            generalize upd H' Z (.tup (vs.drop 1)) = H2 at sZ eZ
            refine ⟨a, Z, _, _, rfl, .inr ⟨SqT.of (sZ _ _ ea1), SqT.of eZ, fun D2 nD2 => ?_⟩⟩
            rw [falls_pairs] at q
            have hzl : (List.zip (ts.map firstT) ((ts.map firstT).drop 1)).length = (vs.drop 1).length := by
              rw [List.length_zip, List.length_drop, List.length_drop, List.length_map]
              omega
            refine lcZipS (xs := vs) (ys := vs.drop 1) (by rw [List.length_drop]; omega) (fun i H3 => Same H2 H3 ∧ H3 D2 = some (.lst ((((List.zip (ts.map firstT) ((ts.map firstT).drop 1)).take i).map fallB).map V.bl))) ⟨same_new (Same.refl _) nD2, upd_same⟩ (fun i H3 hm => ⟨SqT.of (hm.1 _ _ (sZ _ _ ea1)), SqT.of (hm.1 _ _ eZ)⟩) (fun i x y T H3 hx hy nT hm => ?_) (fun H3 hm => ?_)
            · obtain ⟨sm2, eD2⟩ := hm
              rw [List.getElem?_drop] at hy
              obtain ⟨b1, m1, l1, rfl, eb1, em1⟩ := get i x hx
              obtain ⟨b2, m2, l2, rfl, eb2, em2⟩ := get (1 + i) y hy
              have sT : Same H2 (upd H3 T (.tup [.ref b1, .ref b2])) := same_new sm2 nT
              have eDT := (upd_ne (o := .tup [.ref b1, .ref b2]) (ne_of_none eD2 nT)).trans eD2
              refine ⟨T, _, rfl, SqT.of upd_same, rfl, _, _, rfl, _, _, rfl, rfl, rfl, yesIte ?_⟩
              generalize upd H3 T (.tup [.ref b1, .ref b2]) = H4 at sT eDT
              have s3 := (s1.trans sZ).trans sT
              have ez : (List.zip (ts.map firstT) ((ts.map firstT).drop 1))[i]? = some (m1, m2) := by
                rw [List.getElem?_zip_eq_some]
                exact ⟨em1, by rw [List.getElem?_drop]; exact em2⟩
              have hi : i < vs.length := (List.getElem?_eq_some_iff.mp hx).1
              refine ⟨_, rfl, b1, _, 0, _, rfl, rfl, SqT.of (s3 _ _ eb1), atI_nat (j := 0) rfl, _, rfl, b2, _, 0, _, rfl, rfl, SqT.of (s3 _ _ eb2), atI_nat (j := 0) rfl, _, _, rfl, rfl, ?_⟩
              refine ⟨_, eDT, ?_, same_mine sT nD2, ?_⟩
              · rw [List.length_map, List.length_map, List.length_take]
                exact small1000 (by omega)
              · rw [upd_same, List.take_add_one, ez]
                show _ = some (HO.lst ((((List.zip (ts.map firstT) ((ts.map firstT).drop 1)).take i ++ [(m1, m2)]).map fallB).map V.bl))
                rw [List.map_append, List.map_append]
                rfl
            · obtain ⟨sm2, eD2⟩ := hm
              rw [← hzl, List.take_length] at eD2
              refine ⟨D2, _, rfl, SqL.of eD2, ?_⟩
              exact q _ ((s1.trans sZ).trans sm2)
theorem ok_is_wisp {fT fW fS f : Addr} {fdT fdW fdS fd : FuncData} (F : Fun K "is_wisp" "is_wisp" s_is_wisp f fd) (bi : Bi mg) (C_is_tuple : Cal P w K mg base "is_tuple" P_is_tuple 1 spTupleT fT fdT) (C_is_whole : Cal P w K mg base "is_whole" P_is_whole 1 spWholeT fW fdW) (C_are_steps : Cal P w K mg base "are_steps" P_are_steps 3 spStepsT fS fdS) : FnOk P w K mg base CX0 4 f fd P_is_wisp spWispT := by
  refine F.ok sc_is_wisp (fun vs H Q E h => ?_) (fun cdv A outer s H vs Q E hr h => ?_)
  · obtain ⟨v, t, rfl, _⟩ := h
    rfl
  · obtain ⟨v, t, rfl, hv, q⟩ := h
    refine ⟨_, (pss_cons (ps_if (pt_not (pt_val (pe_call (C_is_tuple.G.mono (by decide)) hr (by rfl) C_is_tuple.g C_is_tuple.kp C_is_tuple.b .nil pass0 (pa_cons (pv 0) (pa_cons pe_int (pa_cons pe_int pa_nil))))))
      (pss_one (ps_ret pe_bl))
      pss_nil)
    (pss_cons (ps_asg (pv 0) (pg_tup rfl (pgs_cons (pg_name (i := 1) sc_is_wisp.nd rfl (.inl rfl)) (pgs_cons (pg_name (i := 2) sc_is_wisp.nd rfl (.inl rfl)) pgs_nil))))
    (pss_one (ps_ret (pe_and (pe_call (C_is_whole.G.mono (by decide)) hr (by rfl) C_is_whole.g C_is_whole.kp C_is_whole.b .nil pass0 (pa_cons (pv 1) (pa_cons pe_int pa_nil))) (pe_and (pe_cmpR op_le (pv 1) pe_int (nomark _)) (pe_one (pe_call (C_are_steps.G.mono (by decide)) hr (by rfl) C_are_steps.g C_are_steps.kp C_are_steps.b .nil pass0 (pa_cons (pv 2) pa_nil))))))))), ?_⟩
    refine ⟨_, rfl, v, t, 2, 2, rfl, hv, _, rfl, ?_⟩
    cases t with
    | int m => exact iteNF (q _ (Same.refl _))
    | bl b => exact iteNF (q _ (Same.refl _))
    | oth => exact iteNF (q _ (Same.refl _))
    | tup ts =>
      match ts, hv, q with
      | [], hv, q => exact iteNF (q _ (Same.refl _))
      | [_], hv, q => exact iteNF (q _ (Same.refl _))
      | [x, y], hv, q =>
        refine iteNT ?_
        obtain ⟨a, vs, rfl, ea, hl, hh⟩ := hv.tupE
        match vs, ea, hl, hh with
        | [u, v], ea, _, hh =>
          have q : ∀ H', Same H H' → Q (.bl (whT x 0 && decide (numT x ≤ 1) && areSteps y)) H' := q
          refine ⟨_, rfl, a, _, rfl, SqT.of ea, rfl, _, _, rfl, _, _, rfl, rfl, ?_⟩
          refine ⟨_, rfl, u, x, 0, rfl, hh 0 u x rfl rfl, _, rfl, ite2 (fun e => ?_) (fun e => ?_)⟩
          · rw [e, Bool.true_and] at q
            obtain ⟨m, rfl, m0⟩ := wh_of e
            have e1 := (hh 0 u _ rfl rfl).intE
            subst e1
            have q : ∀ H', Same H H' → Q (.bl (decide (m ≤ 1) && areSteps y)) H' := q
            refine ⟨_, rfl, _, _, rfl, rfl, _, rfl, ite2 (fun e => ?_) (fun e => ?_)⟩
            · rw [e, Bool.true_and] at q
              exact ⟨_, rfl, v, y, rfl, hh 1 v y rfl rfl, q⟩
            · rw [Bool.eq_false_iff.mpr e, Bool.false_and] at q
              exact q _ (Same.refl _)
          · rw [Bool.eq_false_iff.mpr e, Bool.false_and] at q
            exact q _ (Same.refl _)
      | x :: y :: z :: r, hv, q =>
        have hln : lenIn (.tup (x :: y :: z :: r)) 2 2 = false := by
          show (decide ((2 : Int) ≤ ((r.length + 1 + 1 + 1 : Nat) : Int)) && decide (((r.length + 1 + 1 + 1 : Nat) : Int) ≤ 2)) = false
          rw [decide_eq_false (show ¬ ((r.length + 1 + 1 + 1 : Nat) : Int) ≤ 2 by omega), Bool.and_false]
        rw [hln]
        exact iteNF (q _ (Same.refl _))
theorem ok__law_blend {f : Addr} {fd : FuncData} {k : Nat} (F : Fun K "_law_blend" "_law_blend" s__law_blend f fd) : FnOk P w K mg base CX0 (k + 1) f fd P__law_blend spBlend := by
  refine F.ok sc__law_blend (fun vs H Q E h => ?_) (fun cdv A outer s H vs Q E hr h => ?_)
  · obtain ⟨n, t, rfl, _⟩ := h
    rfl
  · obtain ⟨n, t, rfl, h0, h1, q⟩ := h
    refine ⟨_, (pss_cons (ps_set (i := 2) sc__law_blend.nd rfl (.inl rfl) (pe_op op_add (pe_op op_add (pe_op op_add (pe_op op_mod (pv 0) pe_int) (pe_op op_mul (pe_op op_mul pe_int (pv 1)) (pv 1))) (pe_op op_mul pe_int (pv 1))) pe_int))
    (pss_cons (ps_set (i := 3) sc__law_blend.nd rfl (.inl rfl) (pe_op op_mod (pe_op op_mul (pv 2) pe_int) pe_int))
    (pss_one (ps_ret (pe_op op_mod (pe_op op_add (pe_op op_mul (pv 3) (pe_op op_add (pe_op op_mod (pv 3) pe_int) (pe_op op_mul pe_int (pv 1)))) (pe_op op_fdiv (pv 3) pe_int)) pe_int))))), ?_⟩
    have b1 : -(2 ^ 64) < t ∧ t < 2 ^ 64 := ⟨by omega, by omega⟩
    have b2 : ∀ x : Int, -(2 ^ 64) < x % 2305843009213693921 ∧ x % 2305843009213693921 < 2 ^ 64 := fun x => ⟨by omega, by omega⟩
    refine ⟨_, rfl, _, _, rfl, rfl, (by show (0 : Int) < 2305843009213693951; decide), _, rfl, _, _, rfl, rfl, .inl ⟨by decide, by decide⟩, _, rfl, _, _, rfl, rfl, .inr b1, _, _, rfl, rfl, _, rfl, _, _, rfl, rfl, .inl ⟨by decide, by decide⟩, _, _, rfl, rfl, _, _, rfl, rfl, ?_⟩
    refine ⟨_, rfl, _, _, rfl, rfl, .inr ⟨by decide, by decide⟩, _, _, rfl, rfl, (by show (0 : Int) < 2305843009213693921; decide), ?_⟩
    refine ⟨_, rfl, _, rfl, _, _, rfl, rfl, (by show (0 : Int) < 1000003; decide), _, rfl, _, _, rfl, rfl, .inl ⟨by decide, by decide⟩, _, _, rfl, rfl, _, _, rfl, rfl, .inl (b2 _), _, rfl, _, _, rfl, rfl, ⟨by decide, by decide⟩, _, _, rfl, rfl, _, _, rfl, rfl, (by show (0 : Int) < 2305843009213693907; decide), q _⟩
theorem ok__law_pot {f : Addr} {fd : FuncData} {k : Nat} (F : Fun K "_law_pot" "_law_pot" s__law_pot f fd) (bi : Bi mg) : FnOk P w K mg base CX0 (k + 1) f fd P__law_pot (spPot K) := by
  refine F.ok sc__law_pot (fun vs H Q E h => ?_) (fun cdv A outer s H vs Q E hr h => ?_)
  · obtain ⟨a, ns, rfl, _⟩ := h
    rfl
  · obtain ⟨a, ns, rfl, hS, hn, q⟩ := h
    refine ⟨_, (pss_one (ps_ret (pe_lst (pa_cons (pe_callTy call_list_of (by rfl) bi.m_list (by decide +kernel) (pa_cons (pv 0) pa_nil)) (pa_cons pe_int (pa_cons pe_int (pa_cons pe_int pa_nil))))))), ?_⟩
    refine ⟨_, rfl, a, _, rfl, .inl hS, fun l nl => ?_⟩
    refine ⟨(by show 4 ≤ sizeLine; decide), fun p np => ?_⟩
    have hpl : l ≠ p := fun e => by
      rw [← e, upd_same] at np
      cases np
    have np' : H p = none := by
      rw [upd_ne hpl.symm] at np
      exact np
    refine q _ p l (fun b o e => ?_) np' nl ⟨ns, 0, 3, 0, upd_same, ?_, by decide, Nat.le_refl _, hn⟩
    · rw [upd_ne (ne_of_none e np'), upd_ne (ne_of_none e nl)]
      exact e
    · rw [upd_ne hpl, upd_same]
theorem ok__law_draw {f fB : Addr} {fd fdB : FuncData} (F : Fun K "_law_draw" "_law_draw" s__law_draw f fd) (bi : Bi mg) (C__law_blend : Cal P w K mg base "_law_blend" P__law_blend 1 spBlend fB fdB) : FnOk P w K mg base CX0 2 f fd P__law_draw spDraw := by
  refine F.ok sc__law_draw (fun vs H Q E h => ?_) (fun cdv A outer s H vs Q E hr h => ?_)
  · obtain ⟨p, l, T, many, rfl, _⟩ := h
    rfl
  · obtain ⟨p, l, T, many, rfl, hp, hT, m0, q⟩ := h
    have hu64 := hr.units
    refine ⟨_, (pss_cons (ps_asg (pe_op op_add (pe_ix ix_list (pv 0) pe_int (fun _ _ => rfl)) pe_int) (pg_sub (pv 0) pe_int set_list))
    (C8.pss_cut (ps_if (pw_and (pt_cmpR op_eq (pe_ix ix_list (pv 0) pe_int (fun _ _ => rfl)) pe_int (nomark _)) (pw_and1 (pt_cmpR (op_neD hu64) (pe_ix ix_list (pv 0) pe_int (fun _ _ => rfl)) (pe_lst pa_nil) (nomark _)))).pt
      (pss_cons (ps_set (i := 2) sc__law_draw.nd rfl (.inl rfl) (pe_bm PySem.F.plainAttrs_list PySem.F.slot_list_pop PySem.F.type_list_pop mt_popAt (pe_ix ix_list (pv 0) pe_int (fun _ _ => rfl)) (pa_cons pe_int pa_nil)))
        (pss_cons (ps_asg (pe_call (C__law_blend.G.mono (by decide)) hr (by rfl) C__law_blend.g C__law_blend.kp C__law_blend.b .nil pass0 (pa_cons (pe_op op_add (pe_ix ix_list (pv 0) pe_int (fun _ _ => rfl)) (pv 2)) (pa_cons (pe_callB call_len_seq (by rfl) bi.m_len (by decide +kernel) (pa_cons (pe_ix ix_list (pv 0) pe_int (fun _ _ => rfl)) pa_nil)) pa_nil))) (pg_sub (pv 0) pe_int set_list))
        (pss_one (ps_if (pt_cmpR op_ge (pe_callB call_abs (by rfl) bi.m_abs (by decide +kernel) (pa_cons (pv 2) pa_nil)) (pe_op op_pow pe_int pe_int) (nomark _))
          (pss_one (ps_asg (pe_callB call_abs (by rfl) bi.m_abs (by decide +kernel) (pa_cons (pv 2) pa_nil)) (pg_sub (pv 0) pe_int set_list)))
          pss_nil))))
      pss_nil)
    (pss_cons (ps_if (pt_cmpR op_gt (pe_ix ix_list (pv 0) pe_int (fun _ _ => rfl)) pe_int (nomark _))
      (pss_cons (ps_set (i := 3) sc__law_draw.nd rfl (.inl rfl) (pe_op op_mod (pe_ix ix_list (pv 0) pe_int (fun _ _ => rfl)) (pv 1)))
        (pss_cons (ps_asg (pe_op op_fdivW (pe_ix ix_list (pv 0) pe_int (fun _ _ => rfl)) (pv 1)) (pg_sub (pv 0) pe_int set_list))
        (pss_one (ps_ret (pv 3)))))
      pss_nil)
    (pss_one (ps_ret (pe_op op_mod (pe_op op_fdiv (pe_call (C__law_blend.G.mono (by decide)) hr (by rfl) C__law_blend.g C__law_blend.kp C__law_blend.b .nil pass0 (pa_cons (pe_ix ix_list (pv 0) pe_int (fun _ _ => rfl)) (pa_cons (pe_ix ix_list (pv 0) pe_int (fun _ _ => rfl)) pa_nil))) pe_int) (pv 1))))))), ?_⟩
    have hne := hp.ne
    obtain ⟨ns, c, m, t, ep, el, c0, tT, hn⟩ := hp
    -- pot[3] = pot[3] + 1
    refine ⟨_, rfl, p, _, 3, _, rfl, rfl, SqL.of ep, atI_nat (j := 3) rfl, _, _, rfl, rfl, _, rfl, p, _, 3, 3, rfl, rfl, ep, rfl, ?_⟩
    have ep1 : upd H p (.lst [.ref l, .int c, .int m, .int ((t : Int) + 1)]) p = some (.lst [.ref l, .int c, .int m, .int ((t : Int) + 1)]) := upd_same
    have el1 : upd H p (.lst [.ref l, .int c, .int m, .int ((t : Int) + 1)]) l = some (.lst (ns.map V.int)) := by rw [upd_ne hne.symm]; exact el
    have k1 : Keep p l H (upd H p (.lst [.ref l, .int c, .int m, .int ((t : Int) + 1)])) := Keep.refl.own
    show C8.tCut _ _ _ _ (upd H p (.lst [.ref l, .int c, .int m, .int ((t : Int) + 1)]))
    generalize upd H p (.lst [.ref l, .int c, .int m, .int ((t : Int) + 1)]) = H1 at ep1 el1 k1
    -- the middle
    refine ⟨fun σ' H' => ∃ (x2 x3 : Option V) (ns' : List Int) (c' m' : Int), σ' = [some (.ref p), some (.int many), x2, x3] ∧ H' p = some (.lst [.ref l, .int c', .int m', .int ((t : Int) + 1)]) ∧ H' l = some (.lst (ns'.map V.int)) ∧ 0 ≤ c' ∧ ns'.length ≤ 63 ∧ Keep p l H H', ?_, fun σ' H' hm => ?_⟩
    · refine ⟨_, rfl, p, _, 1, _, rfl, rfl, SqL.of ep1, atI_nat (j := 1) rfl, rfl, _, rfl, ite2 (fun e => ?_) (fun e => ?_)⟩
      · refine ⟨_, rfl, p, _, 0, _, rfl, rfl, SqL.of ep1, atI_nat (j := 0) rfl, Nat.zero_le _, fun z nz => ?_⟩
        have elz : upd H1 z (.lst []) l = some (.lst (ns.map V.int)) := by
          rw [upd_ne (ne_of_none el1 nz)]
          exact el1
        have epz : upd H1 z (.lst []) p = some (.lst [.ref l, .int c, .int m, .int ((t : Int) + 1)]) := by
          rw [upd_ne (ne_of_none ep1 nz)]
          exact ep1
        have k2 : Keep p l H (upd H1 z (.lst [])) := k1.new nz
        refine ⟨_, _, .lst (SqL.of elz) (dpInts _ ns), .lst (SqL.of upd_same) .nil, shInts ns, rfl, _, rfl, ite2 (fun e2 => ?_) (fun e2 => ?_)⟩
        · show tSeq _ _ _ _ (upd H1 z (.lst []))
          generalize upd H1 z (.lst []) = H2 at elz epz k2
          cases ns with
          | nil => exact absurd e2 (by decide)
          | cons n r =>
            -- cell = pot[0].pop(0)
            refine ⟨_, rfl, p, _, 0, _, rfl, rfl, SqL.of epz, atI_nat (j := 0) rfl, Or.inl ⟨rfl, _, SqL.of elz⟩, l, _, 0, 0, .int n, rfl, rfl, elz, by decide, by decide, ?_, rfl, ?_⟩
            · show seqIndex? 0 ((r.map V.int).length + 1) = some 0
              unfold seqIndex?
              simp
            have elz2 : upd H2 l (.lst (r.map V.int)) l = some (.lst (r.map V.int)) := upd_same
            have epz2 : upd H2 l (.lst (r.map V.int)) p = some (.lst [.ref l, .int c, .int m, .int ((t : Int) + 1)]) := by
              rw [upd_ne hne]
              exact epz
            have k3 : Keep p l H (upd H2 l (.lst (r.map V.int))) := k2.own2
            show tSeq _ _ _ _ (upd H2 l (.lst (r.map V.int)))
            generalize upd H2 l (.lst (r.map V.int)) = H3 at elz2 epz2 k3
            have hr63 : r.length ≤ 63 := Nat.le_trans (Nat.le_succ _) hn
            -- pot[2] = blend(pot[2] + cell, len(pot[0]))
            refine ⟨_, rfl, p, _, 2, _, rfl, rfl, SqL.of epz2, atI_nat (j := 2) rfl, _, rfl, _, _, rfl, rfl, _, rfl, p, _, 0, _, rfl, rfl, SqL.of epz2, atI_nat (j := 0) rfl, l, _, rfl, .inl (SqL.of elz2), _, _, rfl, ?_, ?_, fun m2 => ?_⟩
            · omega
            · rw [List.length_map]
              omega
            refine ⟨_, rfl, p, _, 2, 2, rfl, rfl, epz2, rfl, ?_⟩
            have ep4 : upd H3 p (.lst [.ref l, .int c, .int m2, .int ((t : Int) + 1)]) p = some (.lst [.ref l, .int c, .int m2, .int ((t : Int) + 1)]) := upd_same
            have el4 : upd H3 p (.lst [.ref l, .int c, .int m2, .int ((t : Int) + 1)]) l = some (.lst (r.map V.int)) := by
              rw [upd_ne hne.symm]
              exact elz2
            have k4 : Keep p l H (upd H3 p (.lst [.ref l, .int c, .int m2, .int ((t : Int) + 1)])) := k3.own
            refine ⟨_, rfl, n, rfl, _, _, rfl, rfl, ⟨by decide, by decide, by decide⟩, _, _, rfl, rfl, _, rfl, ite2 (fun e3 => ?_) (fun e3 => ?_)⟩
            · refine ⟨_, rfl, n, rfl, _, rfl, p, _, 1, 1, rfl, rfl, ep4, rfl, ?_⟩
              refine ⟨_, _, r, (if n < 0 then -n else n), m2, rfl, upd_same, ?_, ?_, hr63, k4.own⟩
              · rw [upd_ne hne.symm]
                exact el4
              · split <;> omega
            · exact ⟨_, _, r, c, m2, rfl, ep4, el4, c0, hr63, k4⟩
        · exact ⟨_, _, ns, c, m, rfl, epz, elz, c0, hn, k2⟩
      · exact ⟨_, _, ns, c, m, rfl, ep1, el1, c0, hn, k1⟩
    · obtain ⟨x2, x3, ns', c', m', rfl, ep', el', c0', hn', k'⟩ := hm
      have pt : ∀ c2 : Int, 0 ≤ c2 → Pot (upd H' p (.lst [.ref l, .int c2, .int m', .int ((t : Int) + 1)])) p l (T + 1) := fun c2 h2 =>
        ⟨ns', c2, m', t + 1, upd_same, by rw [upd_ne hne.symm]; exact el', h2, by omega, hn'⟩
      refine ⟨_, rfl, p, _, 1, _, rfl, rfl, SqL.of ep', atI_nat (j := 1) rfl, _, _, rfl, rfl, _, rfl, ite2 (fun e => ?_) (fun e => ?_)⟩
      · refine ⟨_, rfl, p, _, 1, _, rfl, rfl, SqL.of ep', atI_nat (j := 1) rfl, _, rfl, _, _, rfl, rfl, m0.1, ?_⟩
        refine ⟨_, rfl, p, _, 1, _, rfl, rfl, SqL.of ep', atI_nat (j := 1) rfl, _, rfl, _, _, rfl, rfl, m0, _, rfl, p, _, 1, 1, rfl, rfl, ep', rfl, ?_⟩
        exact ⟨_, rfl, q _ _ (Int.emod_nonneg _ (Int.ne_of_gt m0.1)) (Int.emod_lt_of_pos _ m0.1) (pt _ (Int.ediv_nonneg c0' (Int.le_of_lt m0.1))) k'.own⟩
      · refine ⟨_, rfl, p, _, 2, _, rfl, rfl, SqL.of ep', atI_nat (j := 2) rfl, _, rfl, p, _, 3, _, rfl, rfl, SqL.of ep', atI_nat (j := 3) rfl, _, _, rfl, by omega, by omega, fun r => ?_⟩
        refine ⟨_, _, rfl, rfl, ⟨by decide, by decide⟩, _, rfl, _, _, rfl, rfl, m0.1, ?_⟩
        exact q _ _ (Int.emod_nonneg _ (Int.ne_of_gt m0.1)) (Int.emod_lt_of_pos _ m0.1) ⟨ns', c', m', t + 1, ep', el', c0', by omega, hn'⟩ k'
theorem ok__law_pick {f fD : Addr} {fd fdD : FuncData} (F : Fun K "_law_pick" "_law_pick" s__law_pick f fd) (bi : Bi mg) (C__law_draw : Cal P w K mg base "_law_draw" P__law_draw 2 spDraw fD fdD) : FnOk P w K mg base CX0 3 f fd P__law_pick spPick65 := by
  refine F.ok sc__law_pick (fun vs H Q E h => ?_) (fun cdv A outer s H vs Q E hr h => ?_)
  · obtain ⟨p, l, T, _, _, h⟩ := h
    rcases h with ⟨a, xs, rfl, _⟩ | ⟨z, rfl, _⟩
    · rfl
    · rfl
  · obtain ⟨p, l, T, hp, hT, h⟩ := h
    have hn : ∀ n : Nat, 1 ≤ n → n ≤ 1000 → CDivW 0 (n : Int) := fun n h1 h2 => wide_div (b := 11) (by omega) (by omega) (by decide) (by decide)
    rcases h with ⟨a, xs, rfl, ea, nap, nal, h1, h2, q⟩ | ⟨z, rfl, h1, h2, q⟩
    · refine ⟨_, (pss_one (ps_ret (pe_ix ix_list (pv 1) (pe_call (C__law_draw.G.mono (by decide)) hr (by rfl) C__law_draw.g C__law_draw.kp C__law_draw.b .nil pass0 (pa_cons (pv 0) (pa_cons (pe_callB call_len_seq (by rfl) bi.m_len (by decide +kernel) (pa_cons (pv 1) pa_nil)) pa_nil))) (fun _ _ => rfl)))), ?_⟩
      refine ⟨_, rfl, _, rfl, _, rfl, a, xs, rfl, .inl (SqL.of ea), p, l, T, (xs.length : Int), rfl, hp, by omega, hn _ h1 h2, fun d H1 d0 d1 hp1 k1 => ?_⟩
      obtain ⟨j, rfl⟩ : ∃ j : Nat, d = j := ⟨d.toNat, by omega⟩
      have hj : j < xs.length := by omega
      refine ⟨a, xs, _, xs[j], rfl, rfl, SqL.of (k1 _ _ nap nal ea), atI_nat (List.getElem?_eq_getElem hj), ?_⟩
      exact q _ j _ (List.getElem?_eq_getElem hj) hp1 k1
    · refine ⟨_, pss_one (ps_ret (pe_ix ix_str (pv 1) (pe_call (C__law_draw.G.mono (by decide)) hr (by rfl) C__law_draw.g C__law_draw.kp C__law_draw.b .nil pass0 (pa_cons (pv 0) (pa_cons (pe_callB call_len_str (by rfl) bi.m_len (by decide +kernel) (pa_cons (pv 1) pa_nil)) pa_nil))) (fun _ _ => rfl))), ?_⟩
      have hz : z.length = (cpl z).length := cpl_len z
      refine ⟨_, rfl, _, rfl, _, rfl, z, rfl, small_line (by omega), p, l, T, (z.length : Int), rfl, hp, by omega, hn _ (by omega) (by omega), fun d H1 d0 d1 hp1 k1 => ?_⟩
      obtain ⟨j, rfl⟩ : ∃ j : Nat, d = j := ⟨d.toNat, by omega⟩
      have hj : j < (cpl z).length := by omega
      exact ⟨z, _, (cpl z)[j], rfl, rfl, small_line (by omega), atI_nat (List.getElem?_eq_getElem hj), q _ _ (List.getElem_mem hj) hp1 k1⟩
theorem ok__law_great {f fB : Addr} {fd fdB : FuncData} (F : Fun K "_law_great" "_law_great" s__law_great f fd) (bi : Bi mg) (C__law_draw : Cal P w K mg base "_law_draw" P__law_draw 2 spDraw fB fdB) : FnOk P w K mg base CX0 3 f fd P__law_great spGreat := by
  refine F.ok sc__law_great (fun vs H Q E h => ?_) (fun cdv A outer s H vs Q E hr h => ?_)
  · obtain ⟨p, l, T, rfl, _⟩ := h
    rfl
  · obtain ⟨p, l, T, rfl, hp, hT, q⟩ := h
    refine ⟨_, (pss_cons (ps_set (i := 1) sc__law_great.nd rfl (.inl rfl) (pe_call (C__law_draw.G.mono (by decide)) hr (by rfl) C__law_draw.g C__law_draw.kp C__law_draw.b .nil pass0 (pa_cons (pv 0) (pa_cons pe_int pa_nil))))
    (pss_cons (ps_set (i := 2) sc__law_great.nd rfl (.inl rfl) (pe_call (C__law_draw.G.mono (by decide)) hr (by rfl) C__law_draw.g C__law_draw.kp C__law_draw.b .nil pass0 (pa_cons (pv 0) (pa_cons (pe_ix ix_list (pe_lst (pa_cons pe_int (pa_cons pe_int (pa_cons pe_int (pa_cons pe_int pa_nil))))) (pv 1) (fun _ _ => rfl)) pa_nil))))
    (C8.pss_cut (ps_if (pt_cmpR op_eq (pv 1) pe_int (nomark _))
      (pss_one (ps_for PassesOwn.never rfl (pi_range1 rfl bi.m_range (pa_cons pe_int pa_nil)) (pg_name (i := 3) sc__law_great.nd rfl (.inl rfl))
          (pss_one (ps_set (i := 2) sc__law_great.nd rfl (.inl rfl) (pe_op op_add (pe_op op_mul (pv 2) (pe_op op_pow pe_int pe_int)) (pe_call (C__law_draw.G.mono (by decide)) hr (by rfl) C__law_draw.g C__law_draw.kp C__law_draw.b .nil pass0 (pa_cons (pv 0) (pa_cons (pe_op op_pow pe_int pe_int) pa_nil))))))))
      pss_nil)
    (pss_one (ps_ret (pv 2)))))), ?_⟩
    refine ⟨_, rfl, p, l, T, 4, rfl, hp, by omega, ⟨by decide, by decide⟩, fun way H1 w0 w1 hp1 k1 => ?_⟩
    refine ⟨_, rfl, by decide, fun z nz => ?_⟩
    have hq : ∀ b : Int, 0 < b → b ≤ 1000 → CDivW 0 b := fun b h0 h1 => wide_div (b := 10) h0 (by omega) (by decide) (by decide)
    have ix : ∃ b : Int, 0 < b ∧ b ≤ 1000 ∧ (way = 1 → b = 3) ∧ atI [V.int 3, V.int 3, V.int 12, V.int 1000] way = some (.int b) := by
      have hw : way = 0 ∨ way = 1 ∨ way = 2 ∨ way = 3 := by omega
      rcases hw with rfl | rfl | rfl | rfl
      · exact ⟨3, by decide, by decide, by decide, rfl⟩
      · exact ⟨3, by decide, by decide, by decide, rfl⟩
      · exact ⟨12, by decide, by decide, by decide, rfl⟩
      · exact ⟨1000, by decide, by decide, by decide, rfl⟩
    obtain ⟨b, b0, b1, b2, eb⟩ := ix
    refine ⟨_, rfl, z, _, way, _, rfl, rfl, SqL.of upd_same, eb, p, l, T + 1, b, rfl, hp1.new nz, by omega, hq b b0 b1, fun d H2 d0 d1 hp2 k2 => ?_⟩
    have k02 : Keep p l H H2 := (k1.new nz).trans k2
    refine ⟨fun σ' H' => ∃ (n : Int) (x3 : Option V), σ' = [some (.ref p), some (.int way), some (.int n), x3] ∧ 0 ≤ n ∧ n < 2 ^ 122 ∧ Pot H' p l (T + 5) ∧ Keep p l H H', ?_, fun σ' H' hm => ?_⟩
    · refine ⟨_, rfl, rfl, _, rfl, ite2 (fun e => ?_) (fun e => ?_)⟩
      · have ew : way = 1 := V.int.inj (of_decide_eq_true e)
        have eb3 := b2 ew
        refine ⟨3, rfl, by decide, by decide, for_range (n := 3) (fun i σ' H' => ∃ (n : Int) (x3 : Option V), σ' = [some (.ref p), some (.int way), some (.int n), x3] ∧ 0 ≤ n ∧ n < 3 * 1000000000000 ^ i ∧ Pot H' p l (T + 2 + i) ∧ Keep p l H H') ⟨d, _, rfl, d0, by rw [eb3] at d1; simpa using d1, hp2, k02⟩ (fun i σ' H' hi hm => ?_) (fun σ' H' hm => ?_)⟩
        · obtain ⟨n, x3, rfl, n0, n1, hpi, ki⟩ := hm
          refine ⟨_, rfl, _, _, rfl, rfl, ⟨by decide, by decide, by decide⟩, _, _, rfl, rfl, .inr ⟨by decide, by decide⟩, ?_⟩
          refine ⟨_, rfl, _, _, rfl, rfl, ⟨by decide, by decide, by decide⟩, p, l, T + 2 + i, _, rfl, hpi, by omega, ⟨by decide, by decide⟩, fun d2 H3 e0 e1 hp3 k3 => ?_⟩
          refine ⟨_, _, rfl, rfl, ?_⟩
          refine ⟨_, _, rfl, ?_, ?_, hp3, ki.trans k3⟩
          · show 0 ≤ n * 10 ^ 12 + d2
            have : 0 ≤ n * 10 ^ 12 := Int.mul_nonneg n0 (by decide)
            omega
          · have e12 : (10 : Int) ^ (12 : Int).toNat = 1000000000000 := by decide
            have e1' : d2 < 10 ^ (12 : Int).toNat := e1
            show n * 10 ^ (12 : Int).toNat + d2 < 3 * 1000000000000 ^ (i + 1)
            rw [e12] at e1'
            rw [e12, Int.pow_succ]
            generalize (1000000000000 : Int) ^ i = y at n1
            omega
        · obtain ⟨n, x3, rfl, n0, n1, hpi, ki⟩ := hm
          exact ⟨n, x3, rfl, n0, Int.lt_trans n1 (by decide), hpi, ki⟩
      · exact ⟨d, _, rfl, d0, Int.lt_trans d1 (Int.lt_of_le_of_lt b1 (by decide)), hp2.mono (by omega), k02⟩
    · obtain ⟨n, x3, rfl, n0, n1, hpi, ki⟩ := hm
      exact ⟨_, rfl, q _ _ n0 n1 hpi ki⟩
theorem ok__law_wisp {f fB fG : Addr} {fd fdB fdG : FuncData} (F : Fun K "_law_wisp" "_law_wisp" s__law_wisp f fd) (bi : Bi mg) (C__law_draw : Cal P w K mg base "_law_draw" P__law_draw 2 spDraw fB fdB) (C__law_great : Cal P w K mg base "_law_great" P__law_great 3 spGreat fG fdG) : FnOk P w K mg base CX0 4 f fd P__law_wisp spWispP := by
  refine F.ok sc__law_wisp (fun vs H Q E h => ?_) (fun cdv A outer s H vs Q E hr h => ?_)
  · obtain ⟨p, l, T, most, small, rfl, _⟩ := h
    rfl
  · obtain ⟨p, l, T, most, small, rfl, hp, hT, m3, m10, q⟩ := h
    refine ⟨_, (pss_cons (ps_set (i := 3) sc__law_wisp.nd rfl (.inl rfl) (pe_ix ix_list (pe_lst (pa_cons (pe_op op_add pe_int (pe_call (C__law_draw.G.mono (by decide)) hr (by rfl) C__law_draw.g C__law_draw.kp C__law_draw.b .nil pass0 (pa_cons (pv 0) (pa_cons (pv 1) pa_nil)))) (pa_cons (pv 1) (pa_cons pe_int (pa_cons (pe_op op_add pe_int (pe_call (C__law_draw.G.mono (by decide)) hr (by rfl) C__law_draw.g C__law_draw.kp C__law_draw.b .nil pass0 (pa_cons (pv 0) (pa_cons pe_int pa_nil)))) pa_nil))))) (pe_call (C__law_draw.G.mono (by decide)) hr (by rfl) C__law_draw.g C__law_draw.kp C__law_draw.b .nil pass0 (pa_cons (pv 0) (pa_cons pe_int pa_nil))) (fun _ _ => rfl)))
    (pss_cons (ps_par (i := 4) (j := 5) rfl sc__law_wisp.nd rfl rfl (by decide) rfl rfl (pa_cons (pe_lst pa_nil) (pa_cons pe_int pa_nil)) rfl)
    (pss_cons (ps_for PassesOwn.never rfl (pi_range1 rfl bi.m_range (pa_cons (pe_callB (call_min2 rfl) (by rfl) bi.m_min (by decide +kernel) (pa_cons (pv 3) (pa_cons (pv 1) pa_nil))) pa_nil)) (pg_name (i := 6) sc__law_wisp.nd rfl (.inl rfl))
      (pss_cons (ps_set (i := 7) sc__law_wisp.nd rfl (.inl rfl) (pe_lst (pa_cons (pe_call (C__law_draw.G.mono (by decide)) hr (by rfl) C__law_draw.g C__law_draw.kp C__law_draw.b .nil pass0 (pa_cons (pv 0) (pa_cons pe_int pa_nil))) (pa_cons (pe_call (C__law_draw.G.mono (by decide)) hr (by rfl) C__law_draw.g C__law_draw.kp C__law_draw.b .nil pass0 (pa_cons (pv 0) (pa_cons pe_int pa_nil))) pa_nil))))
        (C8.pss_cut (ps_if (pt_not (pt_val (pv 2)))
          (pss_one (ps_set (i := 7) sc__law_wisp.nd rfl (.inl rfl) (pe_lst (pa_cons (pe_call (C__law_great.G.mono (by decide)) hr (by rfl) C__law_great.g C__law_great.kp C__law_great.b .nil pass0 (pa_cons (pv 0) pa_nil)) (pa_cons (pe_call (C__law_great.G.mono (by decide)) hr (by rfl) C__law_great.g C__law_great.kp C__law_great.b .nil pass0 (pa_cons (pv 0) pa_nil)) pa_nil)))))
          pss_nil)
        (pss_cons (ps_set (i := 5) sc__law_wisp.nd rfl (.inl rfl) (pe_op op_add (pe_op op_add (pv 5) pe_int) (pe_ix ix_list (pv 7) pe_int (fun _ _ => rfl))))
        (pss_one (ps_expr (pe_bm PySem.F.plainAttrs_list PySem.F.slot_list_insert PySem.F.type_list_insert mt_insert (pv 4) (pa_cons pe_int (pa_cons (pe_tup (pa_cons (pv 5) (pa_cons (pe_op op_add pe_int (pe_ix ix_list (pv 7) pe_int (fun _ _ => rfl))) pa_nil))) pa_nil)))))))))
    (pss_one (ps_ret (pe_tup (pa_cons (pe_call (C__law_draw.G.mono (by decide)) hr (by rfl) C__law_draw.g C__law_draw.kp C__law_draw.b .nil pass0 (pa_cons (pv 0) (pa_cons pe_int pa_nil))) (pa_cons (pe_callTy call_tuple_of (by rfl) bi.m_tuple (by decide +kernel) (pa_cons (pv 4) pa_nil)) pa_nil)))))))), ?_⟩
    have hq : ∀ b : Int, 0 < b → b ≤ 1000 → CDivW 0 b := fun b h0 h1 => wide_div (b := 10) h0 (by omega) (by decide) (by decide)
    refine ⟨_, rfl, _, rfl, p, l, T, most, rfl, hp, by omega, hq _ (by omega) (by omega), fun d1 H1 d10 d11 hp1 k1 => ?_⟩
    refine ⟨_, _, rfl, rfl, _, rfl, _, rfl, p, l, T + 1, 3, rfl, hp1, by omega, hq _ (by omega) (by omega), fun d2 H2 d20 d21 hp2 k2 => ?_⟩
    refine ⟨_, _, rfl, rfl, (by show 4 ≤ sizeLine; decide), fun z nz => ?_⟩
    refine ⟨_, rfl, p, l, T + 2, 4, rfl, hp2.new nz, by omega, hq _ (by omega) (by omega), fun d3 H3 d30 d31 hp3 k3 => ?_⟩
    have kz : Keep p l H2 H3 := (Keep.refl.new nz).trans k3
    have k03 : Keep p l H H3 := (k1.trans k2).trans kz
    obtain ⟨nz1, nz2⟩ := hp2.fresh nz
    have ez : H3 z = some (.lst [.int (1 + d1), .int most, .int 1, .int (1 + d2)]) := k3 z _ nz1 nz2 upd_same
    have ix : ∃ b : Int, 1 ≤ b ∧ b ≤ 10 ∧ atI [V.int (1 + d1), V.int most, V.int 1, V.int (1 + d2)] d3 = some (.int b) := by
      have hw : d3 = 0 ∨ d3 = 1 ∨ d3 = 2 ∨ d3 = 3 := by omega
      rcases hw with rfl | rfl | rfl | rfl
      · exact ⟨1 + d1, by omega, by omega, rfl⟩
      · exact ⟨most, by omega, by omega, rfl⟩
      · exact ⟨1, by omega, by omega, rfl⟩
      · exact ⟨1 + d2, by omega, by omega, rfl⟩
    obtain ⟨b, b1, b2, eb⟩ := ix
    refine ⟨z, _, d3, _, rfl, rfl, SqL.of ez, eb, ?_⟩
    -- steps, strong = [], 0
    refine ⟨Nat.zero_le _, fun S nS => ?_⟩
    have nSH : H S = none := k03.free hp3 nS
    obtain ⟨nSp, nSl⟩ := hp3.fresh nS
    refine ⟨_, _, rfl, ?_⟩
    obtain ⟨n, hmin, n1, n2⟩ : ∃ n, (if most < b then most else b) = n ∧ 1 ≤ n ∧ n ≤ most := ⟨_, rfl, by split <;> omega, by split <;> omega⟩
    refine ⟨_, rfl, _, rfl, _, _, rfl, (if most < b then most else b), rfl, by omega, by omega, ?_⟩
    rw [hmin]
    have PB : (2 : Int) ^ 122 + 1 ≤ 2 ^ 123 := by decide
    refine for_range (n := n.toNat) (fun i σ' H' => ∃ (x6 x7 : Option V) (as : List Addr) (ps : List (Int × Int)) (st : Int), σ' = [some (.ref p), some (.int most), some (.bl small), some (.int b), some (.ref S), some (.int st), x6, x7] ∧ ps.length = i ∧ H' S = some (.lst (as.map V.ref)) ∧ TupsAt H' as (ps.map stepV) ∧ Pot H' p l (T + 3 + 12 * i) ∧ Keep p l H H' ∧ Falls ps ∧ (∀ x ∈ ps, 1 ≤ x.1 ∧ x.1 ≤ st ∧ 1 ≤ x.2 ∧ x.2 ≤ 2 ^ 123) ∧ 0 ≤ st ∧ st ≤ i * 2 ^ 123 ∧ (small = true → (∀ x ∈ ps, x.2 ≤ 3) ∧ st ≤ 3 * i))
      ⟨_, _, [], [], 0, rfl, rfl, upd_same, TupsAt.nil, hp3.new nS, k03.new nS, List.Pairwise.nil, (fun x hx => by simp at hx), by decide, by decide, fun _ => ⟨(fun x hx => by simp at hx), by decide⟩⟩ (fun i σ' H' hi hm => ?_) (fun σ' H' hm => ?_)
    · obtain ⟨x6, x7, as, ps, st, rfl, hl, eS, tu, hpi, ki, fa, bo, st0, st1, sm⟩ := hm
      -- more = [draw, draw]
      refine ⟨_, rfl, p, l, T + 3 + 12 * i, 3, rfl, hpi, by omega, hq _ (by omega) (by omega), fun e1 H4 e10 e11 hp4 k4 => ?_⟩
      refine ⟨_, rfl, p, l, T + 3 + 12 * i + 1, 3, rfl, hp4, by omega, hq _ (by omega) (by omega), fun e2 H5 e20 e21 hp5 k5 => ?_⟩
      refine ⟨(by show 2 ≤ sizeLine; decide), fun M nM => ?_⟩
      have eS5 : H5 S = some (.lst (as.map V.ref)) := k5 _ _ nSp nSl (k4 _ _ nSp nSl eS)
      have tu5 : TupsAt H5 as (ps.map stepV) := (tu.mono (k4.tups hpi)).mono (k5.tups hp4)
      have nMS : S ≠ M := ne_of_none eS5 nM
      have kM : Keep p l H (upd H5 M (.lst [.int e1, .int e2])) := ((ki.trans k4).trans k5).new nM
      have eS6 : upd H5 M (.lst [.int e1, .int e2]) S = some (.lst (as.map V.ref)) := by
        rw [upd_ne nMS]
        exact eS5
      have tu6 : TupsAt (upd H5 M (.lst [.int e1, .int e2])) as (ps.map stepV) := tu5.mono (Tups.new nM)
      have hp6 : Pot (upd H5 M (.lst [.int e1, .int e2])) p l (T + 3 + 12 * i + 2) := hp5.new nM
      refine ⟨fun σ' H' => ∃ (M : Addr) (x6 : Option V) (a1 a2 : Int), σ' = [some (.ref p), some (.int most), some (.bl small), some (.int b), some (.ref S), some (.int st), x6, some (.ref M)] ∧ H' M = some (.lst [.int a1, .int a2]) ∧ 0 ≤ a1 ∧ a1 < 2 ^ 122 ∧ 0 ≤ a2 ∧ a2 < 2 ^ 122 ∧ (small = true → a1 ≤ 2 ∧ a2 ≤ 2) ∧ H' S = some (.lst (as.map V.ref)) ∧ TupsAt H' as (ps.map stepV) ∧ Pot H' p l (T + 3 + 12 * i + 12) ∧ Keep p l H H', ?_, fun σ' H' hm => ?_⟩
      · refine ⟨_, rfl, small, rfl, ?_⟩
        cases small with
        | true => exact ⟨M, _, e1, e2, rfl, upd_same, e10, by omega, e20, by omega, fun _ => ⟨by omega, by omega⟩, eS6, tu6, hp6.mono (by omega), kM⟩
        | false =>
          refine ⟨_, rfl, p, l, T + 3 + 12 * i + 2, rfl, hp6, by omega, fun g1 H7 g10 g11 hp7 k7 => ?_⟩
          refine ⟨_, rfl, p, l, T + 3 + 12 * i + 2 + 5, rfl, hp7, by omega, fun g2 H8 g20 g21 hp8 k8 => ?_⟩
          refine ⟨(by show 2 ≤ sizeLine; decide), fun M2 nM2 => ?_⟩
          have eS8 : H8 S = some (.lst (as.map V.ref)) := k8 _ _ nSp nSl (k7 _ _ nSp nSl eS6)
          refine ⟨M2, _, g1, g2, rfl, upd_same, g10, g11, g20, g21, (fun h => by cases h), ?_, ?_, hp8.new nM2, ((kM.trans k7).trans k8).new nM2⟩
          · rw [upd_ne (ne_of_none eS8 nM2)]
            exact eS8
          · exact (((tu6.mono (k7.tups hp6)).mono (k8.tups hp7)).mono (Tups.new nM2))
      · obtain ⟨M, x6, a1, a2, rfl, eM, a10, a11, a20, a21, asm, eS9, tu9, hp9, k9⟩ := hm
        refine ⟨_, rfl, _, _, rfl, rfl, _, rfl, M, _, 0, _, rfl, rfl, SqL.of eM, atI_nat (j := 0) rfl, _, _, rfl, rfl, ?_⟩
        refine ⟨_, rfl, .inl ⟨rfl, _, SqL.of eS9⟩, _, rfl, _, rfl, M, _, 1, _, rfl, rfl, SqL.of eM, atI_nat (j := 1) rfl, _, _, rfl, rfl, (by show 2 ≤ sizeLine; decide), fun t nt => ?_⟩
        have nSt : S ≠ t := ne_of_none eS9 nt
        have eS10 : upd H' t (.tup [.int (st + 1 + a1), .int (1 + a2)]) S = some (.lst (as.map V.ref)) := by
          rw [upd_ne nSt]
          exact eS9
        have lenas : as.length = i := by
          have := tu.1
          rw [List.length_map, hl] at this
          exact this
        refine ⟨S, _, 0, _, rfl, rfl, eS10, ?_, by decide, by decide, ?_⟩
        · rw [List.length_map]
          exact small1000 (by omega)
        have tu10 : TupsAt (upd H' t (.tup [.int (st + 1 + a1), .int (1 + a2)])) (t :: as) (((st + 1 + a1, 1 + a2) :: ps).map stepV) := (tu9.mono (Tups.new nt)).cons upd_same
        refine ⟨_, _, t :: as, (st + 1 + a1, 1 + a2) :: ps, st + 1 + a1, rfl, by simp [hl], upd_same, tu10.mono (Tups.ls eS10), ((hp9.new nt).other nSp nSl).mono (by omega), (k9.new nt).mine nSH, ?_, ?_, by omega, ?_, fun h => ⟨?_, ?_⟩⟩
        · refine List.Pairwise.cons (fun x hx => ?_) fa
          have := bo x hx
          show x.1 < st + 1 + a1
          omega
        · intro x hx
          rcases List.mem_cons.mp hx with rfl | hx
          · refine ⟨?_, ?_, ?_, ?_⟩
            · show 1 ≤ st + 1 + a1
              omega
            · exact Int.le_refl _
            · show 1 ≤ 1 + a2
              omega
            · show 1 + a2 ≤ 2 ^ 123
              omega
          · have := bo x hx
            omega
        · have : ((i + 1 : Nat) : Int) * 2 ^ 123 = (i : Int) * 2 ^ 123 + 2 ^ 123 := by
            rw [Int.natCast_add, Int.add_mul]
            simp
          rw [this]
          omega
        · intro x hx
          obtain ⟨s1, s2⟩ := sm h
          obtain ⟨s3, s4⟩ := asm h
          rcases List.mem_cons.mp hx with rfl | hx
          · show 1 + a2 ≤ 3
            omega
          · exact s1 x hx
        · obtain ⟨s1, s2⟩ := sm h
          obtain ⟨s3, s4⟩ := asm h
          omega
    · obtain ⟨x6, x7, as, ps, st, rfl, hl, eS, tu, hpi, ki, fa, bo, st0, st1, sm⟩ := hm
      refine ⟨_, rfl, p, l, T + 3 + 12 * n.toNat, 2, rfl, hpi, by omega, hq _ (by omega) (by omega), fun so H4 so0 so1 hp4 k4 => ?_⟩
      have eS4 : H4 S = some (.lst (as.map V.ref)) := k4 _ _ nSp nSl eS
      refine ⟨_, rfl, S, _, rfl, .inl ⟨SqL.of eS4, fun U nU => ?_⟩⟩
      refine ⟨(by show 2 ≤ sizeLine; decide), fun W nW => ?_⟩
      have nWU : U ≠ W := fun e => by
        rw [← e, upd_same] at nW
        cases nW
      have nW4 : H4 W = none := by
        rw [upd_ne nWU.symm] at nW
        exact nW
      have k5 : Keep p l H (upd (upd H4 U (.tup (as.map V.ref))) W (.tup [.int so, .ref U])) := ((ki.trans k4).new nU).new nW
      have tu4 : TupsAt (upd (upd H4 U (.tup (as.map V.ref))) W (.tup [.int so, .ref U])) as (ps.map stepV) := ((tu.mono (k4.tups hpi)).mono (Tups.new nU)).mono (Tups.new nW)
      have hb : (n.toNat : Int) = n := Int.toNat_of_nonneg (by omega)
      refine q _ W so ps (((hp4.new nU).new nW).mono (by omega)) k5 ⟨U, as, upd_same, ?_, tu4⟩ so0 (by omega) ⟨by omega, by omega, fun x hx => ?_⟩ (by omega) fa (fun h => ?_) ((ki.trans k4).free hp4 nW4)
      · rw [upd_ne nWU, upd_same]
      · have h1 := bo x hx
        have h3 : (n.toNat : Int) * 2 ^ 123 ≤ 10 * 2 ^ 123 := Int.mul_le_mul_of_nonneg_right (by omega) (by decide)
        omega
      · obtain ⟨s1, s2⟩ := sm h
        intro x hx
        have h1 := bo x hx
        exact ⟨by omega, s1 x hx⟩
theorem ok__law_whole {f : Addr} {fd : FuncData} {k : Nat} (F : Fun K "_law_whole" "_law_whole" s__law_whole f fd) (bi : Bi mg) : FnOk P w K mg base CX0 (k + 1) f fd P__law_whole spWhole64 := by
  refine F.ok sc__law_whole (fun vs H Q E h => ?_) (fun cdv A outer s H vs Q E hr h => ?_)
  · obtain ⟨v, rfl, _⟩ := h
    rfl
  · obtain ⟨v, rfl, h⟩ := h
    refine ⟨_, (pss_one (ps_ret (pe_and (pe_callB call_isi (by rfl) bi.m_isinstance (by decide +kernel) (pa_cons (pv 0) (pa_cons (pe_bltn (v := .ty "int") (by rfl) bi.m_int (by decide +kernel) rfl) pa_nil))) (pe_one (pe_not (pe_callB call_isi (by rfl) bi.m_isinstance (by decide +kernel) (pa_cons (pv 0) (pa_cons (pe_bltn (v := .ty "bool") (by rfl) bi.m_bool (by decide +kernel) rfl) pa_nil)))))))), ?_⟩
    rcases h with ⟨i, rfl, q⟩ | ⟨z, rfl, q⟩
    · refine ⟨_, rfl, _, _, _, _, true, rfl, ClsV.ty "int", .base (.int i), kit_ty (by decide +kernel), true, rfl, ?_⟩
      refine iteT ?_
      exact ⟨_, rfl, _, _, _, _, false, rfl, ClsV.ty "bool", .base (.int i), kit_ty (by decide +kernel), false, rfl, q⟩
    · refine ⟨_, rfl, _, _, _, _, false, rfl, ClsV.ty "int", .base (.str z), kit_ty (by decide +kernel), false, rfl, ?_⟩
      exact iteF q
theorem ok__law_same {f fO : Addr} {fd fdO : FuncData} (F : Fun K "_law_same" "_law_same" s__law_same f fd) (gs : mg "_law_same" = some (.ref f)) (bs : Binds K fd P__law_same []) (bi : Bi mg) (C__law_whole : Cal P w K mg base "_law_whole" P__law_whole 1 spWhole64 fO fdO) : ∀ n : Nat, FnOk P w K mg base CX0 (n + 1) f fd P__law_same (spSame64 K n)
  | 0 => ⟨fun vs H Q E h => by
      obtain ⟨x, y, d, rfl, _⟩ := h
      rfl, fun A outer s H args us vs Q E _ _ _ _ h => by
      obtain ⟨x, y, d, rfl, _, h0, _⟩ := h
      exact absurd h0 (Nat.not_lt_zero _)⟩
  | n + 1 => by
    have C__law_same : Cal P w K mg base "_law_same" P__law_same (n + 1) (spSame64 K n) f fd := ⟨ok__law_same F gs bs bi C__law_whole n, gs, F.kp, bs⟩
    refine F.ok sc__law_same (fun vs H Q E h => ?_) (fun cdv A outer s H vs Q E hr h => ?_)
    · obtain ⟨x, y, d, rfl, _⟩ := h
      rfl
    · obtain ⟨x, y, d, rfl, ti, hd, dx, dy, q⟩ := h
      have hu64 := hr.units
      refine ⟨_, (pss_cons (ps_if (pt_val (pe_callB call_isi (by rfl) bi.m_isinstance (by decide +kernel) (pa_cons (pv 1) (pa_cons (pe_bltn (v := .ty "tuple") (by rfl) bi.m_tuple (by decide +kernel) rfl) pa_nil))))
      (pss_cons (ps_if (pw_or (pt_not (pt_val (pe_callB call_isi (by rfl) bi.m_isinstance (by decide +kernel) (pa_cons (pv 0) (pa_cons (pe_bltn (v := .ty "tuple") (by rfl) bi.m_tuple (by decide +kernel) rfl) pa_nil))))) (pw_or1 (pt_cmpR op_ne (pe_callB call_len_seq (by rfl) bi.m_len (by decide +kernel) (pa_cons (pv 0) pa_nil)) (pe_callB call_len_seq (by rfl) bi.m_len (by decide +kernel) (pa_cons (pv 1) pa_nil)) (nomark _)))).pt
          (pss_one (ps_ret pe_bl))
          pss_nil)
        (pss_one (ps_ret (pe_callB (cr_all rfl) (by rfl) bi.m_all (by decide +kernel) (pa_cons (pe_lc (own := [("_law_one", 2), ("_law_other", 3)]) (g := (gTup K 2 (gCons (gName 2) (gCons (gName 3) gNil)))) (tt := tYes) rfl sc__law_same.nd (RZ.pi_zipA (by rfl) bi.m_zip (pa_cons (pv 0) (pa_cons (pv 1) pa_nil))) (blkOk_by (N := N__law_same) (sc := defScope s__law_same) (by decide +kernel)) (fun _ _ _ _ _ => (pg_tup rfl (pgs_cons (pg_name (i := 2) sc__law_same.nd rfl (.inl rfl) (.inr rfl)) (pgs_cons (pg_name (i := 3) sc__law_same.nd rfl (.inl rfl) (.inr rfl)) pgs_nil)))) (fun _ _ _ _ _ => pts_nil) (fun _ _ _ _ _ => (pe_call (C__law_same.G.mono (by omega)) hr (by rfl) C__law_same.g C__law_same.kp C__law_same.b .nil pass0 (pa_cons (pv 2) (pa_cons (pv 3) pa_nil))))) pa_nil)))))
      pss_nil)
    (pss_cons (ps_if (pt_val (pe_call (C__law_whole.G.mono (by omega)) hr (by rfl) C__law_whole.g C__law_whole.kp C__law_whole.b .nil pass0 (pa_cons (pv 1) pa_nil)))
      (pss_one (ps_ret (pe_and (pe_call (C__law_whole.G.mono (by omega)) hr (by rfl) C__law_whole.g C__law_whole.kp C__law_whole.b .nil pass0 (pa_cons (pv 0) pa_nil)) (pe_one (pe_cmpR (op_eqD hu64) (pv 0) (pv 1) (nomark _))))))
      pss_nil)
    (pss_cons (ps_if (pw_or (pt_cmpR op_isN (pv 1) pe_non (nomark _)) (pw_or1 (pt_val (pe_callB call_isi (by rfl) bi.m_isinstance (by decide +kernel) (pa_cons (pv 1) (pa_cons (pe_bltn (v := .ty "bool") (by rfl) bi.m_bool (by decide +kernel) rfl) pa_nil)))))).pt
      (pss_one (ps_ret (pe_and (pe_cmpR op_eq (pe_callB call_isi (by rfl) bi.m_isinstance (by decide +kernel) (pa_cons (pv 0) (pa_cons (pe_bltn (v := .ty "bool") (by rfl) bi.m_bool (by decide +kernel) rfl) pa_nil))) (pe_callB call_isi (by rfl) bi.m_isinstance (by decide +kernel) (pa_cons (pv 1) (pa_cons (pe_bltn (v := .ty "bool") (by rfl) bi.m_bool (by decide +kernel) rfl) pa_nil))) (nomark _)) (pe_one (pe_cmpR (op_eqD hu64) (pv 0) (pv 1) (nomark _))))))
      pss_nil)
    (pss_one (ps_ret (pe_and (pe_callB call_isi (by rfl) bi.m_isinstance (by decide +kernel) (pa_cons (pv 0) (pa_cons (pe_bltn (v := .ty "str") (by rfl) bi.m_str (by decide +kernel) rfl) pa_nil))) (pe_one (pe_cmpR (op_eqD hu64) (pv 0) (pv 1) (nomark _))))))))), ?_⟩
      cases ti with
      | int i =>
        cases dx
        cases dy
        refine ⟨_, rfl, _, _, _, _, false, rfl, ClsV.ty "tuple", .base (.int i), kit_ty (by decide +kernel), false, rfl, ?_⟩
        refine iteF ?_
        refine ⟨_, rfl, _, rfl, .inl ⟨i, rfl, true, rfl, ?_⟩⟩
        refine iteT ?_
        refine ⟨_, rfl, _, rfl, .inl ⟨i, rfl, true, rfl, ?_⟩⟩
        refine iteT ?_
        refine ⟨_, rfl, _, rfl, .int i, .int i, .int i, .int i, rfl, rfl, ?_⟩
        have e : PyData.eqv (.int i) (.int i) = true := by
          show (i == i) = true
          exact beq_self_eq_true i
        rw [e]
        exact q _ (Same.refl H)
      | str z hz =>
        cases dx
        cases dy
        refine ⟨_, rfl, _, _, _, _, false, rfl, ClsV.ty "tuple", .base (.str z), kit_ty (by decide +kernel), false, rfl, ?_⟩
        refine iteF ?_
        refine ⟨_, rfl, _, rfl, .inr ⟨z, rfl, false, rfl, ?_⟩⟩
        refine iteF ?_
        refine ⟨_, rfl, rfl, _, rfl, iteF ?_⟩
        refine ⟨_, rfl, _, _, _, _, false, rfl, ClsV.ty "bool", .base (.str z), kit_ty (by decide +kernel), false, rfl, ?_⟩
        refine iteF ?_
        refine ⟨_, rfl, _, _, _, _, true, rfl, ClsV.ty "str", .base (.str z), kit_ty (by decide +kernel), true, rfl, ?_⟩
        refine iteT ?_
        refine ⟨_, rfl, _, rfl, .str z, .str z, .str z, .str z, hz, hz, ?_⟩
        rw [SeqAt.eqv_refl _ (Bool.and_eq_true_iff.mp hz).1]
        exact q _ (Same.refl H)
      | @tup ds hds hl =>
        cases dx with
        | @tup a xs _ sa da =>
        cases dy with
        | @tup b ys _ sb db =>
        refine ⟨_, rfl, _, _, _, _, true, rfl, ClsV.ty "tuple", sqt_ty sb, kit_ty (by decide +kernel), true, rfl, ?_⟩
        refine iteT ?_
        refine ⟨_, rfl, _, _, _, _, true, rfl, ClsV.ty "tuple", sqt_ty sa, kit_ty (by decide +kernel), true, rfl, ?_⟩
        refine iteNT ?_
        refine ⟨_, rfl, a, _, rfl, .inr sa, _, rfl, b, _, rfl, .inr sb, rfl, _, rfl, ?_⟩
        have la := DpAll.len da
        have lb := DpAll.len db
        rw [show V.int (xs.length : Int) = V.int (ys.length : Int) by rw [la, lb]]
        refine iteNS rfl ?_
        refine ⟨_, rfl, _, rfl, a, b, xs, ys, rfl, .inr ⟨sa, sb, fun D nD => ?_⟩⟩
        refine lcZip (xs := xs) (ys := ys) (by omega) (fun i H' => Same H H' ∧ H' D = some (.lst ((List.replicate i true).map V.bl)) ∧ i ≤ xs.length) ⟨same_new (Same.refl H) nD, upd_same, Nat.zero_le _⟩ (fun i H' hm => ⟨Same.sqt hm.1 sa, Same.sqt hm.1 sb⟩) (fun i x y T H' hx hy nT hm => ?_) (fun H' hm => ?_)
        · obtain ⟨sm, eD, hi⟩ := hm
          have hix : i < xs.length := (List.getElem?_eq_some_iff.mp hx).1
          obtain ⟨d1, e1, p1⟩ := DpAll.at da hx
          obtain ⟨d2, e2, p2⟩ := DpAll.at db hy
          have ed : d1 = d2 := Option.some.inj (e1.symm.trans e2)
          subst ed
          have md := List.mem_of_getElem? e1
          have sT : Same H (upd H' T (.tup [x, y])) := same_new sm nT
          have eDT : upd H' T (.tup [x, y]) D = some (.lst ((List.replicate i true).map V.bl)) := by
            rw [upd_ne (ne_of_none eD nT)]
            exact eD
          have dd : d1.depth < n := by
            have h1 := depth_mem md
            have h2 : PyData.depthAll ds + 1 < n + 1 := hd
            omega
          refine ⟨T, _, rfl, SqT.of upd_same, rfl, _, _, rfl, _, _, rfl, rfl, rfl, yesIte ?_⟩
          refine ⟨_, rfl, _, rfl, x, y, d1, rfl, hds d1 md, dd, Dp.same sT d1 p1, Dp.same sT d1 p2, fun H2 s2 => ?_⟩
          refine ⟨_, s2 _ _ eDT, ?_, ?_, ?_, hix⟩
          · rw [List.length_map, List.length_replicate]
            exact small2000 (by omega)
          · exact same_mine (sT.trans s2) nD
          · rw [upd_same, List.replicate_succ', List.map_append]
            rfl
        · obtain ⟨sm, eD, _⟩ := hm
          refine ⟨D, _, rfl, SqL.of eD, ?_⟩
          rw [show (List.replicate xs.length true).all id = true by simp]
          exact q _ sm
theorem ok_show_wisp {f : Addr} {fd : FuncData} {k : Nat} (F : Fun K "show_wisp" "show_wisp" s_show_wisp f fd) (bi : Bi mg) : FnOk P w K mg base CX0 (k + 1) f fd P_show_wisp spShowW := by
  refine F.ok sc_show_wisp (fun vs H Q E h => ?_) (fun cdv A outer s H vs Q E hr h => ?_)
  · obtain ⟨a, W, rfl, _⟩ := h
    rfl
  · obtain ⟨a, W, rfl, ⟨st, as, e1, e2, tu⟩, g, q⟩ := h
    refine ⟨_, (pss_cons (ps_asg (pv 0) (pg_tup rfl (pgs_cons (pg_name (i := 1) sc_show_wisp.nd rfl (.inl rfl)) (pgs_cons (pg_name (i := 2) sc_show_wisp.nd rfl (.inl rfl)) pgs_nil))))
    (pss_one (ps_ret (pe_op op_add_str (pe_joinN (.cons (pe_fmt (pv 1)) (.cons pe_str .nil))) (pe_join pe_str (pe_lc (own := [("thickness", 3), ("long", 4)]) (g := (gTup K 2 (gCons (gName 3) (gCons (gName 4) gNil)))) (tt := tYes) rfl sc_show_wisp.nd (pi_tup (pv 2)) (blkOk_by (N := N_show_wisp) (sc := defScope s_show_wisp) (by decide +kernel)) (fun _ _ _ _ _ => (pg_tup rfl (pgs_cons (pg_name (i := 3) sc_show_wisp.nd rfl (.inl rfl) (.inr rfl)) (pgs_cons (pg_name (i := 4) sc_show_wisp.nd rfl (.inl rfl) (.inr rfl)) pgs_nil)))) (fun _ _ _ _ _ => pts_nil) (fun _ _ _ _ _ => (pe_joinN (.cons (pe_fmt (pv 3)) (.cons pe_str (.cons (pe_fmt (pv 4)) .nil))))))))))), ?_⟩
    have hs1 : W.1 < 10 ^ 40 := by have := g.s1; omega
    have l1 : (Str.ofString (toString W.1)).length ≤ 40 := (tI_len g.s0 hs1).2
    have lc : (Str.ofString ":").length = 1 := rfl
    have lx : (Str.ofString "x").length = 1 := rfl
    refine ⟨_, rfl, a, _, rfl, SqT.of e1, rfl, _, _, rfl, _, _, rfl, rfl, ?_⟩
    refine ⟨_, rfl, .inr ⟨_, rfl, tI_log g.s0 hs1, _, rfl, ?_, _, rfl, ?_, ?_⟩⟩
    · rw [empty_app]
      exact small_line (by omega)
    · rw [empty_app, Str.length_append]
      exact small_line (by omega)
    refine ⟨⟨_, rfl⟩, ?_⟩
    refine ⟨_, rfl, st, rfl, ⟨_, SqT.of e2⟩, fun D nD => ?_⟩
    have hal : as.length = W.2.length := by
      have := tu.1
      rw [List.length_map] at this
      exact this
    have h8 := g.l8
    refine lc_tup (xs := as.map V.ref) (fun i H' => Same H H' ∧ H' D = some (.lst (((W.2.take i).map stepTx).map V.str))) ⟨same_new (Same.refl _) nD, upd_same⟩ (fun i H' hi hm => SqT.of (hm.1 _ _ e2)) (fun i x H' hx hm => ?_) (fun H' hm => ?_)
    · obtain ⟨sm, eD⟩ := hm
      obtain ⟨b, p, rfl, ep, eb⟩ := stepAt tu hx
      have gp := g.bd p (List.mem_of_getElem? ep)
      have h3 : (Str.ofString (toString p.1)).length ≤ 40 := (tI_len (n := p.1) (by omega) gp.2.1).2
      have h4 : (Str.ofString (toString p.2)).length ≤ 40 := (tI_len (n := p.2) (by omega) gp.2.2.2).2
      refine ⟨b, _, rfl, SqT.of (sm _ _ eb), rfl, _, _, rfl, _, _, rfl, rfl, rfl, yesIte ?_⟩
      refine ⟨_, rfl, .inr ⟨_, rfl, tI_log (by omega) gp.2.1, _, rfl, ?_, _, rfl, ?_, _, rfl, .inr ⟨_, rfl, tI_log (by omega) gp.2.2.2, _, rfl, ?_, ?_⟩⟩⟩
      · rw [empty_app]
        exact small_line (by omega)
      · rw [empty_app, Str.length_append]
        exact small_line (by omega)
      · rw [empty_app, Str.length_append, Str.length_append]
        exact small_line (by omega)
      · rw [empty_app]
        refine ⟨_, eD, ?_, same_mine sm nD, ?_⟩
        · rw [List.length_map, List.length_map, List.length_take]
          exact small1000 (by omega)
        · rw [upd_same, List.take_add_one, ep]
          show _ = some (HO.lst (((W.2.take i ++ [p]).map stepTx).map V.str))
          rw [List.map_append, List.map_append]
          rfl
    · obtain ⟨sm, eD⟩ := hm
      rw [List.length_map, hal, List.take_length] at eD
      refine ⟨_, D, _, rfl, rfl, .inl (SqL.of eD), ?_, _, _, rfl, rfl, ?_, ?_⟩
      · have := sum_len g.steps_len
        rw [List.length_map] at this ⊢
        rw [show (Str.ofString ",").length = 1 from rfl]
        omega
      · rw [empty_app, Str.length_append]
        have : (Txt.join (Str.ofString ",") (W.2.map stepTx)).length ≤ 656 := g.join_len
        exact small_line (by omega)
      · rw [empty_app]
        exact q _ sm
theorem ok_show_entry {fW f : Addr} {fdW fd : FuncData} (F : Fun K "show_entry" "show_entry" s_show_entry f fd) (bi : Bi mg) (C_show_wisp : Cal P w K mg base "show_wisp" P_show_wisp 1 spShowW fW fdW) : FnOk P w K mg base CX0 2 f fd P_show_entry spShowE := by
  refine F.ok sc_show_entry (fun vs H Q E h => ?_) (fun cdv A outer s H vs Q E hr h => ?_)
  · obtain ⟨a, e, rfl, _⟩ := h
    rfl
  · obtain ⟨a, e, rfl, ha, g, q⟩ := h
    refine ⟨_, (pss_cons (ps_if (pt_cmpR op_eq (pe_ix ix_tup (pv 0) pe_int (fun _ _ => rfl)) pe_str (nomark _))
      (pss_cons (ps_asg (pv 0) (pg_tup rfl (pgs_cons (pg_name (i := 1) sc_show_entry.nd rfl (.inl rfl)) (pgs_cons (pg_name (i := 2) sc_show_entry.nd rfl (.inl rfl)) (pgs_cons (pg_name (i := 3) sc_show_entry.nd rfl (.inl rfl)) (pgs_cons (pg_name (i := 4) sc_show_entry.nd rfl (.inl rfl)) pgs_nil))))))
        (pss_one (ps_ret (pe_joinN (.cons pe_str (.cons (pe_fmt (pv 2)) (.cons pe_str (.cons (pe_fmt (pe_call (C_show_wisp.G.mono (by decide)) hr (by rfl) C_show_wisp.g C_show_wisp.kp C_show_wisp.b .nil pass0 (pa_cons (pv 3) pa_nil))) (.cons pe_str (.cons (pe_fmt (pv 4)) .nil))))))))))
      pss_nil)
    (pss_one (ps_ret (pe_join pe_str (pe_lc (own := [("part", 5)]) (g := (gName 5)) (tt := tYes) rfl sc_show_entry.nd (pi_tup (pv 0)) (blkOk_by (N := N_show_entry) (sc := defScope s_show_entry) (by decide +kernel)) (fun _ _ _ _ _ => (pg_name (i := 5) sc_show_entry.nd rfl (.inl rfl) (.inr rfl))) (fun _ _ _ _ _ => pts_nil) (fun _ _ _ _ _ => (pe_callTy call_strN (by rfl) bi.m_str (by decide +kernel) (pa_cons (pv 5) pa_nil)))))))), ?_⟩
    have l1 : (Str.ofString " ").length = 1 := rfl
    cases e with
    | lay z W m =>
      obtain ⟨wa, e1, hw⟩ := ha
      obtain ⟨g1, g2, g3⟩ := g
      refine ⟨_, rfl, a, _, _, _, rfl, rfl, SqT.of e1, (rfl : atI _ (0 : Int) = some (.str "lay")), rfl, _, rfl, ite2 (fun _ => ?_) (fun e => absurd (decide_eq_true rfl) e)⟩
      refine ⟨_, rfl, a, _, rfl, SqT.of e1, rfl, _, _, rfl, _, _, rfl, _, _, rfl, _, _, rfl, rfl, ?_⟩
      have hz : z.length ≤ 8 := g1.2.1
      have hwl := g2.text_len
      have hm : (Str.ofString (toString m)).length ≤ 40 := (tI_len g3.1 g3.2).2
      have ll : (Str.ofString "lay ").length = 4 := rfl
      refine ⟨_, rfl, small_line (by rw [empty_app]; omega), ?_⟩
      refine ⟨_, rfl, .inl ⟨z, rfl, small_line (by omega), _, rfl, ?_, ?_⟩⟩
      · rw [empty_app, Str.length_append]
        exact small_line (by omega)
      refine ⟨_, rfl, ?_, ?_⟩
      · rw [empty_app, Str.length_append, Str.length_append]
        exact small_line (by omega)
      refine ⟨_, rfl, wa, W, rfl, hw, g2, fun H1 s1 => ?_⟩
      refine .inl ⟨_, rfl, small_line (by omega), _, rfl, ?_, _, rfl, ?_, _, rfl, .inr ⟨m, rfl, tI_log g3.1 g3.2, _, rfl, ?_, ?_⟩⟩
      · rw [empty_app]
        simp only [Str.length_append]
        exact small_line (by omega)
      · rw [empty_app]
        simp only [Str.length_append]
        exact small_line (by omega)
      · rw [empty_app]
        simp only [Str.length_append]
        exact small_line (by omega)
      · rw [empty_app, lay_app]
        exact q _ s1
    | lt z m =>
      have e1 : H a = some (.tup [.str "let", .str z, .int m]) := ha
      obtain ⟨g1, g3⟩ := g
      refine ⟨_, rfl, a, _, _, _, rfl, rfl, SqT.of e1, (rfl : atI _ (0 : Int) = some (.str "let")), rfl, _, rfl, ite2 (fun e => absurd (of_decide_eq_true e) (by decide +kernel)) (fun _ => ?_)⟩
      refine ⟨⟨_, rfl⟩, ?_⟩
      refine ⟨_, rfl, a, rfl, ⟨_, SqT.of e1⟩, fun D nD => ?_⟩
      refine lc_tup (xs := [.str "let", .str z, .int m]) (fun i H' => Same H H' ∧ H' D = some (.lst (([Str.ofString "let", z, tI m].take i).map V.str))) ⟨same_new (Same.refl _) nD, upd_same⟩ (fun i H' hi hm => SqT.of (hm.1 _ _ e1)) (fun i x H' hx hm => ?_) (fun H' hm => ?_)
      · obtain ⟨sm, eD⟩ := hm
        refine ⟨rfl, yesIte ?_⟩
        match i, hx with
        | 0, hx =>
          cases hx
          exact ⟨_, rfl, .inr ⟨_, rfl, _, eD, small1000 (by show 0 ≤ 1000; decide), same_mine sm nD, by rw [upd_same]; rfl⟩⟩
        | 1, hx =>
          cases hx
          exact ⟨_, rfl, .inr ⟨_, rfl, _, eD, small1000 (by show 1 ≤ 1000; decide), same_mine sm nD, by rw [upd_same]; rfl⟩⟩
        | 2, hx =>
          cases hx
          exact ⟨_, rfl, .inl ⟨_, rfl, tI_log g3.1 g3.2, _, eD, small1000 (by show 2 ≤ 1000; decide), same_mine sm nD, by rw [upd_same]; rfl⟩⟩
        | i + 3, hx => simp at hx
      · obtain ⟨sm, eD⟩ := hm
        refine ⟨_, D, _, rfl, rfl, .inl (SqL.of eD), ?_, q _ sm⟩
        have := sum_len (N := 700) (xs := [Str.ofString "let", z, tI m]) fun x hx => (words_ok (e := .lt z m) ⟨g1, g3⟩ x hx).short
        show (([Str.ofString "let", z, tI m]).map (·.length)).sum + 3 * (Str.ofString " ").length ≤ _
        have : ([Str.ofString "let", z, tI m]).length = 3 := rfl
        omega
    | snap m l =>
      have e1 : H a = some (.tup [.str "snap", .int m, .int l]) := ha
      obtain ⟨g1, g3⟩ := g
      refine ⟨_, rfl, a, _, _, _, rfl, rfl, SqT.of e1, (rfl : atI _ (0 : Int) = some (.str "snap")), rfl, _, rfl, ite2 (fun e => absurd (of_decide_eq_true e) (by decide +kernel)) (fun _ => ?_)⟩
      refine ⟨⟨_, rfl⟩, ?_⟩
      refine ⟨_, rfl, a, rfl, ⟨_, SqT.of e1⟩, fun D nD => ?_⟩
      refine lc_tup (xs := [.str "snap", .int m, .int l]) (fun i H' => Same H H' ∧ H' D = some (.lst (([Str.ofString "snap", tI m, tI l].take i).map V.str))) ⟨same_new (Same.refl _) nD, upd_same⟩ (fun i H' hi hm => SqT.of (hm.1 _ _ e1)) (fun i x H' hx hm => ?_) (fun H' hm => ?_)
      · obtain ⟨sm, eD⟩ := hm
        refine ⟨rfl, yesIte ?_⟩
        match i, hx with
        | 0, hx =>
          cases hx
          exact ⟨_, rfl, .inr ⟨_, rfl, _, eD, small1000 (by show 0 ≤ 1000; decide), same_mine sm nD, by rw [upd_same]; rfl⟩⟩
        | 1, hx =>
          cases hx
          exact ⟨_, rfl, .inl ⟨_, rfl, tI_log g1.1 g1.2, _, eD, small1000 (by show 1 ≤ 1000; decide), same_mine sm nD, by rw [upd_same]; rfl⟩⟩
        | 2, hx =>
          cases hx
          exact ⟨_, rfl, .inl ⟨_, rfl, tI_log g3.1 g3.2, _, eD, small1000 (by show 2 ≤ 1000; decide), same_mine sm nD, by rw [upd_same]; rfl⟩⟩
        | i + 3, hx => simp at hx
      · obtain ⟨sm, eD⟩ := hm
        refine ⟨_, D, _, rfl, rfl, .inl (SqL.of eD), ?_, q _ sm⟩
        have := sum_len (N := 700) (xs := [Str.ofString "snap", tI m, tI l]) fun x hx => (words_ok (e := .snap m l) ⟨g1, g3⟩ x hx).short
        show (([Str.ofString "snap", tI m, tI l]).map (·.length)).sum + 3 * (Str.ofString " ").length ≤ _
        have : ([Str.ofString "snap", tI m, tI l]).length = 3 := rfl
        omega
theorem page_join {n v : Int} {es : List En} (g : GoodPg n v es) : ((titleTx n v :: es.map enTx).map (·.length)).sum + (titleTx n v :: es.map enTx).length * (Str.ofString "; ").length ≤ 16777216 := by
  have h1 := sum_len (N := 2804) (xs := titleTx n v :: es.map enTx) fun x hx => (g.rows x hx).2.1
  have h2 : (titleTx n v :: es.map enTx).length ≤ 21 := by
    rw [List.length_cons, List.length_map]
    have := g.few
    omega
  have h3 : (Str.ofString "; ").length = 2 := rfl
  rw [h3]
  omega
theorem ok_show_page {fE f : Addr} {fdE fd : FuncData} (F : Fun K "show_page" "show_page" s_show_page f fd) (bi : Bi mg) (C_show_entry : Cal P w K mg base "show_entry" P_show_entry 2 spShowE fE fdE) : FnOk P w K mg base CX0 3 f fd P_show_page spShowP := by
  refine F.ok sc_show_page (fun vs H Q E h => ?_) (fun cdv A outer s H vs Q E hr h => ?_)
  · obtain ⟨a, n, v, es, rfl, _⟩ := h
    rfl
  · obtain ⟨a, n, v, es, rfl, ⟨t, as, e1, e2, ea⟩, g, q⟩ := h
    refine ⟨_, (pss_cons (ps_asg (pv 0) (pg_tup rfl (pgs_cons (pg_name (i := 1) sc_show_page.nd rfl (.inl rfl)) (pgs_cons (pg_name (i := 2) sc_show_page.nd rfl (.inl rfl)) (pgs_cons (pg_name (i := 3) sc_show_page.nd rfl (.inl rfl)) pgs_nil)))))
    (pss_one (ps_ret (pe_join pe_str (pe_op op_cat (pe_lst (pa_cons (pe_joinN (.cons pe_str (.cons (pe_fmt (pv 1)) (.cons pe_str (.cons (pe_fmt (pv 2)) .nil))))) pa_nil)) (pe_lc (own := [("entry", 4)]) (g := (gName 4)) (tt := tYes) rfl sc_show_page.nd (pi_tup (pv 3)) (blkOk_by (N := N_show_page) (sc := defScope s_show_page) (by decide +kernel)) (fun _ _ _ _ _ => (pg_name (i := 4) sc_show_page.nd rfl (.inl rfl) (.inr rfl))) (fun _ _ _ _ _ => pts_nil) (fun _ _ _ _ _ => (pe_call (C_show_entry.G.mono (by decide)) hr (by rfl) C_show_entry.g C_show_entry.kp C_show_entry.b .nil pass0 (pa_cons (pv 4) pa_nil))))))))), ?_⟩
    refine ⟨_, rfl, a, _, rfl, SqT.of e1, rfl, _, _, rfl, _, _, rfl, _, _, rfl, rfl, ?_⟩
    have hn : (Str.ofString (toString n)).length ≤ 40 := (tI_len g.hn.1 g.hn.2).2
    have hv : (Str.ofString (toString v)).length ≤ 40 := (tI_len g.hv.1 g.hv.2).2
    have lp : (Str.ofString "page ").length = 5 := rfl
    have l1 : (Str.ofString " ").length = 1 := rfl
    refine ⟨⟨_, rfl⟩, ?_⟩
    refine ⟨_, rfl, small_line (by rw [empty_app]; omega), _, rfl, .inr ⟨n, rfl, tI_log g.hn.1 g.hn.2, _, rfl, ?_, _, rfl, ?_, _, rfl, .inr ⟨v, rfl, tI_log g.hv.1 g.hv.2, _, rfl, ?_, ?_⟩⟩⟩
    · rw [empty_app]
      simp only [Str.length_append]
      exact small_line (by omega)
    · rw [empty_app]
      simp only [Str.length_append]
      exact small_line (by omega)
    · rw [empty_app]
      simp only [Str.length_append]
      exact small_line (by omega)
    rw [empty_app, title_app]
    refine ⟨(by show 1 ≤ sizeLine; decide), fun L nL => ?_⟩
    have sL : Same H (upd H L (.lst [.str (titleTx n v)])) := same_new (Same.refl _) nL
    have eL : upd H L (.lst [.str (titleTx n v)]) L = some (.lst ([titleTx n v].map V.str)) := upd_same
    generalize upd H L (.lst [.str (titleTx n v)]) = H1 at sL eL
    refine ⟨_, rfl, t, rfl, ⟨_, SqT.of (sL _ _ e2)⟩, fun D nD => ?_⟩
    have h20 := g.few
    refine lc_tup (xs := as.map V.ref) (fun i H' => Same H1 H' ∧ H' D = some (.lst (((es.take i).map enTx).map V.str))) ⟨same_new (Same.refl _) nD, upd_same⟩ (fun i H' hi hm => SqT.of (hm.1 _ _ (sL _ _ e2))) (fun i x H' hx hm => ?_) (fun H' hm => ?_)
    · obtain ⟨sm, eD⟩ := hm
      obtain ⟨b, e, rfl, gb, ge, hb⟩ := ea.get hx
      refine ⟨rfl, yesIte ?_⟩
      refine ⟨_, rfl, b, e, rfl, (hb.mono (Tups.same sL)).mono (Tups.same sm), g.he e (List.mem_of_getElem? ge), fun H2 s2 => ?_⟩
      refine ⟨_, s2 _ _ eD, ?_, same_mine (sm.trans s2) nD, ?_⟩
      · rw [List.length_map, List.length_map, List.length_take]
        exact small1000 (by omega)
      · rw [upd_same, List.take_add_one, ge]
        show _ = some (HO.lst (((es.take i ++ [e]).map enTx).map V.str))
        rw [List.map_append, List.map_append]
        rfl
    obtain ⟨sm, eD⟩ := hm
    rw [List.length_map, ea.1, List.take_length] at eD
    refine ⟨L, D, _, _, rfl, rfl, sm _ _ eL, eD, ?_, fun R nR => ?_⟩
    · rw [List.length_map, List.length_map, List.length_map]
      exact Nat.le_of_lt (small1000 (by show 1 + es.length ≤ 1000; omega))
    rw [← List.map_append]
    refine ⟨_, R, _, rfl, rfl, .inl (SqL.of upd_same), page_join g, ?_⟩
    exact q _ (same_new (sL.trans sm) nR)
theorem ok_is_name {f : Addr} {fd : FuncData} {k : Nat} {tk_LETTERS tk_MOST_LETTERS : Tok} (F : Fun K "is_name" "is_name" s_is_name f fd) (bi : Bi mg) (g_LETTERS : mg "LETTERS" = some (.str "abcdefghijklmnopqrstuvwxyz" tk_LETTERS)) (g_MOST_LETTERS : mg "MOST_LETTERS" = some (.int 8 tk_MOST_LETTERS)) : FnOk P w K mg base CX0 (k + 1) f fd P_is_name spIsName := by
  refine F.ok sc_is_name (fun vs H Q E h => ?_) (fun cdv A outer s H vs Q E hr h => ?_)
  · obtain ⟨z, rfl, _⟩ := h
    rfl
  · obtain ⟨z, rfl, ⟨l1, l8, hd⟩, q⟩ := h
    refine ⟨_, (pss_cons (ps_if (pw_or (pt_not (pt_val (pe_callB call_isi (by rfl) bi.m_isinstance (by decide +kernel) (pa_cons (pv 0) (pa_cons (pe_bltn (v := .ty "str") (by rfl) bi.m_str (by decide +kernel) rfl) pa_nil))))) (pw_or1 (pt_not (pt_chain op_le op_le pe_int (pe_callB call_len_str (by rfl) bi.m_len (by decide +kernel) (pa_cons (pv 0) pa_nil)) (pe_glob (v := .int 8) (by rfl) g_MOST_LETTERS ⟨_, rfl⟩))))).pt
      (pss_one (ps_ret pe_bl))
      pss_nil)
    (pss_one (ps_ret (pe_callB (cr_all rfl) (by rfl) bi.m_all (by decide +kernel) (pa_cons (pe_lc (own := [("sign", 1)]) (g := (gName 1)) (tt := tYes) rfl sc_is_name.nd (pi_str (pv 0)) (blkOk_by (N := N_is_name) (sc := defScope s_is_name) (by decide +kernel)) (fun _ _ _ _ _ => (pg_name (i := 1) sc_is_name.nd rfl (.inl rfl) (.inr rfl))) (fun _ _ _ _ _ => pts_nil) (fun _ _ _ _ _ => (pe_cmpR op_in_sign (pv 1) (pe_glob (v := .str "abcdefghijklmnopqrstuvwxyz") (by rfl) g_LETTERS ⟨_, rfl⟩) (by rfl)))) pa_nil))))), ?_⟩
    have hl : z.length = (cpl z).length := rfl
    refine ⟨_, rfl, _, _, _, _, true, rfl, ClsV.ty "str", .base (.str _), kit_ty (by decide +kernel), true, rfl, ?_⟩
    refine iteNT ?_
    refine ⟨_, rfl, _, rfl, small_line (by omega), _, _, rfl, rfl, _, rfl, ?_⟩
    rw [decide_eq_true (show (1 : Int) ≤ (z.length : Int) by omega)]
    refine iteT ?_
    refine ⟨_, _, rfl, rfl, _, rfl, ?_⟩
    rw [decide_eq_true (show (z.length : Int) ≤ 8 by omega)]
    refine iteNT ?_
    refine ⟨_, rfl, _, rfl, fun D nD => ?_⟩
    refine lc_it walk_str (fun i H' => Same H H' ∧ H' D = some (.lst ((List.replicate i true).map V.bl)) ∧ i ≤ 8) ⟨same_new (Same.refl _) nD, upd_same, Nat.zero_le _⟩ (fun i H' hi hm => trivial) (fun i x H1 H2 hi hm hy => ?_) (fun H' hm => ?_)
    · obtain ⟨rfl, c', e1, rfl⟩ := hy
      obtain ⟨sm, eD, _⟩ := hm
      have hi40 : i < 8 := by
        have : z.cps.size = z.length := rfl
        omega
      have hc : c' ∈ cpl z := List.mem_of_getElem? (i := i) (by rw [Array.getElem?_toList]; exact e1)
      have h2 := hd c' hc
      have h3 : c' ∈ (Str.ofString "abcdefghijklmnopqrstuvwxyz").cps.toList := by
        show c' ∈ [97, 98, 99, 100, 101, 102, 103, 104, 105, 106, 107, 108, 109, 110, 111, 112, 113, 114, 115, 116, 117, 118, 119, 120, 121, 122]
        simp only [List.mem_cons, List.not_mem_nil, or_false]
        omega
      refine ⟨rfl, yesIte ?_⟩
      refine ⟨_, rfl, _, _, rfl, rfl, _, eD, ?_, same_mine sm nD, ?_, hi40⟩
      · rw [List.length_map, List.length_replicate]
        exact small1000 (by omega)
      · rw [upd_same, decide_eq_true h3, List.replicate_succ', List.map_append]
        rfl
    obtain ⟨sm, eD, _⟩ := hm
    refine ⟨D, _, rfl, SqL.of eD, ?_⟩
    rw [show (List.replicate z.cps.size true).all id = true by simp]
    exact q _ sm
theorem whT_ok {n : Int} (h : NumOk n) : whT (.int n) 0 = true := by
  show decide (0 ≤ n) = true
  exact decide_eq_true h.1
theorem num_th {H : Hp} {n : Int} (h : NumOk n) : ThAt topB H (.int n) (.int n) := by
  have tb : (10 : Int) ^ 40 ≤ topB := by decide
  exact .int _ (by have := h.1; omega) (by have := h.2; omega)
theorem ok_is_entry {fT fN fW fH f : Addr} {fdT fdN fdW fdH fd : FuncData} (F : Fun K "is_entry" "is_entry" s_is_entry f fd) (bi : Bi mg) (C_is_tuple : Cal P w K mg base "is_tuple" P_is_tuple 1 spTupleT fT fdT) (C_is_name : Cal P w K mg base "is_name" P_is_name 1 spIsName fN fdN) (C_is_wisp : Cal P w K mg base "is_wisp" P_is_wisp 4 spWispT fW fdW) (C_is_whole : Cal P w K mg base "is_whole" P_is_whole 1 spWholeT fH fdH) : FnOk P w K mg base CX0 5 f fd P_is_entry spIsEntry := by
  refine F.ok sc_is_entry (fun vs H Q E h => ?_) (fun cdv A outer s H vs Q E hr h => ?_)
  · obtain ⟨a, e, rfl, _⟩ := h
    rfl
  · obtain ⟨a, e, rfl, ha, g, q⟩ := h
    refine ⟨_, (pss_cons (ps_if (pw_or (pt_not (pt_val (pe_call (C_is_tuple.G.mono (by decide)) hr (by rfl) C_is_tuple.g C_is_tuple.kp C_is_tuple.b .nil pass0 (pa_cons (pv 0) (pa_cons pe_int (pa_cons pe_int pa_nil)))))) (pw_or1 (pt_not (pt_val (pe_callB call_isi (by rfl) bi.m_isinstance (by decide +kernel) (pa_cons (pe_ix ix_tup (pv 0) pe_int (fun _ _ => rfl)) (pa_cons (pe_bltn (v := .ty "str") (by rfl) bi.m_str (by decide +kernel) rfl) pa_nil))))))).pt
      (pss_one (ps_ret pe_bl))
      pss_nil)
    (pss_cons (ps_if (pw_and (pt_cmpR op_eq (pe_ix ix_tup (pv 0) pe_int (fun _ _ => rfl)) pe_str (nomark _)) (pw_and1 (pt_cmpR op_eq (pe_callB call_len_seq (by rfl) bi.m_len (by decide +kernel) (pa_cons (pv 0) pa_nil)) pe_int (nomark _)))).pt
      (pss_one (ps_ret (pe_and (pe_call (C_is_name.G.mono (by decide)) hr (by rfl) C_is_name.g C_is_name.kp C_is_name.b .nil pass0 (pa_cons (pe_ix ix_tup (pv 0) pe_int (fun _ _ => rfl)) pa_nil)) (pe_and (pe_call (C_is_wisp.G.mono (by decide)) hr (by rfl) C_is_wisp.g C_is_wisp.kp C_is_wisp.b .nil pass0 (pa_cons (pe_ix ix_tup (pv 0) pe_int (fun _ _ => rfl)) pa_nil)) (pe_one (pe_call (C_is_whole.G.mono (by decide)) hr (by rfl) C_is_whole.g C_is_whole.kp C_is_whole.b .nil pass0 (pa_cons (pe_ix ix_tup (pv 0) pe_int (fun _ _ => rfl)) (pa_cons pe_int pa_nil))))))))
      pss_nil)
    (pss_cons (ps_if (pw_and (pt_cmpR op_eq (pe_ix ix_tup (pv 0) pe_int (fun _ _ => rfl)) pe_str (nomark _)) (pw_and1 (pt_cmpR op_eq (pe_callB call_len_seq (by rfl) bi.m_len (by decide +kernel) (pa_cons (pv 0) pa_nil)) pe_int (nomark _)))).pt
      (pss_one (ps_ret (pe_and (pe_call (C_is_name.G.mono (by decide)) hr (by rfl) C_is_name.g C_is_name.kp C_is_name.b .nil pass0 (pa_cons (pe_ix ix_tup (pv 0) pe_int (fun _ _ => rfl)) pa_nil)) (pe_one (pe_call (C_is_whole.G.mono (by decide)) hr (by rfl) C_is_whole.g C_is_whole.kp C_is_whole.b .nil pass0 (pa_cons (pe_ix ix_tup (pv 0) pe_int (fun _ _ => rfl)) (pa_cons pe_int pa_nil)))))))
      pss_nil)
    (pss_one (ps_ret (pe_and (pe_cmpR op_eq (pe_ix ix_tup (pv 0) pe_int (fun _ _ => rfl)) pe_str (nomark _)) (pe_and (pe_cmpR op_eq (pe_callB call_len_seq (by rfl) bi.m_len (by decide +kernel) (pa_cons (pv 0) pa_nil)) pe_int (nomark _)) (pe_and (pe_call (C_is_whole.G.mono (by decide)) hr (by rfl) C_is_whole.g C_is_whole.kp C_is_whole.b .nil pass0 (pa_cons (pe_ix ix_tup (pv 0) pe_int (fun _ _ => rfl)) (pa_cons pe_int pa_nil))) (pe_one (pe_call (C_is_whole.G.mono (by decide)) hr (by rfl) C_is_whole.g C_is_whole.kp C_is_whole.b .nil pass0 (pa_cons (pe_ix ix_tup (pv 0) pe_int (fun _ _ => rfl)) (pa_cons pe_int pa_nil)))))))))))), ?_⟩
    cases e with
    | lay z W m =>
      obtain ⟨wa, e1, hw⟩ := ha
      obtain ⟨g1, g2, g3⟩ := g
      have hth : ThAt topB H (.ref a) (.tup [.oth, .oth, wispT W, .int m]) := .tup e1 rfl fun j u t k1 k2 => by
        match j, k1, k2 with
        | 0, k1, k2 => cases k1; cases k2; exact .str _
        | 1, k1, k2 => cases k1; cases k2; exact .str _
        | 2, k1, k2 => cases k1; cases k2; exact g2.th hw
        | 3, k1, k2 => cases k1; cases k2; exact num_th g3
        | j + 4, k1, _ => simp at k1
      refine ⟨_, rfl, _, _, 3, 4, rfl, hth, _, rfl, ?_⟩
      refine iteNT ?_
      refine ⟨_, rfl, a, _, _, _, rfl, rfl, SqT.of e1, (rfl : atI _ (0 : Int) = some (.str "lay")), _, _, _, _, true, rfl, ClsV.ty "str", .base (.str _), kit_ty (by decide +kernel), true, rfl, ?_⟩
      refine iteNT ?_
      refine ⟨_, rfl, a, _, _, _, rfl, rfl, SqT.of e1, (rfl : atI _ (0 : Int) = some (.str "lay")), rfl, _, rfl, ite2 (fun _ => ?_) (fun e => absurd (decide_eq_true rfl) e)⟩
      refine ⟨_, rfl, a, _, rfl, .inr (SqT.of e1), rfl, _, rfl, ite2 (fun _ => ?_) (fun e => absurd (decide_eq_true rfl) e)⟩
      refine ⟨_, rfl, a, _, _, _, rfl, rfl, SqT.of e1, (rfl : atI _ (1 : Int) = some (.str z)), z, rfl, g1, fun H1 s1 => ⟨_, rfl, iteT ?_⟩⟩
      refine ⟨_, rfl, a, _, _, _, rfl, rfl, SqT.of (s1 _ _ e1), (rfl : atI _ (2 : Int) = some (.ref wa)), _, wispT W, rfl, g2.th (hw.mono (Tups.same s1)), fun H2 s2 => ?_⟩
      rw [g2.isW]
      refine ⟨_, rfl, iteT ?_⟩
      have s12 := s1.trans s2
      refine ⟨_, rfl, a, _, _, _, rfl, rfl, SqT.of (s12 _ _ e1), (rfl : atI _ (3 : Int) = some (.int m)), _, .int m, 0, rfl, num_th g3, ?_⟩
      rw [whT_ok g3]
      exact q _ s12
    | lt z m =>
      have e1 : H a = some (.tup [.str "let", .str z, .int m]) := ha
      obtain ⟨g1, g3⟩ := g
      have hth : ThAt topB H (.ref a) (.tup [.oth, .oth, .int m]) := .tup e1 rfl fun j u t k1 k2 => by
        match j, k1, k2 with
        | 0, k1, k2 => cases k1; cases k2; exact .str _
        | 1, k1, k2 => cases k1; cases k2; exact .str _
        | 2, k1, k2 => cases k1; cases k2; exact num_th g3
        | j + 3, k1, _ => simp at k1
      refine ⟨_, rfl, _, _, 3, 4, rfl, hth, _, rfl, ?_⟩
      refine iteNT ?_
      refine ⟨_, rfl, a, _, _, _, rfl, rfl, SqT.of e1, (rfl : atI _ (0 : Int) = some (.str "let")), _, _, _, _, true, rfl, ClsV.ty "str", .base (.str _), kit_ty (by decide +kernel), true, rfl, ?_⟩
      refine iteNT ?_
      refine ⟨_, rfl, a, _, _, _, rfl, rfl, SqT.of e1, (rfl : atI _ (0 : Int) = some (.str "let")), rfl, _, rfl, ite2 (fun e => absurd (of_decide_eq_true e) (by decide +kernel)) (fun _ => ?_)⟩
      refine ⟨_, rfl, a, _, _, _, rfl, rfl, SqT.of e1, (rfl : atI _ (0 : Int) = some (.str "let")), rfl, _, rfl, ite2 (fun _ => ?_) (fun e => absurd (decide_eq_true rfl) e)⟩
      refine ⟨_, rfl, a, _, rfl, .inr (SqT.of e1), rfl, _, rfl, ite2 (fun _ => ?_) (fun e => absurd (decide_eq_true rfl) e)⟩
      refine ⟨_, rfl, a, _, _, _, rfl, rfl, SqT.of e1, (rfl : atI _ (1 : Int) = some (.str z)), z, rfl, g1, fun H1 s1 => ⟨_, rfl, iteT ?_⟩⟩
      refine ⟨_, rfl, a, _, _, _, rfl, rfl, SqT.of (s1 _ _ e1), (rfl : atI _ (2 : Int) = some (.int m)), _, .int m, 0, rfl, num_th g3, ?_⟩
      rw [whT_ok g3]
      exact q _ s1
    | snap m l =>
      have e1 : H a = some (.tup [.str "snap", .int m, .int l]) := ha
      obtain ⟨g1, g3⟩ := g
      have hth : ThAt topB H (.ref a) (.tup [.oth, .int m, .int l]) := .tup e1 rfl fun j u t k1 k2 => by
        match j, k1, k2 with
        | 0, k1, k2 => cases k1; cases k2; exact .str _
        | 1, k1, k2 => cases k1; cases k2; exact num_th g1
        | 2, k1, k2 => cases k1; cases k2; exact num_th g3
        | j + 3, k1, _ => simp at k1
      refine ⟨_, rfl, _, _, 3, 4, rfl, hth, _, rfl, ?_⟩
      refine iteNT ?_
      refine ⟨_, rfl, a, _, _, _, rfl, rfl, SqT.of e1, (rfl : atI _ (0 : Int) = some (.str "snap")), _, _, _, _, true, rfl, ClsV.ty "str", .base (.str _), kit_ty (by decide +kernel), true, rfl, ?_⟩
      refine iteNT ?_
      refine ⟨_, rfl, a, _, _, _, rfl, rfl, SqT.of e1, (rfl : atI _ (0 : Int) = some (.str "snap")), rfl, _, rfl, ite2 (fun e => absurd (of_decide_eq_true e) (by decide +kernel)) (fun _ => ?_)⟩
      refine ⟨_, rfl, a, _, _, _, rfl, rfl, SqT.of e1, (rfl : atI _ (0 : Int) = some (.str "snap")), rfl, _, rfl, ite2 (fun e => absurd (of_decide_eq_true e) (by decide +kernel)) (fun _ => ?_)⟩
      refine ⟨_, rfl, a, _, _, _, rfl, rfl, SqT.of e1, (rfl : atI _ (0 : Int) = some (.str "snap")), rfl, ?_⟩
      rw [show decide (V.str "snap" = V.str "snap") = true from decide_eq_true rfl]
      refine ⟨_, rfl, iteT ?_⟩
      refine ⟨_, rfl, a, _, rfl, .inr (SqT.of e1), rfl, _, rfl, iteT ?_⟩
      refine ⟨_, rfl, a, _, _, _, rfl, rfl, SqT.of e1, (rfl : atI _ (1 : Int) = some (.int m)), _, .int m, 0, rfl, num_th g1, ?_⟩
      rw [whT_ok g1]
      refine ⟨_, rfl, iteT ?_⟩
      refine ⟨_, rfl, a, _, _, _, rfl, rfl, SqT.of e1, (rfl : atI _ (2 : Int) = some (.int l)), _, .int l, 0, rfl, num_th g3, ?_⟩
      rw [whT_ok g3]
      exact q _ (Same.refl _)
theorem ok_number_of {f : Addr} {fd : FuncData} {k : Nat} {tk_FIGURES tk_MOST_FIGURES : Tok} (F : Fun K "number_of" "number_of" s_number_of f fd) (bi : Bi mg) (g_FIGURES : mg "FIGURES" = some (.str "0123456789" tk_FIGURES)) (g_MOST_FIGURES : mg "MOST_FIGURES" = some (.int 40 tk_MOST_FIGURES)) : FnOk P w K mg base CX0 (k + 1) f fd P_number_of spNumberOf := by
  refine F.ok sc_number_of (fun vs H Q E h => ?_) (fun cdv A outer s H vs Q E hr h => ?_)
  · obtain ⟨n, rfl, _⟩ := h
    rfl
  · obtain ⟨n, rfl, n0, n1, q⟩ := h
    refine ⟨_, (pss_cons (ps_if (pw_or (pt_not (pt_chain op_le op_le pe_int (pe_callB call_len_str (by rfl) bi.m_len (by decide +kernel) (pa_cons (pv 0) pa_nil)) (pe_glob (v := .int 40) (by rfl) g_MOST_FIGURES ⟨_, rfl⟩))) (pw_or1 (pt_not (pt_val (pe_callB (cr_all rfl) (by rfl) bi.m_all (by decide +kernel) (pa_cons (pe_lc (own := [("sign", 1)]) (g := (gName 1)) (tt := tYes) rfl sc_number_of.nd (pi_str (pv 0)) (blkOk_by (N := N_number_of) (sc := defScope s_number_of) (by decide +kernel)) (fun _ _ _ _ _ => (pg_name (i := 1) sc_number_of.nd rfl (.inl rfl) (.inr rfl))) (fun _ _ _ _ _ => pts_nil) (fun _ _ _ _ _ => (pe_cmpR op_in_sign (pv 1) (pe_glob (v := .str "0123456789") (by rfl) g_FIGURES ⟨_, rfl⟩) (by rfl)))) pa_nil)))))).pt
      (pss_one (ps_ret pe_non))
      pss_nil)
    (pss_one (ps_ret (pe_ifExp (pw_or (pt_cmpR op_ne (pe_ix ix_str (pv 0) pe_int (fun _ _ => rfl)) pe_str (nomark _)) (pw_or1 (pt_cmpR op_eq (pv 0) pe_str (nomark _)))).pt (pe_callTy call_int_str (by rfl) bi.m_int (by decide +kernel) (pa_cons (pv 0) pa_nil)) pe_non)))), ?_⟩
    have hl := tI_len n0 n1
    obtain ⟨c, r, ec, hd, hz⟩ := tI_dig n0
    refine ⟨_, rfl, _, rfl, small_line (by omega), _, _, rfl, rfl, _, rfl, ?_⟩
    rw [decide_eq_true (show (1 : Int) ≤ ((tI n).length : Int) by omega)]
    refine iteT ?_
    refine ⟨_, _, rfl, rfl, _, rfl, ?_⟩
    rw [decide_eq_true (show ((tI n).length : Int) ≤ 40 by omega)]
    refine iteNT ?_
    -- all figures
    refine ⟨_, rfl, _, rfl, fun D nD => ?_⟩
    refine lc_it walk_str (fun i H' => Same H H' ∧ H' D = some (.lst ((List.replicate i true).map V.bl)) ∧ i ≤ 40) ⟨same_new (Same.refl _) nD, upd_same, Nat.zero_le _⟩ (fun i H' hi hm => trivial) (fun i x H1 H2 hi hm hy => ?_) (fun H' hm => ?_)
    · obtain ⟨rfl, c', e1, rfl⟩ := hy
      obtain ⟨sm, eD, _⟩ := hm
      have hi40 : i < 40 := by
        have : (tI n).cps.size = (tI n).length := rfl
        omega
      have hc : c' ∈ cpl (tI n) := List.mem_of_getElem? (i := i) (by rw [Array.getElem?_toList]; exact e1)
      have h2 := hd c' hc
      have h3 : c' ∈ (Str.ofString "0123456789").cps.toList := by
        show c' ∈ [48, 49, 50, 51, 52, 53, 54, 55, 56, 57]
        simp only [List.mem_cons, List.not_mem_nil, or_false]
        omega
      refine ⟨rfl, yesIte ?_⟩
      refine ⟨_, rfl, _, _, rfl, rfl, _, eD, ?_, same_mine sm nD, ?_, hi40⟩
      · rw [List.length_map, List.length_replicate]
        exact small1000 (by omega)
      · rw [upd_same, decide_eq_true h3, List.replicate_succ', List.map_append]
        rfl
    obtain ⟨sm, eD, _⟩ := hm
    refine ⟨D, _, rfl, SqL.of eD, _, rfl, ?_⟩
    rw [show (List.replicate (tI n).cps.size true).all id = true by simp]
    refine iteNT ?_
    -- the number
    have h0 : atI (cpl (tI n)) ((0 : Nat) : Int) = some c := atI_nat (j := 0) (by rw [ec]; rfl)
    refine ⟨_, rfl, _, _, c, rfl, rfl, small_line (by omega), h0, rfl, _, rfl, ite2 (fun _ => ?_) (fun e => ?_)⟩
    · exact ⟨_, rfl, _, _, rfl, tI_int n0 n1, by omega, q _ sm⟩
    · by_cases hc : c = 48
      · have := hz hc
        subst this
        refine ⟨_, rfl, rfl, _, rfl, ite2 (fun _ => ?_) (fun e2 => ?_)⟩
        · exact ⟨_, rfl, _, _, rfl, tI_int n0 n1, by omega, q _ sm⟩
        · exact absurd (decide_eq_true rfl) e2
      · refine absurd ?_ e
        have h48 : (V.str ⟨#[c]⟩ = V.str (Str.ofString "0")) ↔ c = 48 := by
          constructor
          · intro h
            have h : (⟨#[c]⟩ : Str) = Str.ofString "0" := V.str.inj h
            have h : cpl ⟨#[c]⟩ = cpl (Str.ofString "0") := congrArg cpl h
            have h : [c] = [48] := h
            exact (List.cons.inj h).1
          · rintro rfl
            rfl
        simp [h48, hc]
theorem ok_step_of {fN f : Addr} {fdN fd : FuncData} (F : Fun K "step_of" "step_of" s_step_of f fd) (bi : Bi mg) (C_number_of : Cal P w K mg base "number_of" P_number_of 1 spNumberOf fN fdN) : FnOk P w K mg base CX0 2 f fd P_step_of spStepOf := by
  refine F.ok sc_step_of (fun vs H Q E h => ?_) (fun cdv A outer s H vs Q E hr h => ?_)
  · obtain ⟨p, rfl, _⟩ := h
    rfl
  · obtain ⟨p, rfl, a0, a1, b0, b1, q⟩ := h
    refine ⟨_, (pss_cons (ps_asg (pe_partition (pv 0) pe_str) (pg_tup rfl (pgs_cons (pg_name (i := 1) sc_step_of.nd rfl (.inl rfl)) (pgs_cons (pg_name (i := 2) sc_step_of.nd rfl (.inl rfl)) (pgs_cons (pg_name (i := 3) sc_step_of.nd rfl (.inl rfl)) pgs_nil)))))
    (pss_one (ps_ret (pe_tup (pa_cons (pe_call (C_number_of.G.mono (by decide)) hr (by rfl) C_number_of.g C_number_of.kp C_number_of.b .nil pass0 (pa_cons (pv 1) pa_nil)) (pa_cons (pe_call (C_number_of.G.mono (by decide)) hr (by rfl) C_number_of.g C_number_of.kp C_number_of.b .nil pass0 (pa_cons (pv 3) pa_nil)) pa_nil)))))), ?_⟩
    have hl := step_len a0 b0 a1 b1
    refine ⟨_, rfl, ⟨_, rfl⟩, _, _, rfl, rfl, rfl, small_line (by omega), fun t nt => ?_⟩
    have e : Txt.partition (stepTx p) (Str.ofString "x") = (tI p.1, ⟨#[120]⟩, tI p.2) := step_part a0
    rw [e]
    have st : Same H (upd H t (.tup [.str (tI p.1), .str ⟨#[120]⟩, .str (tI p.2)])) := same_new (Same.refl _) nt
    have et : upd H t (.tup [.str (tI p.1), .str ⟨#[120]⟩, .str (tI p.2)]) t = some (.tup [.str (tI p.1), .str ⟨#[120]⟩, .str (tI p.2)]) := upd_same
    dsimp only
    generalize upd H t (.tup [.str (tI p.1), .str ⟨#[120]⟩, .str (tI p.2)]) = H1 at st et
    refine ⟨t, _, rfl, SqT.of et, rfl, _, _, rfl, _, _, rfl, _, _, rfl, rfl, ?_⟩
    refine ⟨_, rfl, p.1, rfl, a0, a1, fun H2 s2 => ?_⟩
    refine ⟨_, rfl, p.2, rfl, b0, b1, fun H3 s3 => ?_⟩
    refine ⟨(by show 2 ≤ sizeLine; decide), fun o no => ?_⟩
    exact q _ o (same_new ((st.trans s2).trans s3) no) upd_same
theorem ok_wisp_of {fN fS fI f : Addr} {fdN fdS fdI fd : FuncData} (F : Fun K "wisp_of" "wisp_of" s_wisp_of f fd) (bi : Bi mg) (C_number_of : Cal P w K mg base "number_of" P_number_of 1 spNumberOf fN fdN) (C_step_of : Cal P w K mg base "step_of" P_step_of 2 spStepOf fS fdS) (C_is_wisp : Cal P w K mg base "is_wisp" P_is_wisp 4 spWispT fI fdI) : FnOk P w K mg base CX0 5 f fd P_wisp_of spWispOf := by
  refine F.ok sc_wisp_of (fun vs H Q E h => ?_) (fun cdv A outer s H vs Q E hr h => ?_)
  · obtain ⟨W, rfl, _⟩ := h
    rfl
  · obtain ⟨W, rfl, g, q⟩ := h
    refine ⟨_, (pss_cons (ps_asg (pe_partition (pv 0) pe_str) (pg_tup rfl (pgs_cons (pg_name (i := 1) sc_wisp_of.nd rfl (.inl rfl)) (pgs_cons (pg_name (i := 2) sc_wisp_of.nd rfl (.inl rfl)) (pgs_cons (pg_name (i := 3) sc_wisp_of.nd rfl (.inl rfl)) pgs_nil)))))
    (pss_cons (ps_set (i := 4) sc_wisp_of.nd rfl (.inl rfl) (pe_tup (pa_cons (pe_call (C_number_of.G.mono (by decide)) hr (by rfl) C_number_of.g C_number_of.kp C_number_of.b .nil pass0 (pa_cons (pv 1) pa_nil)) (pa_cons (pe_callTy call_tuple_of (by rfl) bi.m_tuple (by decide +kernel) (pa_cons (pe_lc (own := [("step", 5)]) (g := (gName 5)) (tt := tYes) rfl sc_wisp_of.nd (pi_list (pe_split (pv 3) pe_str)) (blkOk_by (N := N_wisp_of) (sc := defScope s_wisp_of) (by decide +kernel)) (fun _ _ _ _ _ => (pg_name (i := 5) sc_wisp_of.nd rfl (.inl rfl) (.inr rfl))) (fun _ _ _ _ _ => pts_nil) (fun _ _ _ _ _ => (pe_call (C_step_of.G.mono (by decide)) hr (by rfl) C_step_of.g C_step_of.kp C_step_of.b .nil pass0 (pa_cons (pv 5) pa_nil)))) pa_nil)) pa_nil))))
    (pss_one (ps_ret (pe_ifExp (pt_val (pe_call (C_is_wisp.G.mono (by decide)) hr (by rfl) C_is_wisp.g C_is_wisp.kp C_is_wisp.b .nil pass0 (pa_cons (pv 4) pa_nil))) (pv 4) pe_non))))), ?_⟩
    have hl := g.text_len
    have hj := g.join_len
    refine ⟨_, rfl, ⟨_, rfl⟩, _, _, rfl, rfl, rfl, small_line (by omega), fun t nt => ?_⟩
    have e : Txt.partition (wispTx W) (Str.ofString ":") = (tI W.1, ⟨#[58]⟩, Txt.join ⟨#[44]⟩ (W.2.map stepTx)) := g.part
    rw [e]
    dsimp only
    generalize hJ : Txt.join ⟨#[44]⟩ (W.2.map stepTx) = J at hj
    have st : Same H (upd H t (.tup [.str (tI W.1), .str ⟨#[58]⟩, .str J])) := same_new (Same.refl _) nt
    have et : upd H t (.tup [.str (tI W.1), .str ⟨#[58]⟩, .str J]) t = some (.tup [.str (tI W.1), .str ⟨#[58]⟩, .str J]) := upd_same
    generalize upd H t (.tup [.str (tI W.1), .str ⟨#[58]⟩, .str J]) = H1 at st et
    refine ⟨t, _, rfl, SqT.of et, rfl, _, _, rfl, _, _, rfl, _, _, rfl, rfl, ?_⟩
    refine ⟨_, rfl, W.1, rfl, g.s0, by have := g.s1; omega, fun H2 s2 => ?_⟩
    refine ⟨_, rfl, ⟨_, rfl⟩, _, _, rfl, rfl, rfl, small_line (by omega), fun L nL => ?_⟩
    have es : Txt.split J (Str.ofString ",") = W.2.map stepTx := by
      rw [← hJ]
      exact g.split
    rw [es]
    have sL : Same H (upd H2 L (.lst ((W.2.map stepTx).map V.str))) := same_new (st.trans s2) nL
    have eL : upd H2 L (.lst ((W.2.map stepTx).map V.str)) L = some (.lst ((W.2.map stepTx).map V.str)) := upd_same
    generalize upd H2 L (.lst ((W.2.map stepTx).map V.str)) = H3 at sL eL
    have h8 := g.l8
    refine ⟨L, rfl, ⟨_, SqL.of eL⟩, fun D nD => ?_⟩
    refine lc_list (xs := (W.2.map stepTx).map V.str) (fun i H' => ∃ as, Same H3 H' ∧ H' D = some (.lst (as.map V.ref)) ∧ TupsAt H' as ((W.2.take i).map stepV)) ⟨[], same_new (Same.refl _) nD, upd_same, TupsAt.nil⟩ (fun i H' hi hm => ?_) (fun i x H' hx hm => ?_) (fun H' hm => ?_)
    · obtain ⟨as, sm, _⟩ := hm
      exact SqL.of (sm _ _ eL)
    · obtain ⟨as, sm, eD, tu⟩ := hm
      rw [List.getElem?_map, List.getElem?_map] at hx
      cases ep : W.2[i]? with
      | none =>
        rw [ep] at hx
        cases hx
      | some p =>
        rw [ep] at hx
        have hx : V.str (stepTx p) = x := Option.some.inj hx
        subst hx
        have gp := g.bd p (List.mem_of_getElem? ep)
        have hal : as.length ≤ 8 := by
          rw [tu.1, List.length_map, List.length_take]
          omega
        refine ⟨rfl, yesIte ?_⟩
        refine ⟨_, rfl, p, rfl, by omega, gp.2.1, by omega, gp.2.2.2, fun H4 b s4 eb => ?_⟩
        have eD4 := s4 _ _ eD
        have tD := Tups.ls (o := .lst (as.map V.ref ++ [.ref b])) eD4
        refine ⟨_, eD4, by rw [List.length_map]; exact small1000 (by omega), as ++ [b], same_mine (sm.trans s4) nD, by rw [upd_same, List.map_append]; rfl, ?_⟩
        rw [List.take_add_one, ep]
        show TupsAt _ (as ++ [b]) ((W.2.take i ++ [p]).map stepV)
        rw [List.map_append]
        exact ((tu.mono (Tups.same s4)).snoc eb).mono tD
    obtain ⟨as, sm, eD, tu⟩ := hm
    rw [List.length_map, List.length_map, List.take_length] at tu
    refine ⟨D, _, rfl, .inl ⟨SqL.of eD, fun U nU => ⟨(by show 2 ≤ sizeLine; decide), fun V1 nV => ?_⟩⟩⟩
    have sU : Same H' (upd H' U (.tup (as.map V.ref))) := same_new (Same.refl _) nU
    have eU : upd H' U (.tup (as.map V.ref)) U = some (.tup (as.map V.ref)) := upd_same
    generalize upd H' U (.tup (as.map V.ref)) = H4 at sU eU nV ⊢
    have sV : Same H4 (upd H4 V1 (.tup [.int W.1, .ref U])) := same_new (Same.refl _) nV
    have eV : upd H4 V1 (.tup [.int W.1, .ref U]) V1 = some (.tup [.int W.1, .ref U]) := upd_same
    generalize upd H4 V1 (.tup [.int W.1, .ref U]) = H5 at sV eV ⊢
    have s5 : Same H H5 := ((sL.trans sm).trans sU).trans sV
    have hw : WispAt H5 V1 W.1 W.2 := ⟨U, as, eV, sV _ _ eU, (tu.mono (Tups.same sU)).mono (Tups.same sV)⟩
    refine ⟨_, rfl, _, wispT W, rfl, g.th hw, fun H6 s6 => ?_⟩
    rw [g.isW]
    exact ⟨_, rfl, iteT ⟨_, rfl, q _ V1 (s5.trans s6) (hw.mono (Tups.same s6))⟩⟩
theorem ok_title_of {fN f : Addr} {fdN fd : FuncData} (F : Fun K "title_of" "title_of" s_title_of f fd) (bi : Bi mg) (C_number_of : Cal P w K mg base "number_of" P_number_of 1 spNumberOf fN fdN) : FnOk P w K mg base CX0 2 f fd P_title_of spTitleOf := by
  refine F.ok sc_title_of (fun vs H Q E h => ?_) (fun cdv A outer s H vs Q E hr h => ?_)
  · obtain ⟨n, v, rfl, _⟩ := h
    rfl
  · obtain ⟨n, v, rfl, g1, g2, q⟩ := h
    refine ⟨_, (pss_cons (ps_set (i := 1) sc_title_of.nd rfl (.inl rfl) (pe_split (pv 0) pe_str))
    (pss_cons (ps_if (pw_or (pt_cmpR op_ne (pe_ix ix_list (pv 1) pe_int (fun _ _ => rfl)) pe_str (nomark _)) (pw_or1 (pt_cmpR op_ne (pe_callB call_len_seq (by rfl) bi.m_len (by decide +kernel) (pa_cons (pv 1) pa_nil)) pe_int (nomark _)))).pt
      (pss_one (ps_ret pe_non))
      pss_nil)
    (pss_cons (ps_set (i := 2) sc_title_of.nd rfl (.inl rfl) (pe_tup (pa_cons (pe_call (C_number_of.G.mono (by decide)) hr (by rfl) C_number_of.g C_number_of.kp C_number_of.b .nil pass0 (pa_cons (pe_ix ix_list (pv 1) pe_int (fun _ _ => rfl)) pa_nil)) (pa_cons (pe_call (C_number_of.G.mono (by decide)) hr (by rfl) C_number_of.g C_number_of.kp C_number_of.b .nil pass0 (pa_cons (pe_ix ix_list (pv 1) pe_int (fun _ _ => rfl)) pa_nil)) pa_nil))))
    (pss_one (ps_ret (pe_ifExp (pt_cmpR op_in_seq pe_non (pv 2) (by rfl)) pe_non (pv 2))))))), ?_⟩
    have hl := title_len g1 g2
    refine ⟨_, rfl, ⟨_, rfl⟩, _, _, rfl, rfl, rfl, small_line (by omega), fun L nL => ?_⟩
    have es : Txt.split (titleTx n v) (Str.ofString " ") = [Str.ofString "page", tI n, tI v] := title_split g1 g2
    rw [es]
    have sL : Same H (upd H L (.lst ([Str.ofString "page", tI n, tI v].map V.str))) := same_new (Same.refl _) nL
    have eL : upd H L (.lst ([Str.ofString "page", tI n, tI v].map V.str)) L = some (.lst [.str "page", .str (tI n), .str (tI v)]) := upd_same
    generalize upd H L (.lst ([Str.ofString "page", tI n, tI v].map V.str)) = H1 at sL eL
    refine ⟨_, rfl, L, _, _, _, rfl, rfl, SqL.of eL, (rfl : atI _ (0 : Int) = some (.str "page")), rfl, _, rfl, ite2 (fun e => ?_) (fun _ => ?_)⟩
    · exact absurd e (by decide +kernel)
    refine ⟨_, rfl, L, _, rfl, .inl (SqL.of eL), rfl, _, rfl, ite2 (fun e => by simp at e) (fun _ => ?_)⟩
    refine ⟨_, rfl, L, _, _, _, rfl, rfl, SqL.of eL, (rfl : atI _ (1 : Int) = some (.str (tI n))), n, rfl, g1.1, g1.2, fun H2 s2 => ?_⟩
    refine ⟨_, rfl, L, _, _, _, rfl, rfl, SqL.of (s2 _ _ eL), (rfl : atI _ (2 : Int) = some (.str (tI v))), v, rfl, g2.1, g2.2, fun H3 s3 => ?_⟩
    refine ⟨(by show 2 ≤ sizeLine; decide), fun o no => ?_⟩
    have eo : upd H3 o (.tup [.int n, .int v]) o = some (.tup [.int n, .int v]) := upd_same
    have so : Same H (upd H3 o (.tup [.int n, .int v])) := same_new ((sL.trans s2).trans s3) no
    generalize upd H3 o (.tup [.int n, .int v]) = H4 at eo so
    exact ⟨_, rfl, o, _, rfl, .inr (SqT.of eo), rfl, rfl, _, rfl, iteF ⟨_, rfl, q _ o so eo⟩⟩
theorem ok_entry_of {fN fW fI f : Addr} {fdN fdW fdI fd : FuncData} (F : Fun K "entry_of" "entry_of" s_entry_of f fd) (bi : Bi mg) (C_wisp_of : Cal P w K mg base "wisp_of" P_wisp_of 5 spWispOf fW fdW) (C_number_of : Cal P w K mg base "number_of" P_number_of 1 spNumberOf fN fdN) (C_is_entry : Cal P w K mg base "is_entry" P_is_entry 5 spIsEntry fI fdI) : FnOk P w K mg base CX0 6 f fd P_entry_of spEntryOf := by
  refine F.ok sc_entry_of (fun vs H Q E h => ?_) (fun cdv A outer s H vs Q E hr h => ?_)
  · obtain ⟨e, rfl, _⟩ := h
    rfl
  · obtain ⟨e, rfl, g, q⟩ := h
    refine ⟨_, (pss_cons (ps_set (i := 1) sc_entry_of.nd rfl (.inl rfl) (pe_split (pv 0) pe_str))
    (pss_cons (ps_set (i := 2) sc_entry_of.nd rfl (.inl rfl) pe_non)
    (C8.pss_cut (ps_if (pw_and (pt_cmpR op_eq (pe_ix ix_list (pv 1) pe_int (fun _ _ => rfl)) pe_str (nomark _)) (pw_and1 (pt_cmpR op_eq (pe_callB call_len_seq (by rfl) bi.m_len (by decide +kernel) (pa_cons (pv 1) pa_nil)) pe_int (nomark _)))).pt
      (pss_one (ps_set (i := 2) sc_entry_of.nd rfl (.inl rfl) (pe_tup (pa_cons pe_str (pa_cons (pe_ix ix_list (pv 1) pe_int (fun _ _ => rfl)) (pa_cons (pe_call (C_wisp_of.G.mono (by decide)) hr (by rfl) C_wisp_of.g C_wisp_of.kp C_wisp_of.b .nil pass0 (pa_cons (pe_ix ix_list (pv 1) pe_int (fun _ _ => rfl)) pa_nil)) (pa_cons (pe_call (C_number_of.G.mono (by decide)) hr (by rfl) C_number_of.g C_number_of.kp C_number_of.b .nil pass0 (pa_cons (pe_ix ix_list (pv 1) pe_int (fun _ _ => rfl)) pa_nil)) pa_nil)))))))
      (pss_one (ps_if (pw_and (pt_cmpR op_eq (pe_ix ix_list (pv 1) pe_int (fun _ _ => rfl)) pe_str (nomark _)) (pw_and1 (pt_cmpR op_eq (pe_callB call_len_seq (by rfl) bi.m_len (by decide +kernel) (pa_cons (pv 1) pa_nil)) pe_int (nomark _)))).pt
          (pss_one (ps_set (i := 2) sc_entry_of.nd rfl (.inl rfl) (pe_tup (pa_cons pe_str (pa_cons (pe_ix ix_list (pv 1) pe_int (fun _ _ => rfl)) (pa_cons (pe_call (C_number_of.G.mono (by decide)) hr (by rfl) C_number_of.g C_number_of.kp C_number_of.b .nil pass0 (pa_cons (pe_ix ix_list (pv 1) pe_int (fun _ _ => rfl)) pa_nil)) pa_nil))))))
          (pss_one (ps_if (pw_and (pt_cmpR op_eq (pe_ix ix_list (pv 1) pe_int (fun _ _ => rfl)) pe_str (nomark _)) (pw_and1 (pt_cmpR op_eq (pe_callB call_len_seq (by rfl) bi.m_len (by decide +kernel) (pa_cons (pv 1) pa_nil)) pe_int (nomark _)))).pt
              (pss_one (ps_set (i := 2) sc_entry_of.nd rfl (.inl rfl) (pe_tup (pa_cons pe_str (pa_cons (pe_call (C_number_of.G.mono (by decide)) hr (by rfl) C_number_of.g C_number_of.kp C_number_of.b .nil pass0 (pa_cons (pe_ix ix_list (pv 1) pe_int (fun _ _ => rfl)) pa_nil)) (pa_cons (pe_call (C_number_of.G.mono (by decide)) hr (by rfl) C_number_of.g C_number_of.kp C_number_of.b .nil pass0 (pa_cons (pe_ix ix_list (pv 1) pe_int (fun _ _ => rfl)) pa_nil)) pa_nil))))))
              pss_nil)))))
    (pss_one (ps_ret (pe_ifExp (pt_val (pe_call (C_is_entry.G.mono (by decide)) hr (by rfl) C_is_entry.g C_is_entry.kp C_is_entry.b .nil pass0 (pa_cons (pv 2) pa_nil))) (pv 2) pe_non)))))), ?_⟩
    have hl := en_len g
    refine ⟨_, rfl, ⟨_, rfl⟩, _, _, rfl, rfl, rfl, small_line (by omega), fun L nL => ?_⟩
    have es : Txt.split (enTx e) (Str.ofString " ") = wordsOf e := en_split g
    rw [es]
    have sL : Same H (upd H L (.lst ((wordsOf e).map V.str))) := same_new (Same.refl _) nL
    have eL : upd H L (.lst ((wordsOf e).map V.str)) L = some (.lst ((wordsOf e).map V.str)) := upd_same
    generalize upd H L (.lst ((wordsOf e).map V.str)) = H1 at sL eL
    refine ⟨fun σ' H' => ∃ a, σ' = [some (.str (enTx e)), some (.ref L), some (.ref a)] ∧ Same H H' ∧ EnAt H' a e, ?_, fun σ' H' hm => ?_⟩
    · cases e with
      | lay z W m =>
        obtain ⟨g1, g2, g3⟩ := g
        have eL : H1 L = some (.lst [.str "lay", .str z, .str (wispTx W), .str (tI m)]) := eL
        refine ⟨_, rfl, L, _, _, _, rfl, rfl, SqL.of eL, (rfl : atI _ (0 : Int) = some (.str "lay")), rfl, _, rfl, ite2 (fun _ => ?_) (fun e => absurd (decide_eq_true rfl) e)⟩
        refine ⟨_, rfl, L, _, rfl, .inl (SqL.of eL), rfl, _, rfl, ite2 (fun _ => ?_) (fun e => absurd (decide_eq_true rfl) e)⟩
        refine ⟨_, rfl, L, _, _, _, rfl, rfl, SqL.of eL, (rfl : atI _ (1 : Int) = some (.str z)), ?_⟩
        refine ⟨_, rfl, L, _, _, _, rfl, rfl, SqL.of eL, (rfl : atI _ (2 : Int) = some (.str (wispTx W))), W, rfl, g2, fun H2 b s2 hb => ?_⟩
        refine ⟨_, rfl, L, _, _, _, rfl, rfl, SqL.of (s2 _ _ eL), (rfl : atI _ (3 : Int) = some (.str (tI m))), m, rfl, g3.1, g3.2, fun H3 s3 => ?_⟩
        refine ⟨(by show 4 ≤ sizeLine; decide), fun o no => ?_⟩
        have st := Same.trans (Same.trans sL s2) s3
        exact ⟨o, rfl, same_new st no, b, upd_same, (hb.mono (Tups.same s3)).mono (Tups.new no)⟩
      | lt z m =>
        obtain ⟨g1, g3⟩ := g
        have eL : H1 L = some (.lst [.str "let", .str z, .str (tI m)]) := eL
        refine ⟨_, rfl, L, _, _, _, rfl, rfl, SqL.of eL, (rfl : atI _ (0 : Int) = some (.str "let")), rfl, _, rfl, ite2 (fun e => absurd (of_decide_eq_true e) (by decide +kernel)) (fun _ => ?_)⟩
        refine ⟨_, rfl, L, _, _, _, rfl, rfl, SqL.of eL, (rfl : atI _ (0 : Int) = some (.str "let")), rfl, _, rfl, ite2 (fun _ => ?_) (fun e => absurd (decide_eq_true rfl) e)⟩
        refine ⟨_, rfl, L, _, rfl, .inl (SqL.of eL), rfl, _, rfl, ite2 (fun _ => ?_) (fun e => absurd (decide_eq_true rfl) e)⟩
        refine ⟨_, rfl, L, _, _, _, rfl, rfl, SqL.of eL, (rfl : atI _ (1 : Int) = some (.str z)), ?_⟩
        refine ⟨_, rfl, L, _, _, _, rfl, rfl, SqL.of eL, (rfl : atI _ (2 : Int) = some (.str (tI m))), m, rfl, g3.1, g3.2, fun H3 s3 => ?_⟩
        refine ⟨(by show 3 ≤ sizeLine; decide), fun o no => ?_⟩
        exact ⟨o, rfl, same_new (sL.trans s3) no, upd_same⟩
      | snap m l =>
        obtain ⟨g1, g3⟩ := g
        have eL : H1 L = some (.lst [.str "snap", .str (tI m), .str (tI l)]) := eL
        refine ⟨_, rfl, L, _, _, _, rfl, rfl, SqL.of eL, (rfl : atI _ (0 : Int) = some (.str "snap")), rfl, _, rfl, ite2 (fun e => absurd (of_decide_eq_true e) (by decide +kernel)) (fun _ => ?_)⟩
        refine ⟨_, rfl, L, _, _, _, rfl, rfl, SqL.of eL, (rfl : atI _ (0 : Int) = some (.str "snap")), rfl, _, rfl, ite2 (fun e => absurd (of_decide_eq_true e) (by decide +kernel)) (fun _ => ?_)⟩
        refine ⟨_, rfl, L, _, _, _, rfl, rfl, SqL.of eL, (rfl : atI _ (0 : Int) = some (.str "snap")), rfl, _, rfl, ite2 (fun _ => ?_) (fun e => absurd (decide_eq_true rfl) e)⟩
        refine ⟨_, rfl, L, _, rfl, .inl (SqL.of eL), rfl, _, rfl, ite2 (fun _ => ?_) (fun e => absurd (decide_eq_true rfl) e)⟩
        refine ⟨_, rfl, L, _, _, _, rfl, rfl, SqL.of eL, (rfl : atI _ (1 : Int) = some (.str (tI m))), m, rfl, g1.1, g1.2, fun H2 s2 => ?_⟩
        refine ⟨_, rfl, L, _, _, _, rfl, rfl, SqL.of (s2 _ _ eL), (rfl : atI _ (2 : Int) = some (.str (tI l))), l, rfl, g3.1, g3.2, fun H3 s3 => ?_⟩
        refine ⟨(by show 3 ≤ sizeLine; decide), fun o no => ?_⟩
        exact ⟨o, rfl, same_new ((sL.trans s2).trans s3) no, upd_same⟩
    · obtain ⟨a, rfl, sm, ha⟩ := hm
      refine ⟨_, rfl, a, e, rfl, ha, g, fun H2 s2 => ⟨_, rfl, iteT ?_⟩⟩
      exact ⟨_, rfl, q _ a (sm.trans s2) (ha.mono (Tups.same s2))⟩
theorem ok_read_page {fT fE f : Addr} {fdT fdE fd : FuncData} {tk_MOST_ENTRIES : Tok} (F : Fun K "read_page" "read_page" s_read_page f fd) (bi : Bi mg) (g_MOST_ENTRIES : mg "MOST_ENTRIES" = some (.int 20 tk_MOST_ENTRIES)) (C_title_of : Cal P w K mg base "title_of" P_title_of 2 spTitleOf fT fdT) (C_entry_of : Cal P w K mg base "entry_of" P_entry_of 6 spEntryOf fE fdE) : FnOk P w K mg base CX0 7 f fd P_read_page spReadP := by
  refine F.ok sc_read_page (fun vs H Q E h => ?_) (fun cdv A outer s H vs Q E hr h => ?_)
  · obtain ⟨n, v, es, rfl, _⟩ := h
    rfl
  · obtain ⟨n, v, es, rfl, g, q⟩ := h
    refine ⟨_, (pss_cons (ps_set (i := 1) sc_read_page.nd rfl (.inl rfl) (pe_ifExp (pt_val (pe_callB call_isi (by rfl) bi.m_isinstance (by decide +kernel) (pa_cons (pv 0) (pa_cons (pe_bltn (v := .ty "str") (by rfl) bi.m_str (by decide +kernel) rfl) pa_nil)))) (pe_split (pv 0) pe_str) (pe_lst (pa_cons pe_str pa_nil))))
    (pss_cons (ps_set (i := 2) sc_read_page.nd rfl (.inl rfl) (pe_call (C_title_of.G.mono (by decide)) hr (by rfl) C_title_of.g C_title_of.kp C_title_of.b .nil pass0 (pa_cons (pe_ix ix_list (pv 1) pe_int (fun _ _ => rfl)) pa_nil)))
    (pss_cons (ps_if (pt_cmpR op_isN (pv 2) pe_non (nomark _))
      (pss_one ps_never)
      pss_nil)
    (pss_cons (ps_set (i := 3) sc_read_page.nd rfl (.inl rfl) (pe_lst pa_nil))
    (pss_cons (ps_for PassesOwn.never rfl (pi_enu1 (by rfl) bi.m_enumerate (pa_cons (pe_slice sl_list (pv 1) (po_some pe_int) po_none) pa_nil) (pk_cons pe_int pk_nil)) (pg_tup rfl (pgs_cons (pg_name (i := 4) sc_read_page.nd rfl (.inl rfl)) (pgs_cons (pg_name (i := 5) sc_read_page.nd rfl (.inl rfl)) pgs_nil)))
      (pss_cons (ps_set (i := 6) sc_read_page.nd rfl (.inl rfl) (pe_call (C_entry_of.G.mono (by decide)) hr (by rfl) C_entry_of.g C_entry_of.kp C_entry_of.b .nil pass0 (pa_cons (pv 5) pa_nil)))
        (pss_cons (ps_if (pw_or (pt_cmpR op_isN (pv 6) pe_non (nomark _)) (pw_or1 (pt_cmpR op_gt (pv 4) (pe_glob (v := .int 20) (by rfl) g_MOST_ENTRIES ⟨_, rfl⟩) (nomark _)))).pt
          (pss_one ps_never)
          pss_nil)
        (pss_one (ps_expr (pe_bm PySem.F.plainAttrs_list PySem.F.slot_list_append PySem.F.type_list_append mt_append (pv 3) (pa_cons (pv 6) pa_nil)))))))
    (pss_one (ps_ret (pe_op op_catA (pv 2) (pe_tup (pa_cons (pe_callTy call_tuple_of (by rfl) bi.m_tuple (by decide +kernel) (pa_cons (pv 3) pa_nil)) pa_nil)))))))))), ?_⟩
    have hl := g.len
    have h20 := g.few
    refine ⟨_, rfl, _, _, _, _, true, rfl, ClsV.ty "str", .base (.str _), kit_ty (by decide +kernel), true, rfl, ?_⟩
    refine iteT ?_
    refine ⟨_, rfl, ⟨_, rfl⟩, _, _, rfl, rfl, rfl, small_line (by omega), fun L nL => ?_⟩
    have es' : Txt.split (pageTx n v es) (Str.ofString "; ") = titleTx n v :: es.map enTx := g.split
    rw [es']
    have sL : Same H (upd H L (.lst ((titleTx n v :: es.map enTx).map V.str))) := same_new (Same.refl _) nL
    have eL : upd H L (.lst ((titleTx n v :: es.map enTx).map V.str)) L = some (.lst (V.str (titleTx n v) :: (es.map enTx).map V.str)) := upd_same
    generalize upd H L (.lst ((titleTx n v :: es.map enTx).map V.str)) = H1 at sL eL
    refine ⟨_, rfl, L, _, _, _, rfl, rfl, SqL.of eL, atI_nat (j := 0) rfl, n, v, rfl, g.hn, g.hv, fun H2 t s2 et => ?_⟩
    refine ⟨_, rfl, rfl, _, rfl, ite2 (fun e => by simp at e) (fun _ => ?_)⟩
    refine ⟨Nat.zero_le _, fun R nR => ?_⟩
    have eR : upd H2 R (.lst []) R = some (.lst (([] : List Addr).map V.ref)) := upd_same
    have nRH : H R = none := (sL.trans s2).free nR
    have sR : Same H2 (upd H2 R (.lst [])) := same_new (Same.refl _) nR
    have etR := sR _ _ et
    have eLR := sR _ _ (s2 _ _ eL)
    have sHR : Same H (upd H2 R (.lst [])) := (sL.trans s2).trans sR
    have nRt : t ≠ R := ne_of_none et nR
    have nRL : L ≠ R := ne_of_none (s2 _ _ eL) nR
    generalize upd H2 R (.lst []) = H3 at eR etR eLR sHR
    have hdr : ((V.str (titleTx n v) :: (es.map enTx).map V.str).drop 1) = es.map fun e => V.str (enTx e) := by
      show (es.map enTx).map V.str = _
      rw [List.map_map]
      rfl
    refine ⟨_, rfl, _, rfl, L, _, rfl, SqL.of eLR, fun U nU => ?_⟩
    have eUv : cutV (V.str (titleTx n v) :: (es.map enTx).map V.str) (some 1) none = es.map fun e => V.str (enTx e) := (cut_drop _ 1 (by simp)).trans hdr
    rw [eUv]
    have sU : Same H3 (upd H3 U (.lst (es.map fun e => V.str (enTx e)))) := same_new (Same.refl _) nU
    have eU : upd H3 U (.lst (es.map fun e => V.str (enTx e))) U = some (.lst (es.map fun e => V.str (enTx e))) := upd_same
    have eRU := sU _ _ eR
    generalize upd H3 U (.lst (es.map fun e => V.str (enTx e))) = H4 at sU eU eRU
    have nUR : U ≠ R := (ne_of_none eR nU).symm
    have nUH : H U = none := sHR.free nU
    refine ⟨U, _, rfl, rfl, SqL.of eU, for_it (walk_enu1 (xs := es.map fun e => V.str (enTx e))) (fun i σ' H' => ∃ (x4 x5 x6 : Option V) (as : List Addr), σ' = [some (.str (pageTx n v es)), some (.ref L), some (.ref t), some (.ref R), x4, x5, x6] ∧ Same H H' ∧ H' U = some (.lst (es.map fun e => V.str (enTx e))) ∧ H' t = some (.tup [.int n, .int v]) ∧ H' R = some (.lst (as.map V.ref)) ∧ Each (EnAt H') as (es.take i)) ⟨_, _, _, [], rfl, sHR.trans sU, eU, sU _ _ etR, eRU, Each.nil⟩ (fun i σ' H' hi hm => ?_) (fun i x σ' H' H5 hi hm hy => ?_) (fun σ' H' hm => ?_)⟩
    · obtain ⟨x4, x5, x6, as, rfl, sm, eU', _⟩ := hm
      exact SqL.of eU'
    · obtain ⟨x4, x5, x6, as, rfl, sm, eU', et', eR', ea⟩ := hm
      obtain ⟨c, y1, y2, rfl, nc, rfl, f1, f2⟩ := hy
      have ey : y1 = .int ((i : Int) + 1) := (Option.some.inj f1).symm
      subst ey
      have f2 : (es.map fun e => V.str (enTx e))[i]? = some y2 := f2
      rw [List.getElem?_map] at f2
      obtain ⟨e, ee, rfl⟩ := Option.map_eq_some_iff.mp f2
      have hi' : i < es.length := (List.getElem?_eq_some_iff.mp ee).1
      have ge := g.he e (List.mem_of_getElem? ee)
      refine ⟨c, _, rfl, SqT.of upd_same, rfl, _, _, rfl, _, _, rfl, rfl, ?_⟩
      have sc : Same H' (upd H' c (.tup [.int ((i : Int) + 1), .str (enTx e)])) := same_new (Same.refl _) nc
      generalize upd H' c (.tup [.int ((i : Int) + 1), .str (enTx e)]) = H6 at sc
      refine ⟨_, rfl, e, rfl, ge, fun H7 b s7 hb => ?_⟩
      have hal : as.length ≤ 20 := by
        have := ea.1
        rw [List.length_take] at this
        omega
      refine ⟨_, rfl, rfl, _, rfl, iteF ⟨_, rfl, _, _, rfl, rfl, _, rfl, ite2 (fun h => absurd (of_decide_eq_true h) (by omega)) (fun _ => ?_)⟩⟩
      have s67 := (sm.trans sc).trans s7
      have eR7 := s7 _ _ (sc _ _ eR')
      have tR := Tups.ls (o := .lst (as.map V.ref ++ [.ref b])) eR7
      refine ⟨_, rfl, .inl ⟨rfl, _, SqL.of eR7⟩, _, rfl, _, _, _, rfl, rfl, eR7, by rw [List.length_map]; exact small1000 (by omega), ⟨_, _, _, as ++ [b], rfl, same_mine s67 nRH, ?_, ?_, ?_, ?_⟩⟩
      · rw [upd_ne nUR]
        exact s7 _ _ (sc _ _ eU')
      · rw [upd_ne nRt]
        exact s7 _ _ (sc _ _ et')
      · rw [upd_same, List.map_append]
        rfl
      · rw [List.take_add_one, ee]
        exact (((ea.mono fun a x h => (h.mono (Tups.same sc)).mono (Tups.same s7)).snoc hb).mono fun a x h => h.mono tR)
    · obtain ⟨x4, x5, x6, as, rfl, sm, eU', et', eR', ea⟩ := hm
      rw [List.length_map, List.take_length] at ea
      refine ⟨_, rfl, _, rfl, R, _, rfl, .inl ⟨SqL.of eR', fun D nD => ⟨(by show 1 ≤ sizeLine; decide), fun B nB => ?_⟩⟩⟩
      have sD : Same H (upd H' D (.tup (as.map V.ref))) := same_new sm nD
      have eD : upd H' D (.tup (as.map V.ref)) D = some (.tup (as.map V.ref)) := upd_same
      have tD : Tups H' (upd H' D (.tup (as.map V.ref))) := Tups.new nD
      have et2 := tD _ _ et'
      generalize upd H' D (.tup (as.map V.ref)) = H8 at sD eD tD et2 nB ⊢
      have eB : upd H8 B (.tup [.ref D]) B = some (.tup [.ref D]) := upd_same
      have tB : Tups H8 (upd H8 B (.tup [.ref D])) := Tups.new nB
      have sB : Same H (upd H8 B (.tup [.ref D])) := same_new sD nB
      generalize upd H8 B (.tup [.ref D]) = H9 at sB eB tB ⊢
      refine ⟨t, B, _, _, rfl, rfl, SqT.of (tB _ _ et2), SqT.of eB, (by show 3 ≤ sizeLine; decide), fun e => by simp at e, fun _ e => by simp at e, fun _ _ X nX => ?_⟩
      have tX := Tups.new (o := .tup ([V.int n, V.int v] ++ [V.ref D])) nX
      refine q _ X (same_new sB nX) ⟨D, as, upd_same, tX _ _ (tB _ _ eD), ea.mono fun a x h => ((h.mono tD).mono tB).mono tX⟩
theorem ok__law_far_wisp {fW fD fG f : Addr} {fdW fdD fdG fd : FuncData} (F : Fun K "_law_far_wisp" "_law_far_wisp" s__law_far_wisp f fd) (bi : Bi mg) (C__law_wisp : Cal P w K mg base "_law_wisp" P__law_wisp 4 spWispP fW fdW) (C__law_draw : Cal P w K mg base "_law_draw" P__law_draw 2 spDraw fD fdD) (C__law_great : Cal P w K mg base "_law_great" P__law_great 3 spGreat fG fdG) : FnOk P w K mg base CX0 5 f fd P__law_far_wisp spFarW := by
  refine F.ok sc__law_far_wisp (fun vs H Q E h => ?_) (fun cdv A outer s H vs Q E hr h => ?_)
  · obtain ⟨p, l, T, small, rfl, _⟩ := h
    rfl
  · obtain ⟨p, l, T, small, rfl, hp, hT, q⟩ := h
    refine ⟨_, (pss_cons (ps_set (i := 2) sc__law_far_wisp.nd rfl (.inl rfl) (pe_call (C__law_wisp.G.mono (by decide)) hr (by rfl) C__law_wisp.g C__law_wisp.kp C__law_wisp.b .nil pass0 (pa_cons (pv 0) (pa_cons pe_int (pa_cons (pv 1) pa_nil)))))
    (pss_cons (ps_if (pw_and (pt_not (pt_val (pv 1))) (pw_and1 (pt_cmpR op_eq (pe_call (C__law_draw.G.mono (by decide)) hr (by rfl) C__law_draw.g C__law_draw.kp C__law_draw.b .nil pass0 (pa_cons (pv 0) (pa_cons pe_int pa_nil))) pe_int (nomark _)))).pt
      (pss_one (ps_ret (pe_tup (pa_cons (pe_ix ix_tup (pv 2) pe_int (fun _ _ => rfl)) (pa_cons (pe_op op_catA (pe_tup (pa_cons (pe_tup (pa_cons (pe_op op_sub (pe_op op_sub (pe_op op_pow pe_int pe_int) pe_int) (pe_call (C__law_draw.G.mono (by decide)) hr (by rfl) C__law_draw.g C__law_draw.kp C__law_draw.b .nil pass0 (pa_cons (pv 0) (pa_cons pe_int pa_nil)))) (pa_cons (pe_op op_sub (pe_op op_sub (pe_op op_pow pe_int pe_int) pe_int) (pe_call (C__law_great.G.mono (by decide)) hr (by rfl) C__law_great.g C__law_great.kp C__law_great.b .nil pass0 (pa_cons (pv 0) pa_nil))) pa_nil))) pa_nil)) (pe_slice sl_tupA (pe_ix ix_tup (pv 2) pe_int (fun _ _ => rfl)) po_none (po_some pe_int))) pa_nil)))))
      pss_nil)
    (pss_one (ps_ret (pv 2))))), ?_⟩
    have hq : ∀ b : Int, 0 < b → b ≤ 1000 → CDivW 0 b := fun b h0 h1 => wide_div (b := 10) h0 (by omega) (by decide) (by decide)
    refine ⟨_, rfl, _, rfl, p, l, T, 8, small, rfl, hp, by omega, by decide, by decide, fun H1 a so ps hp1 k1 hw s0 s1 gp hl8 fa _ na => ?_⟩
    have num : NumW (so, ps) := ⟨s0, s1, gp.1, gp.2.1, fa, fun x hx => by have := gp.2.2 x hx; omega⟩
    refine ⟨_, rfl, small, rfl, ?_⟩
    cases small with
    | true => exact iteNT ⟨_, rfl, q _ a (so, ps) (hp1.mono (by omega)) k1 hw num⟩
    | false =>
      refine iteT ?_
      refine ⟨_, rfl, p, l, _, 4, rfl, hp1, by omega, hq _ (by decide) (by decide), fun d H2 d0 d1 hp2 k2 => ?_⟩
      have hw2 := hw.mono (k2.tups hp1)
      refine ⟨rfl, _, rfl, ite2 (fun _ => ?_) (fun _ => ⟨_, rfl, q _ a (so, ps) (hp2.mono (by omega)) (k1.trans k2) hw2 num⟩)⟩
      obtain ⟨st, as, e1, e2, tu⟩ := hw2
      refine ⟨_, rfl, a, _, _, _, rfl, rfl, SqT.of e1, (rfl : atI _ (0 : Int) = some (.int so)), ?_⟩
      refine ⟨_, _, rfl, rfl, ⟨by decide, by decide, by decide⟩, _, _, rfl, rfl, _, rfl, p, l, _, 3, rfl, hp2, by omega, hq _ (by decide) (by decide), fun e H3 e0 e1' hp3 k3 => ⟨_, _, rfl, rfl, ?_⟩⟩
      refine ⟨_, _, rfl, rfl, ⟨by decide, by decide, by decide⟩, _, _, rfl, rfl, _, rfl, p, l, _, rfl, hp3, by omega, fun gr H4 g0 g1 hp4 k4 => ⟨_, _, rfl, rfl, ?_⟩⟩
      have e1' : e < 3 := e1'
      obtain ⟨A1, hA1, hA⟩ : ∃ A1 : Int, A1 = 10 ^ (40 : Int).toNat - 1 - e ∧ 10 ^ 40 - 3 ≤ A1 ∧ A1 < 10 ^ 40 := ⟨_, rfl, by show (10 : Int) ^ 40 - 3 ≤ 10 ^ 40 - 1 - e; omega, by show (10 : Int) ^ 40 - 1 - e < 10 ^ 40; omega⟩
      obtain ⟨B1, hB1, hB⟩ : ∃ B1 : Int, B1 = 10 ^ (40 : Int).toNat - 1 - gr ∧ 1 ≤ B1 ∧ B1 < 10 ^ 40 := ⟨_, rfl, by show (1 : Int) ≤ 10 ^ 40 - 1 - gr; omega, by show (10 : Int) ^ 40 - 1 - gr < 10 ^ 40; omega⟩
      dsimp only
      rw [← hA1, ← hB1]
      have k24 := k3.trans k4
      have t24 := (k3.tups hp2).trans (k4.tups hp3)
      refine ⟨(by show 2 ≤ sizeLine; decide), fun z1 nz1 => ⟨(by show 1 ≤ sizeLine; decide), fun z2 nz2 => ?_⟩⟩
      have q1 : Same H4 (upd H4 z1 (.tup [.int A1, .int B1])) := same_new (Same.refl _) nz1
      have w1 : upd H4 z1 (.tup [.int A1, .int B1]) z1 = some (.tup [.int A1, .int B1]) := upd_same
      generalize upd H4 z1 (.tup [.int A1, .int B1]) = H5 at q1 w1 nz2 ⊢
      have q2 : Same H5 (upd H5 z2 (.tup [.ref z1])) := same_new (Same.refl _) nz2
      have w2 : upd H5 z2 (.tup [.ref z1]) z2 = some (.tup ([z1].map V.ref)) := upd_same
      generalize upd H5 z2 (.tup [.ref z1]) = H6 at q2 w2 ⊢
      have q12 := q1.trans q2
      have e16 := q12 _ _ (t24 _ _ e1)
      have e26 := q12 _ _ (t24 _ _ e2)
      have tu6 := (tu.mono t24).mono (Tups.same q12)
      refine ⟨_, rfl, a, _, _, _, rfl, rfl, SqT.of e16, (rfl : atI _ (1 : Int) = some (.ref st)), ?_⟩
      refine ⟨_, rfl, ?_⟩
      refine slA e26 fun H7 x7 s7 ex7 => ?_
      rw [show (7 : Int) = ((7 : Nat) : Int) from rfl, cut_take, ← List.map_take] at ex7
      refine catA (s7 _ _ w2) ex7 (Nat.le_of_lt (small1000 (by rw [List.length_map, List.length_map, List.length_take]; show 1 + _ ≤ 1000; omega))) fun H8 x8 s8 ex8 => ?_
      rw [← List.map_append] at ex8
      refine ⟨(by show 2 ≤ sizeLine; decide), fun z3 nz3 => ?_⟩
      have q3 : Same H8 (upd H8 z3 (.tup [.int so, .ref x8])) := same_new (Same.refl _) nz3
      have w3 : upd H8 z3 (.tup [.int so, .ref x8]) z3 = some (.tup [.int so, .ref x8]) := upd_same
      generalize upd H8 z3 (.tup [.int so, .ref x8]) = H9 at q3 w3 ⊢
      have s69 := (s7.trans s8).trans q3
      have s49 := q12.trans s69
      have w1' := (q2.trans s69) _ _ w1
      have tu9 : TupsAt H9 ([z1] ++ as.take 7) (((A1, B1) :: ps.take 7).map stepV) := by
        have t9 := tu6.mono (Tups.same s69)
        have tk : TupsAt H9 (as.take 7) ((ps.take 7).map stepV) := by
          refine ⟨by rw [List.length_map, List.length_take, List.length_take, t9.1, List.length_map], fun i b hb => ?_⟩
          rw [List.getElem?_take] at hb
          split at hb
          · next c =>
            obtain ⟨xs, h1, h2⟩ := t9.2 i b hb
            refine ⟨xs, ?_, h2⟩
            rw [List.map_take, List.getElem?_take_of_lt c]
            exact h1
          · cases hb
        exact tk.cons w1'
      refine q _ z3 (so, (A1, B1) :: ps.take 7) ((hp4.same s49).mono (by omega)) (((k1.trans k2).trans k24).trans (Same.keep s49)) ⟨x8, [z1] ++ as.take 7, w3, q3 _ _ ex8, tu9⟩ ⟨s0, s1, by simp, by show (ps.take 7).length + 1 ≤ 8; rw [List.length_take]; omega, ?_, fun x hx => ?_⟩
      · refine List.pairwise_cons.mpr ⟨fun x hx => ?_, List.Pairwise.sublist (List.take_sublist 7 ps) fa⟩
        have := gp.2.2 x (List.mem_of_mem_take hx)
        show x.1 < A1
        omega
      · rcases List.mem_cons.mp hx with rfl | hx
        · exact ⟨by show 1 ≤ A1; omega, hA.2, hB.1, hB.2⟩
        · exact num.bd x (List.mem_of_mem_take hx)
theorem ok__law_wisp_text {f : Addr} {fd : FuncData} {k : Nat} (F : Fun K "_law_wisp_text" "_law_wisp_text" s__law_wisp_text f fd) (bi : Bi mg) : FnOk P w K mg base CX0 (k + 1) f fd P__law_wisp_text spShowW := by
  refine F.ok sc__law_wisp_text (fun vs H Q E h => ?_) (fun cdv A outer s H vs Q E hr h => ?_)
  · obtain ⟨a, W, rfl, _⟩ := h
    rfl
  · obtain ⟨a, W, rfl, ⟨st, as, e1, e2, tu⟩, g, q⟩ := h
    refine ⟨_, (pss_one (ps_ret (pe_op op_add_str (pe_op op_add_str (pe_callTy call_str_int (by rfl) bi.m_str (by decide +kernel) (pa_cons (pe_ix ix_tup (pv 0) pe_int (fun _ _ => rfl)) pa_nil)) pe_str) (pe_join pe_str (pe_lc (own := [("_law_strong", 1), ("_law_long", 2)]) (g := (gTup K 2 (gCons (gName 1) (gCons (gName 2) gNil)))) (tt := tYes) rfl sc__law_wisp_text.nd (pi_tup (pe_ix ix_tup (pv 0) pe_int (fun _ _ => rfl))) (blkOk_by (N := N__law_wisp_text) (sc := defScope s__law_wisp_text) (by decide +kernel)) (fun _ _ _ _ _ => (pg_tup rfl (pgs_cons (pg_name (i := 1) sc__law_wisp_text.nd rfl (.inl rfl) (.inr rfl)) (pgs_cons (pg_name (i := 2) sc__law_wisp_text.nd rfl (.inl rfl) (.inr rfl)) pgs_nil)))) (fun _ _ _ _ _ => pts_nil) (fun _ _ _ _ _ => (pe_op op_add_str (pe_op op_add_str (pe_callTy call_str_int (by rfl) bi.m_str (by decide +kernel) (pa_cons (pv 1) pa_nil)) pe_str) (pe_callTy call_str_int (by rfl) bi.m_str (by decide +kernel) (pa_cons (pv 2) pa_nil))))))))), ?_⟩
    have hs1 : W.1 < 10 ^ 40 := by have := g.s1; omega
    have l1 : (Str.ofString (toString W.1)).length ≤ 40 := (tI_len g.s0 hs1).2
    have lc : (Str.ofString ":").length = 1 := rfl
    have lx : (Str.ofString "x").length = 1 := rfl
    refine ⟨_, rfl, a, _, _, _, rfl, rfl, SqT.of e1, (rfl : atI _ (0 : Int) = some (.int W.1)), _, rfl, tI_log g.s0 hs1, _, _, rfl, rfl, small_line (by omega), ?_⟩
    refine ⟨⟨_, rfl⟩, ?_⟩
    refine ⟨_, rfl, a, _, _, _, rfl, rfl, SqT.of e1, (rfl : atI _ (1 : Int) = some (.ref st)), st, rfl, ⟨_, SqT.of e2⟩, fun D nD => ?_⟩
    have hal : as.length = W.2.length := by
      have := tu.1
      rw [List.length_map] at this
      exact this
    have h8 := g.l8
    refine lc_tup (xs := as.map V.ref) (fun i H' => Same H H' ∧ H' D = some (.lst (((W.2.take i).map stepTx).map V.str))) ⟨same_new (Same.refl _) nD, upd_same⟩ (fun i H' hi hm => SqT.of (hm.1 _ _ e2)) (fun i x H' hx hm => ?_) (fun H' hm => ?_)
    · obtain ⟨sm, eD⟩ := hm
      obtain ⟨b, p, rfl, ep, eb⟩ := stepAt tu hx
      have gp := g.bd p (List.mem_of_getElem? ep)
      have h3 : (Str.ofString (toString p.1)).length ≤ 40 := (tI_len (n := p.1) (by omega) gp.2.1).2
      have h4 : (Str.ofString (toString p.2)).length ≤ 40 := (tI_len (n := p.2) (by omega) gp.2.2.2).2
      refine ⟨b, _, rfl, SqT.of (sm _ _ eb), rfl, _, _, rfl, _, _, rfl, rfl, rfl, yesIte ?_⟩
      refine ⟨_, rfl, _, rfl, tI_log (by omega) gp.2.1, _, _, rfl, rfl, small_line (by omega), _, rfl, _, rfl, tI_log (by omega) gp.2.2.2, _, _, rfl, rfl, ?_, ?_⟩
      · rw [Str.length_append]
        exact small_line (by omega)
      · refine ⟨_, eD, ?_, same_mine sm nD, ?_⟩
        · rw [List.length_map, List.length_map, List.length_take]
          exact small1000 (by omega)
        · rw [upd_same, List.take_add_one, ep]
          show _ = some (HO.lst (((W.2.take i ++ [p]).map stepTx).map V.str))
          rw [List.map_append, List.map_append]
          rfl
    · obtain ⟨sm, eD⟩ := hm
      rw [List.length_map, hal, List.take_length] at eD
      refine ⟨_, D, _, rfl, rfl, .inl (SqL.of eD), ?_, _, _, rfl, rfl, ?_, ?_⟩
      · have := sum_len g.steps_len
        rw [List.length_map] at this ⊢
        rw [show (Str.ofString ",").length = 1 from rfl]
        omega
      · rw [Str.length_append]
        have : (Txt.join (Str.ofString ",") (W.2.map stepTx)).length ≤ 656 := g.join_len
        exact small_line (by omega)
      · exact q _ sm
def oneC (c : Nat) : Str := ⟨#[c]⟩
theorem one_join : ∀ cs : List Nat, cpl (Txt.join (Str.ofString "") (cs.map oneC)) = cs ∧ ((cs.map oneC).map (·.length)).sum + (cs.map oneC).length * 0 = cs.length
  | [] => ⟨rfl, rfl⟩
  | [c] => ⟨by
      rw [join_eq]
      show cpl (Str.join _ [oneC c]) = _
      rw [join_one]
      rfl, rfl⟩
  | c :: d :: r => by
    obtain ⟨h1, h2⟩ := one_join (d :: r)
    rw [join_eq] at h1 ⊢
    refine ⟨?_, ?_⟩
    · show cpl (Str.join _ (oneC c :: oneC d :: r.map oneC)) = _
      rw [join_cons_cons, cpl_app, cpl_app]
      have h1 : cpl (Str.join (Str.ofString "") (oneC d :: r.map oneC)) = d :: r := h1
      rw [h1]
      rfl
    · show 1 + (((d :: r).map oneC).map (·.length)).sum + _ * 0 = (d :: r).length + 1
      omega
theorem ok__law_name {fP fD f : Addr} {fdP fdD fd : FuncData} (F : Fun K "_law_name" "_law_name" s__law_name f fd) (bi : Bi mg) (C__law_pick : Cal P w K mg base "_law_pick" P__law_pick 3 spPick65 fP fdP) (C__law_draw : Cal P w K mg base "_law_draw" P__law_draw 2 spDraw fD fdD) : FnOk P w K mg base CX0 4 f fd P__law_name spName65 := by
  refine F.ok sc__law_name (fun vs H Q E h => ?_) (fun cdv A outer s H vs Q E hr h => ?_)
  · obtain ⟨p, l, T, rfl, _⟩ := h
    rfl
  · obtain ⟨p, l, T, rfl, hp, hT, q⟩ := h
    refine ⟨_, (pss_cons (ps_set (i := 1) sc__law_name.nd rfl (.inr rfl) pe_str)
    (pss_cons (ps_set (i := 2) sc__law_name.nd rfl (.inl rfl) (pe_ix ix_list (pe_lst (pa_cons (pe_op op_add pe_int (pe_call (C__law_draw.G.mono (by decide)) hr (by rfl) C__law_draw.g C__law_draw.kp C__law_draw.b .nil pass0 (pa_cons (pv 0) (pa_cons pe_int pa_nil)))) (pa_cons pe_int (pa_cons pe_int pa_nil)))) (pe_call (C__law_draw.G.mono (by decide)) hr (by rfl) C__law_draw.g C__law_draw.kp C__law_draw.b .nil pass0 (pa_cons (pv 0) (pa_cons pe_int pa_nil))) (fun _ _ => rfl)))
    (pss_one (ps_ret (pe_join pe_str (pe_lc (own := [("_law_turn", 3)]) (g := (gName 3)) (tt := tYes) rfl sc__law_name.nd (pi_range1 rfl bi.m_range (pa_cons (pv 2) pa_nil)) (blkOk_by (N := N__law_name) (sc := defScope s__law_name) (by decide +kernel)) (fun _ _ _ _ _ => (pg_name (i := 3) sc__law_name.nd rfl (.inl rfl) (.inr rfl))) (fun _ _ _ _ _ => pts_nil) (fun _ _ _ _ _ => (pe_call (C__law_pick.G.mono (by decide)) hr (by rfl) C__law_pick.g C__law_pick.kp C__law_pick.b .nil pass0 (pa_cons (pv 0) (pa_cons (pv 1) pa_nil)))))))))), ?_⟩
    have hq : ∀ b : Int, 0 < b → b ≤ 1000 → CDivW 0 b := fun b h0 h1 => wide_div (b := 10) h0 (by omega) (by decide) (by decide)
    refine ⟨_, rfl, p, l, T, 8, rfl, hp, by omega, hq _ (by decide) (by decide), fun d H1 d0 d1 hp1 k1 => ⟨_, _, rfl, rfl, ?_⟩⟩
    refine ⟨(by show 3 ≤ sizeLine; decide), fun z nz => ?_⟩
    refine ⟨_, rfl, p, l, _, 3, rfl, hp1.new nz, by omega, hq _ (by decide) (by decide), fun e H2 e0 e1 hp2 k2 => ?_⟩
    obtain ⟨nz1, nz2⟩ := hp1.fresh nz
    have k02 := (k1.new nz).trans k2
    have d1 : d < 8 := d1
    have e1 : e < 3 := e1
    obtain ⟨m, m0, m1, em⟩ : ∃ m : Int, 1 ≤ m ∧ m ≤ 8 ∧ atI [V.int (1 + d), V.int 8, V.int 1] e = some (.int m) := by
      have hw : e = 0 ∨ e = 1 ∨ e = 2 := by omega
      rcases hw with rfl | rfl | rfl
      · exact ⟨1 + d, by omega, by omega, rfl⟩
      · exact ⟨8, by omega, by omega, rfl⟩
      · exact ⟨1, by omega, by omega, rfl⟩
    refine ⟨z, _, e, _, rfl, rfl, SqL.of (k2 z _ nz1 nz2 upd_same), em, ?_⟩
    obtain ⟨n, rfl⟩ : ∃ n : Nat, m = n := ⟨m.toNat, by omega⟩
    refine ⟨⟨_, rfl⟩, _, rfl, _, rfl, by omega, by omega, fun D nD => ?_⟩
    rw [Int.toNat_natCast]
    obtain ⟨nDp, nDl⟩ := hp2.fresh nD
    refine lc_range (n := n) (fun i H7 => ∃ cs : List Nat, Pot H7 p l (T + 2 + i) ∧ Keep p l H2 H7 ∧ H7 D = some (.lst ((cs.map oneC).map V.str)) ∧ cs.length = i ∧ ∀ c ∈ cs, 97 ≤ c ∧ c ≤ 122) ⟨[], (hp2.new nD).mono (by omega), Keep.refl.new nD, upd_same, rfl, fun c hc => by cases hc⟩ (fun i H7 hi hm => ?_) (fun H7 hm => ?_)
    · obtain ⟨cs, hp7, k7, eD, hl, hc⟩ := hm
      refine ⟨rfl, yesIte ?_⟩
      refine ⟨_, rfl, _, rfl, p, l, _, hp7, by omega, .inr ⟨_, rfl, (by decide : 1 ≤ 26), (by decide : 26 ≤ 1000), fun H8 c hc8 hp8 k8 => ?_⟩⟩
      have eD8 := k8 _ _ nDp nDl eD
      have hc8 : 97 ≤ c ∧ c ≤ 122 := (by decide : ∀ c ∈ [97, 98, 99, 100, 101, 102, 103, 104, 105, 106, 107, 108, 109, 110, 111, 112, 113, 114, 115, 116, 117, 118, 119, 120, 121, 122], 97 ≤ c ∧ c ≤ 122) c hc8
      refine ⟨_, eD8, by rw [List.length_map, List.length_map]; exact small1000 (by omega), cs ++ [c], (hp8.other nDp nDl).mono (by omega), (k7.trans k8).mine nD, by rw [upd_same, List.map_append, List.map_append]; rfl, by rw [List.length_append, hl]; rfl, fun x hx => ?_⟩
      rcases List.mem_append.mp hx with h | h
      · exact hc x h
      · rw [List.mem_singleton.mp h]
        exact hc8
    · obtain ⟨cs, hp7, k7, eD, hl, hc⟩ := hm
      obtain ⟨j1, j2⟩ := one_join cs
      have hz : (Str.ofString "").length = 0 := rfl
      refine ⟨_, D, _, rfl, rfl, .inl (SqL.of eD), by rw [hz, j2]; omega, ?_⟩
      refine q _ _ ⟨?_, ?_, ?_⟩ (hp7.mono (by omega)) (k02.trans k7)
      · rw [j1]
        omega
      · rw [j1]
        omega
      · rw [j1]
        exact hc
theorem ok__law_number_any {fD fG f : Addr} {fdD fdG fd : FuncData} (F : Fun K "_law_number_any" "_law_number_any" s__law_number_any f fd) (bi : Bi mg) (C__law_draw : Cal P w K mg base "_law_draw" P__law_draw 2 spDraw fD fdD) (C__law_great : Cal P w K mg base "_law_great" P__law_great 3 spGreat fG fdG) : FnOk P w K mg base CX0 4 f fd P__law_number_any spNum65 := by
  refine F.ok sc__law_number_any (fun vs H Q E h => ?_) (fun cdv A outer s H vs Q E hr h => ?_)
  · obtain ⟨p, l, T, rfl, _⟩ := h
    rfl
  · obtain ⟨p, l, T, rfl, hp, hT, q⟩ := h
    refine ⟨_, (pss_one (ps_ret (pe_ix ix_list (pe_lst (pa_cons (pe_call (C__law_draw.G.mono (by decide)) hr (by rfl) C__law_draw.g C__law_draw.kp C__law_draw.b .nil pass0 (pa_cons (pv 0) (pa_cons pe_int pa_nil))) (pa_cons (pe_call (C__law_great.G.mono (by decide)) hr (by rfl) C__law_great.g C__law_great.kp C__law_great.b .nil pass0 (pa_cons (pv 0) pa_nil)) (pa_cons (pe_op op_sub (pe_op op_sub (pe_op op_pow pe_int pe_int) pe_int) (pe_call (C__law_great.G.mono (by decide)) hr (by rfl) C__law_great.g C__law_great.kp C__law_great.b .nil pass0 (pa_cons (pv 0) pa_nil))) pa_nil)))) (pe_call (C__law_draw.G.mono (by decide)) hr (by rfl) C__law_draw.g C__law_draw.kp C__law_draw.b .nil pass0 (pa_cons (pv 0) (pa_cons pe_int pa_nil))) (fun _ _ => rfl)))), ?_⟩
    have hq : ∀ b : Int, 0 < b → b ≤ 1000 → CDivW 0 b := fun b h0 h1 => wide_div (b := 10) h0 (by omega) (by decide) (by decide)
    refine ⟨_, rfl, p, l, T, 3, rfl, hp, by omega, hq _ (by decide) (by decide), fun d H1 d0 d1 hp1 k1 => ?_⟩
    refine ⟨_, rfl, p, l, _, rfl, hp1, by omega, fun g H2 g0 g1 hp2 k2 => ?_⟩
    refine ⟨_, _, rfl, rfl, ⟨by decide, by decide, by decide⟩, _, _, rfl, rfl, _, rfl, p, l, _, rfl, hp2, by omega, fun gr H3 h0 h1 hp3 k3 => ⟨_, _, rfl, rfl, ?_⟩⟩
    refine ⟨(by show 3 ≤ sizeLine; decide), fun z nz => ?_⟩
    refine ⟨_, rfl, p, l, _, 3, rfl, hp3.new nz, by omega, hq _ (by decide) (by decide), fun e H4 e0 e1 hp4 k4 => ?_⟩
    obtain ⟨nz1, nz2⟩ := hp3.fresh nz
    have k04 := (((k1.trans k2).trans k3).new nz).trans k4
    have d1 : d < 3 := d1
    have e1 : e < 3 := e1
    obtain ⟨B1, hB1, hB⟩ : ∃ B1 : Int, B1 = 10 ^ (40 : Int).toNat - 1 - gr ∧ 0 ≤ B1 ∧ B1 < 10 ^ 40 := ⟨_, rfl, by show (0 : Int) ≤ 10 ^ 40 - 1 - gr; omega, by show (10 : Int) ^ 40 - 1 - gr < 10 ^ 40; omega⟩
    have k4z := SqL.of (K := K) (k4 z _ nz1 nz2 upd_same)
    have k4z : SqL K H4 z [V.int d, V.int g, V.int (10 ^ (40 : Int).toNat - 1 - gr)] := k4z
    rw [← hB1] at k4z
    obtain ⟨m, hm, em⟩ : ∃ m : Int, NumOk m ∧ atI [V.int d, V.int g, V.int B1] e = some (.int m) := by
      have hw : e = 0 ∨ e = 1 ∨ e = 2 := by omega
      rcases hw with rfl | rfl | rfl
      · exact ⟨d, ⟨by omega, Int.lt_trans d1 (by decide)⟩, rfl⟩
      · exact ⟨g, ⟨by omega, Int.lt_trans g1 (by decide)⟩, rfl⟩
      · exact ⟨B1, hB, rfl⟩
    exact ⟨z, _, e, _, rfl, rfl, k4z, em, q _ m hm (hp4.mono (by omega)) k04⟩
theorem ok__law_entry {fD fP fN fW fA f : Addr} {fdD fdP fdN fdW fdA fd : FuncData} (F : Fun K "_law_entry" "_law_entry" s__law_entry f fd) (bi : Bi mg) (C__law_draw : Cal P w K mg base "_law_draw" P__law_draw 2 spDraw fD fdD) (C__law_pick : Cal P w K mg base "_law_pick" P__law_pick 3 spPick65 fP fdP) (C__law_name : Cal P w K mg base "_law_name" P__law_name 4 spName65 fN fdN)
    (C__law_far_wisp : Cal P w K mg base "_law_far_wisp" P__law_far_wisp 5 spFarW fW fdW) (C__law_number_any : Cal P w K mg base "_law_number_any" P__law_number_any 4 spNum65 fA fdA) : FnOk P w K mg base CX0 6 f fd P__law_entry spEntry65 := by
  refine F.ok sc__law_entry (fun vs H Q E h => ?_) (fun cdv A outer s H vs Q E hr h => ?_)
  · obtain ⟨p, l, c, T, small, zs, rfl, _⟩ := h
    rfl
  · obtain ⟨p, l, c, T, small, zs, rfl, hp, hT, ec, hl, hz, ncp, ncl, q⟩ := h
    refine ⟨_, (pss_cons (ps_par (i := 3) (j := 4) rfl sc__law_entry.nd rfl rfl (by decide) rfl rfl (pa_cons (pe_call (C__law_draw.G.mono (by decide)) hr (by rfl) C__law_draw.g C__law_draw.kp C__law_draw.b .nil pass0 (pa_cons (pv 0) (pa_cons pe_int pa_nil))) (pa_cons (pe_call (C__law_pick.G.mono (by decide)) hr (by rfl) C__law_pick.g C__law_pick.kp C__law_pick.b .nil pass0 (pa_cons (pv 0) (pa_cons (pe_op op_cat (pv 1) (pe_lst (pa_cons (pe_call (C__law_name.G.mono (by decide)) hr (by rfl) C__law_name.g C__law_name.kp C__law_name.b .nil pass0 (pa_cons (pv 0) pa_nil)) pa_nil))) pa_nil))) pa_nil)) rfl)
    (pss_cons (ps_if (pt_cmpR op_lt (pv 3) pe_int (nomark _))
      (pss_one (ps_ret (pe_tup (pa_cons pe_str (pa_cons (pv 4) (pa_cons (pe_call (C__law_far_wisp.G.mono (by decide)) hr (by rfl) C__law_far_wisp.g C__law_far_wisp.kp C__law_far_wisp.b .nil pass0 (pa_cons (pv 0) (pa_cons (pv 2) pa_nil))) (pa_cons (pe_call (C__law_number_any.G.mono (by decide)) hr (by rfl) C__law_number_any.g C__law_number_any.kp C__law_number_any.b .nil pass0 (pa_cons (pv 0) pa_nil)) pa_nil)))))))
      pss_nil)
    (pss_cons (ps_if (pt_cmpR op_eq (pv 3) pe_int (nomark _))
      (pss_one (ps_ret (pe_tup (pa_cons pe_str (pa_cons (pv 4) (pa_cons (pe_call (C__law_number_any.G.mono (by decide)) hr (by rfl) C__law_number_any.g C__law_number_any.kp C__law_number_any.b .nil pass0 (pa_cons (pv 0) pa_nil)) pa_nil))))))
      pss_nil)
    (pss_one (ps_ret (pe_tup (pa_cons pe_str (pa_cons (pe_call (C__law_number_any.G.mono (by decide)) hr (by rfl) C__law_number_any.g C__law_number_any.kp C__law_number_any.b .nil pass0 (pa_cons (pv 0) pa_nil)) (pa_cons (pe_call (C__law_number_any.G.mono (by decide)) hr (by rfl) C__law_number_any.g C__law_number_any.kp C__law_number_any.b .nil pass0 (pa_cons (pv 0) pa_nil)) pa_nil))))))))), ?_⟩
    have hq : ∀ b : Int, 0 < b → b ≤ 1000 → CDivW 0 b := fun b h0 h1 => wide_div (b := 10) h0 (by omega) (by decide) (by decide)
    refine ⟨_, rfl, p, l, T, 4, rfl, hp, by omega, hq _ (by decide) (by decide), fun d H1 d0 d1 hp1 k1 => ?_⟩
    refine ⟨_, rfl, _, rfl, _, rfl, p, l, _, rfl, hp1, by omega, fun H2 nm hnm hp2 k2 => ?_⟩
    refine ⟨(by show 1 ≤ sizeLine; decide), fun y ny => ?_⟩
    have ec2 := k2 _ _ ncp ncl (k1 _ _ ncp ncl ec)
    have hp3 := hp2.new (o := .lst [.str nm]) ny
    have k3 : Keep p l H2 (upd H2 y (.lst [.str nm])) := Keep.refl.new ny
    obtain ⟨nyp, nyl⟩ := hp2.fresh ny
    have ec3 := k3 _ _ ncp ncl ec2
    have ey : upd H2 y (.lst [.str nm]) y = some (.lst [.str nm]) := upd_same
    generalize upd H2 y (.lst [.str nm]) = H3 at hp3 k3 ec3 ey ⊢
    refine ⟨c, y, _, _, rfl, rfl, ec3, ey, by rw [List.length_map]; exact Nat.le_of_lt (small1000 (by show zs.length + 1 ≤ 1000; omega)), fun L nL => ?_⟩
    have hp4 := hp3.new (o := .lst (zs.map V.str ++ [.str nm])) nL
    have k4 : Keep p l H3 (upd H3 L (.lst (zs.map V.str ++ [.str nm]))) := Keep.refl.new nL
    obtain ⟨nLp, nLl⟩ := hp3.fresh nL
    have eL : upd H3 L (.lst (zs.map V.str ++ [.str nm])) L = some (.lst ((zs ++ [nm]).map V.str)) := by
      rw [upd_same, List.map_append]
      rfl
    generalize upd H3 L (.lst (zs.map V.str ++ [.str nm])) = H4 at hp4 k4 eL ⊢
    have hzl : ((zs ++ [nm]).map V.str).length = zs.length + 1 := by
      rw [List.length_map, List.length_append]
      rfl
    refine ⟨p, l, _, hp4, by omega, .inl ⟨L, _, rfl, eL, nLp, nLl, by omega, by omega, fun H5 j x ej hp5 k5 => ⟨_, _, rfl, ?_⟩⟩⟩
    rw [List.getElem?_map] at ej
    obtain ⟨z, ez, rfl⟩ := Option.map_eq_some_iff.mp ej
    have gz : NameOk z := by
      rcases List.mem_append.mp (List.mem_of_getElem? ez) with h | h
      · exact hz z h
      · rw [List.mem_singleton.mp h]
        exact hnm
    have k15 := (((k1.trans k2).trans k3).trans k4).trans k5
    refine ⟨_, rfl, _, _, rfl, rfl, _, rfl, ite2 (fun _ => ?_) (fun _ => ?_)⟩
    · refine ⟨_, rfl, _, rfl, _, rfl, p, l, _, small, rfl, hp5, by omega, fun H6 a W hp6 k6 hw gW => ?_⟩
      refine ⟨_, rfl, p, l, _, rfl, hp6, by omega, fun H7 m hm hp7 k7 => ?_⟩
      refine ⟨(by show 4 ≤ sizeLine; decide), fun o no => ?_⟩
      exact q _ o (.lay z W m) ⟨gz, gW, hm⟩ ⟨a, upd_same, (hw.mono (k7.tups hp6)).mono (Tups.new no)⟩ ((hp7.new no).mono (by omega)) (((k15.trans k6).trans k7).new no)
    · refine ⟨_, rfl, rfl, _, rfl, ite2 (fun _ => ?_) (fun _ => ?_)⟩
      · refine ⟨_, rfl, _, rfl, p, l, _, rfl, hp5, by omega, fun H7 m hm hp7 k7 => ?_⟩
        refine ⟨(by show 3 ≤ sizeLine; decide), fun o no => ?_⟩
        exact q _ o (.lt z m) ⟨gz, hm⟩ upd_same ((hp7.new no).mono (by omega)) ((k15.trans k7).new no)
      · refine ⟨_, rfl, p, l, _, rfl, hp5, by omega, fun H6 m hm hp6 k6 => ?_⟩
        refine ⟨_, rfl, p, l, _, rfl, hp6, by omega, fun H7 m2 hm2 hp7 k7 => ?_⟩
        refine ⟨(by show 3 ≤ sizeLine; decide), fun o no => ?_⟩
        exact q _ o (.snap m m2) ⟨hm, hm2⟩ upd_same ((hp7.new no).mono (by omega)) (((k15.trans k6).trans k7).new no)
theorem ok__law_page {fD fN fE fA f : Addr} {fdD fdN fdE fdA fd : FuncData} (F : Fun K "_law_page" "_law_page" s__law_page f fd) (bi : Bi mg) (C__law_draw : Cal P w K mg base "_law_draw" P__law_draw 2 spDraw fD fdD) (C__law_name : Cal P w K mg base "_law_name" P__law_name 4 spName65 fN fdN)
    (C__law_entry : Cal P w K mg base "_law_entry" P__law_entry 6 spEntry65 fE fdE) (C__law_number_any : Cal P w K mg base "_law_number_any" P__law_number_any 4 spNum65 fA fdA) : FnOk P w K mg base CX0 7 f fd P__law_page spPage65 := by
  refine F.ok sc__law_page (fun vs H Q E h => ?_) (fun cdv A outer s H vs Q E hr h => ?_)
  · obtain ⟨p, l, T, rfl, _⟩ := h
    rfl
  · obtain ⟨p, l, T, rfl, hp, hT, q⟩ := h
    refine ⟨_, (pss_cons (ps_asg (pe_tup (pa_cons (pe_cmpR op_eq (pe_call (C__law_draw.G.mono (by decide)) hr (by rfl) C__law_draw.g C__law_draw.kp C__law_draw.b .nil pass0 (pa_cons (pv 0) (pa_cons pe_int pa_nil))) pe_int (nomark _)) (pa_cons (pe_lc (own := [("_law_turn", 5)]) (g := (gName 5)) (tt := tYes) rfl sc__law_page.nd (pi_range1 rfl bi.m_range (pa_cons pe_int pa_nil)) (blkOk_by (N := N__law_page) (sc := defScope s__law_page) (by decide +kernel)) (fun _ _ _ _ _ => (pg_name (i := 5) sc__law_page.nd rfl (.inl rfl) (.inr rfl))) (fun _ _ _ _ _ => pts_nil) (fun _ _ _ _ _ => (pe_call (C__law_name.G.mono (by decide)) hr (by rfl) C__law_name.g C__law_name.kp C__law_name.b .nil pass0 (pa_cons (pv 0) pa_nil)))) pa_nil))) (pg_tup rfl (pgs_cons (pg_name (i := 1) sc__law_page.nd rfl (.inr rfl)) (pgs_cons (pg_name (i := 2) sc__law_page.nd rfl (.inr rfl)) pgs_nil))))
    (pss_cons (ps_set (i := 3) sc__law_page.nd rfl (.inl rfl) (pe_ix ix_list (pe_lst (pa_cons (pe_call (C__law_draw.G.mono (by decide)) hr (by rfl) C__law_draw.g C__law_draw.kp C__law_draw.b .nil pass0 (pa_cons (pv 0) (pa_cons pe_int pa_nil))) (pa_cons (pe_call (C__law_draw.G.mono (by decide)) hr (by rfl) C__law_draw.g C__law_draw.kp C__law_draw.b .nil pass0 (pa_cons (pv 0) (pa_cons pe_int pa_nil))) (pa_cons pe_int (pa_cons (pe_call (C__law_draw.G.mono (by decide)) hr (by rfl) C__law_draw.g C__law_draw.kp C__law_draw.b .nil pass0 (pa_cons (pv 0) (pa_cons pe_int pa_nil))) pa_nil))))) (pe_call (C__law_draw.G.mono (by decide)) hr (by rfl) C__law_draw.g C__law_draw.kp C__law_draw.b .nil pass0 (pa_cons (pv 0) (pa_cons (pe_op op_add pe_int (pe_op op_mul pe_int (pe_callTy call_int1 (by rfl) bi.m_int (by decide +kernel) (pa_cons (pv 1) pa_nil)))) pa_nil))) (fun _ _ => rfl)))
    (pss_cons (ps_set (i := 4) sc__law_page.nd rfl (.inl rfl) (pe_callTy call_tuple_of (by rfl) bi.m_tuple (by decide +kernel) (pa_cons (pe_lc (own := [("_law_turn", 5)]) (g := (gName 5)) (tt := tYes) rfl sc__law_page.nd (pi_range1 rfl bi.m_range (pa_cons (pv 3) pa_nil)) (blkOk_by (N := N__law_page) (sc := defScope s__law_page) (by decide +kernel)) (fun _ _ _ _ _ => (pg_name (i := 5) sc__law_page.nd rfl (.inl rfl) (.inr rfl))) (fun _ _ _ _ _ => pts_nil) (fun _ _ _ _ _ => (pe_call (C__law_entry.G.mono (by decide)) hr (by rfl) C__law_entry.g C__law_entry.kp C__law_entry.b .nil pass0 (pa_cons (pv 0) (pa_cons (pv 2) (pa_cons (pv 1) pa_nil)))))) pa_nil)))
    (pss_one (ps_ret (pe_tup (pa_cons (pe_call (C__law_number_any.G.mono (by decide)) hr (by rfl) C__law_number_any.g C__law_number_any.kp C__law_number_any.b .nil pass0 (pa_cons (pv 0) pa_nil)) (pa_cons (pe_call (C__law_number_any.G.mono (by decide)) hr (by rfl) C__law_number_any.g C__law_number_any.kp C__law_number_any.b .nil pass0 (pa_cons (pv 0) pa_nil)) (pa_cons (pv 4) pa_nil))))))))), ?_⟩
    have hq : ∀ b : Int, 0 < b → b ≤ 1000 → CDivW 0 b := fun b h0 h1 => wide_div (b := 10) h0 (by omega) (by decide) (by decide)
    refine ⟨_, rfl, p, l, T, 2, rfl, hp, by omega, hq _ (by decide) (by decide), fun d0 H1 _ _ hp1 k1 => ⟨rfl, ?_⟩⟩
    generalize decide (V.int d0 = V.int 0) = small
    refine ⟨3, rfl, by decide, by decide, fun D nD => ?_⟩
    obtain ⟨nDp, nDl⟩ := hp1.fresh nD
    refine lc_range (n := 3) (fun i H7 => ∃ zs : List Str, Pot H7 p l (T + 1 + 12 * i) ∧ Keep p l H1 H7 ∧ H7 D = some (.lst (zs.map V.str)) ∧ zs.length = i ∧ ∀ z ∈ zs, NameOk z) ⟨[], (hp1.new nD).mono (by omega), Keep.refl.new nD, upd_same, rfl, fun c hc => by cases hc⟩ (fun i H7 hi hm => ?_) (fun H7 hm => ?_)
    · obtain ⟨zs, hp7, k7, eD, hl, hz⟩ := hm
      refine ⟨rfl, yesIte ?_⟩
      refine ⟨_, rfl, p, l, _, rfl, hp7, by omega, fun H8 z gz hp8 k8 => ?_⟩
      have eD8 := k8 _ _ nDp nDl eD
      refine ⟨_, eD8, by rw [List.length_map]; exact small1000 (by omega), zs ++ [z], (hp8.other nDp nDl).mono (by omega), (k7.trans k8).mine nD, by rw [upd_same, List.map_append]; rfl, by rw [List.length_append, hl]; rfl, fun x hx => ?_⟩
      rcases List.mem_append.mp hx with h | h
      · exact hz x h
      · rw [List.mem_singleton.mp h]
        exact gz
    obtain ⟨zs, hp7, k7, eD, hl, hz⟩ := hm
    refine ⟨(by show 2 ≤ sizeLine; decide), fun o no => ?_⟩
    refine ⟨o, _, rfl, SqT.of upd_same, rfl, _, _, rfl, _, _, rfl, rfl, ?_⟩
    have hpo := hp7.new (o := .tup [.bl small, .ref D]) no
    have ko := (k1.trans k7).new (o := .tup [.bl small, .ref D]) no
    have eDo : upd H7 o (.tup [.bl small, .ref D]) D = some (.lst (zs.map V.str)) := (upd_ne (ne_of_none eD no)).trans eD
    generalize upd H7 o (.tup [.bl small, .ref D]) = H8 at hpo ko eDo ⊢
    refine ⟨_, rfl, p, l, _, 4, rfl, hpo, by omega, hq _ (by decide) (by decide), fun d1 H9 d10 d11 hp9 k9 => ?_⟩
    refine ⟨_, rfl, p, l, _, 6, rfl, hp9, by omega, hq _ (by decide) (by decide), fun d2 HA d20 d21 hpA kA => ?_⟩
    refine ⟨_, rfl, p, l, _, 21, rfl, hpA, by omega, hq _ (by decide) (by decide), fun d3 HB d30 d31 hpB kB => ?_⟩
    refine ⟨(by show 4 ≤ sizeLine; decide), fun z nz => ?_⟩
    have d11 : d1 < 4 := d11
    have d21 : d2 < 6 := d21
    have d31 : d3 < 21 := d31
    obtain ⟨nzp, nzl⟩ := hpB.fresh nz
    have hpC := hpB.new (o := .lst [.int d1, .int d2, .int 20, .int d3]) nz
    have kC := ((k9.trans kA).trans kB).new (o := .lst [.int d1, .int d2, .int 20, .int d3]) nz
    have ez : upd HB z (.lst [.int d1, .int d2, .int 20, .int d3]) z = some (.lst [.int d1, .int d2, .int 20, .int d3]) := upd_same
    generalize upd HB z (.lst [.int d1, .int d2, .int 20, .int d3]) = HC at hpC kC ez ⊢
    obtain ⟨u, hu, eu⟩ : ∃ u : Int, (u = 2 ∨ u = 4) ∧ 2 + 2 * (if small = true then (1 : Int) else 0) = u := by
      cases small
      · exact ⟨2, .inl rfl, rfl⟩
      · exact ⟨4, .inr rfl, rfl⟩
    refine ⟨_, rfl, _, rfl, .inr ⟨small, rfl, _, _, rfl, rfl, by cases small <;> exact .inl ⟨by decide, by decide⟩, _, _, rfl, rfl, ?_⟩⟩
    refine ⟨p, l, _, 2 + 2 * (if small = true then 1 else 0), rfl, hpC, by omega, by rw [eu]; exact hq _ (by omega) (by omega), fun e HD e0 e1 hpD kD => ?_⟩
    rw [eu] at e1
    obtain ⟨m, m0, m1, em⟩ : ∃ m : Int, 0 ≤ m ∧ m ≤ 20 ∧ atI [V.int d1, V.int d2, V.int 20, V.int d3] e = some (.int m) := by
      have hw : e = 0 ∨ e = 1 ∨ e = 2 ∨ e = 3 := by omega
      rcases hw with rfl | rfl | rfl | rfl
      · exact ⟨d1, by omega, by omega, rfl⟩
      · exact ⟨d2, by omega, by omega, rfl⟩
      · exact ⟨20, by omega, by omega, rfl⟩
      · exact ⟨d3, by omega, by omega, rfl⟩
    refine ⟨z, _, e, _, rfl, rfl, SqL.of (kD z _ nzp nzl ez), em, ?_⟩
    obtain ⟨n, rfl⟩ : ∃ n : Nat, m = n := ⟨m.toNat, by omega⟩
    have eDD := kD _ _ nDp nDl (kC _ _ nDp nDl eDo)
    refine ⟨_, rfl, _, rfl, by omega, by omega, fun R nR => ?_⟩
    rw [Int.toNat_natCast]
    obtain ⟨nRp, nRl⟩ := hpD.fresh nR
    have nDR : D ≠ R := ne_of_none eDD nR
    refine lc_range (n := n) (fun i H7 => ∃ (as : List Addr) (es : List En), Pot H7 p l (T + 60 + 300 * i) ∧ Keep p l HD H7 ∧ H7 R = some (.lst (as.map V.ref)) ∧ Each (EnAt H7) as es ∧ as.length = i ∧ ∀ e ∈ es, GoodEn e) ⟨[], [], (hpD.new nR).mono (by omega), Keep.refl.new nR, upd_same, Each.nil, rfl, fun W hW => by cases hW⟩ (fun i H7 hi hm => ?_) (fun H7 hm => ?_)
    · obtain ⟨as, es, hp7, k7, eR, ea, hal, ge⟩ := hm
      refine ⟨rfl, yesIte ?_⟩
      refine ⟨_, rfl, _, rfl, _, rfl, p, l, D, _, small, zs, rfl, hp7, by omega, k7 _ _ nDp nDl eDD, by omega, hz, nDp, nDl, fun H8 a e gE he hp8 k8 => ?_⟩
      have eR8 := k8 _ _ nRp nRl eR
      have tR := Tups.ls (o := .lst (as.map V.ref ++ [.ref a])) eR8
      refine ⟨_, eR8, by rw [List.length_map]; exact small1000 (by omega), as ++ [a], es ++ [e], (hp8.other nRp nRl).mono (by omega), (k7.trans k8).mine nR, by rw [upd_same, List.map_append]; rfl, ((ea.mono fun a x h => h.mono (k8.tups hp7)).snoc he).mono fun a x h => h.mono tR, by rw [List.length_append, hal]; rfl, fun V hV => ?_⟩
      rcases List.mem_append.mp hV with h | h
      · exact ge V h
      · rw [List.mem_singleton.mp h]
        exact gE
    obtain ⟨as, es, hp7', k7', eR, ea, hal, ge⟩ := hm
    refine ⟨R, _, rfl, .inl ⟨SqL.of eR, fun r nr => ?_⟩⟩
    have hp8 := hp7'.new (o := .tup (as.map V.ref)) nr
    have k8 := (((ko.trans kC).trans kD).trans k7').new (o := .tup (as.map V.ref)) nr
    have er : upd H7 r (.tup (as.map V.ref)) r = some (.tup (as.map V.ref)) := upd_same
    have ea8 := ea.mono fun a x h => h.mono (Tups.new (o := .tup (as.map V.ref)) nr)
    generalize upd H7 r (.tup (as.map V.ref)) = HE at hp8 k8 er ea8 ⊢
    refine ⟨_, rfl, p, l, _, rfl, hp8, by omega, fun HF x hx hp9 k9 => ?_⟩
    refine ⟨_, rfl, p, l, _, rfl, hp9, by omega, fun HG y hy hpX kX => ?_⟩
    refine ⟨_, rfl, (by show 3 ≤ sizeLine; decide), fun b nb => ?_⟩
    have t9 := (k9.tups hp8).trans (kX.tups hp9)
    have tb := Tups.new (o := .tup [.int x, .int y, .ref r]) nb
    have hlen : es.length = n := by rw [← ea.1, hal]
    exact q _ b x y es ⟨hx, hy, ge, by omega⟩ ⟨r, as, upd_same, tb _ _ (t9 _ _ er), ea8.mono fun a x h => (h.mono t9).mono tb⟩ ((hpX.new nb).mono (by omega)) (((k8.trans k9).trans kX).new nb)
theorem wisp65_dep (W : Wi) : (wispD W.1 W.2).depth ≤ 3 := by
  have h := depth_all (n := 1) (xs := W.2.map fun p => PyData.tuple [.int p.1, .int p.2]) fun x hx => by
    obtain ⟨p, _, rfl⟩ := List.mem_map.mp hx
    exact Nat.le_refl _
  show max 0 (max (PyData.depthAll (W.2.map fun p => PyData.tuple [.int p.1, .int p.2]) + 1) 0) + 1 ≤ 3
  omega
theorem NumW.good {W : Wi} (g : NumW W) : Good W.2 := ⟨g.l1, by have := g.l8; omega, fun p hp => by
  have := g.bd p hp
  exact ⟨this.1, Int.lt_trans this.2.1 (by decide), this.2.2.1, Int.lt_trans this.2.2.2 (by decide)⟩⟩
theorem str_wisp {H : Hp} {a : Addr} {W : Wi} (h : WispAt H a W.1 W.2) (g : NumW W) {Q : VK} (q : Q (.str (wispD W.1 W.2).shown) H) : rStrA K [.ref a] H Q := by
  have sh := wisp_sh g.s0 g.s1 g.good
  have hb := wisp_bulk W.1 W.2
  have h8 := g.l8
  exact .inr (.inr ⟨a, wispD W.1 W.2, rfl, h.dp, sh.ok.1, sh.ok.2.1, by have := wisp65_dep W; omega, sh.fits (by omega), q⟩)
theorem str_num {H : Hp} {n : Int} (h : NumOk n) {Q : VK} (q : Q (.str (tI n)) H) : rStrA K [.int n] H Q := .inl ⟨n, rfl, tI_log h.1 h.2, q⟩
theorem str_txt {H : Hp} {z : Str} {Q : VK} (q : Q (.str z) H) : rStrA K [.str z] H Q := .inr (.inl ⟨z, rfl, q⟩)
theorem words_join {e : En} (g : GoodEn e) : ((wordsOf e).map (·.length)).sum + (wordsOf e).length * (Str.ofString " ").length ≤ 16777216 := by
  have := sum_len (N := 700) (xs := wordsOf e) fun x hx => (words_ok g x hx).short
  have h4 := (words_n e).2
  have h1 : (Str.ofString " ").length = 1 := rfl
  rw [h1]
  omega
/-- what is told of an entry's parts, each by itself -/
def firstW : En → List Str
  | .lay z W m => [Str.ofString "lay", z, (wispD W.1 W.2).shown, tI m]
  | e => wordsOf e
theorem room64 {k : Nat} {A : Around} (h : Room k A) : A.units + 64 < cLine := by
  have := h.un
  omega
theorem ok__law_entry_text {fT f : Addr} {fdT fd : FuncData} (F : Fun K "_law_entry_text" "_law_entry_text" s__law_entry_text f fd) (bi : Bi mg) (C__law_wisp_text : Cal P w K mg base "_law_wisp_text" P__law_wisp_text 1 spShowW fT fdT) : FnG P w K mg base 2 f fd P__law_entry_text spShowE := by
  refine okG F sc__law_entry_text (fun vs H Q E h => ?_) (fun cdv A outer s H vs Q E hr gd h => ?_)
  · obtain ⟨a, e, rfl, _⟩ := h
    rfl
  · obtain ⟨a, e, rfl, he, g, q⟩ := h
    have hu64 := room64 hr
    obtain ⟨vals, ea, hlen, hval⟩ : ∃ vals, H a = some (.tup vals) ∧ (vals.length = (firstW e).length ∧ vals.length ≤ 4) ∧ ∀ (i : Nat) (x : V), vals[i]? = some x → ∃ z, (firstW e)[i]? = some z ∧ ∀ (H' : Hp) (Q : VK), Same H H' → Q (.str z) H' → rStrA K [x] H' Q := by
      cases e with
      | lay z W m =>
        obtain ⟨wa, h1, h2⟩ := he
        obtain ⟨g1, g2, g3⟩ := g
        refine ⟨[.str "lay", .str z, .ref wa, .int m], h1, ⟨rfl, by show 4 ≤ 4; decide⟩, fun i x hx => ?_⟩
        rcases i with _ | _ | _ | _ | i
        · obtain rfl := Option.some.inj hx
          exact ⟨_, rfl, fun H' Q s q => str_txt q⟩
        · obtain rfl := Option.some.inj hx
          exact ⟨_, rfl, fun H' Q s q => str_txt q⟩
        · obtain rfl := Option.some.inj hx
          exact ⟨_, rfl, fun H' Q s q => str_wisp (h2.mono (Tups.same s)) g2 q⟩
        · obtain rfl := Option.some.inj hx
          exact ⟨_, rfl, fun H' Q s q => str_num g3 q⟩
        · exact absurd hx (by simp)
      | lt z m =>
        obtain ⟨g1, g3⟩ := g
        refine ⟨[.str "let", .str z, .int m], he, ⟨rfl, by show 3 ≤ 4; decide⟩, fun i x hx => ?_⟩
        rcases i with _ | _ | _ | i
        · obtain rfl := Option.some.inj hx
          exact ⟨_, rfl, fun H' Q s q => str_txt q⟩
        · obtain rfl := Option.some.inj hx
          exact ⟨_, rfl, fun H' Q s q => str_txt q⟩
        · obtain rfl := Option.some.inj hx
          exact ⟨_, rfl, fun H' Q s q => str_num g3 q⟩
        · exact absurd hx (by simp)
      | snap m l =>
        obtain ⟨g1, g3⟩ := g
        refine ⟨[.str "snap", .int m, .int l], he, ⟨rfl, by show 3 ≤ 4; decide⟩, fun i x hx => ?_⟩
        rcases i with _ | _ | _ | i
        · obtain rfl := Option.some.inj hx
          exact ⟨_, rfl, fun H' Q s q => str_txt q⟩
        · obtain rfl := Option.some.inj hx
          exact ⟨_, rfl, fun H' Q s q => str_num g1 q⟩
        · obtain rfl := Option.some.inj hx
          exact ⟨_, rfl, fun H' Q s q => str_num g3 q⟩
        · exact absurd hx (by simp)
    refine ⟨_, (pss_cons (ps_setLc (i := 1) (own := [("_law_part", 2)]) (g := (gName 2)) (tt := tYes) (te := (tCB (rStrA K) (tCons (tVar 2) tNil))) rfl sc__law_entry_text.nd rfl rfl (sw_true rfl rfl rfl (by decide +kernel)) (pi_tup (pv 0)) (blkOk_by (N := N__law_entry_text) (sc := defScope s__law_entry_text) (by decide +kernel)) (fun _ _ _ _ _ => (pg_name (i := 2) sc__law_entry_text.nd rfl (.inl rfl) (.inr rfl))) (fun _ _ _ _ _ => pts_nil) (fun _ _ _ _ _ => (pe_callTy (call_strA gd hu64) (by rfl) bi.m_str (by decide +kernel) (pa_cons (pv 2) pa_nil))))
    (C8.pss_cut (ps_if (pt_cmpR op_eq (pe_ix ix_tup (pv 0) pe_int (fun _ _ => rfl)) pe_str (nomark _))
      (pss_one (ps_asg (pe_call (C__law_wisp_text.G.mono (by decide)) hr (by rfl) C__law_wisp_text.g C__law_wisp_text.kp C__law_wisp_text.b .nil pass0 (pa_cons (pe_ix ix_tup (pv 0) pe_int (fun _ _ => rfl)) pa_nil)) (pg_sub (pv 1) pe_int set_list)))
      pss_nil)
    (pss_one (ps_ret (pe_join pe_str (pv 1)))))), ?_⟩
    refine ⟨_, rfl, a, rfl, ⟨_, SqT.of ea⟩, fun D nD => ?_⟩
    refine lc_tup (xs := vals) (fun i H' => Same H H' ∧ H' D = some (.lst (((firstW e).take i).map V.str))) ⟨same_new (Same.refl _) nD, upd_same⟩ (fun i H' hi hm => SqT.of (hm.1 _ _ ea)) (fun i x H' hx hm => ?_) (fun H' hm => ?_)
    · obtain ⟨sm, eD⟩ := hm
      obtain ⟨z, ez, hz⟩ := hval i x hx
      have key : rStrA K [x] H' fun y H4 => ∃ acc, H4 D = some (.lst acc) ∧ acc.length < sizeLine ∧ Same H (upd H4 D (.lst (acc ++ [y]))) ∧ upd H4 D (.lst (acc ++ [y])) D = some (.lst (((firstW e).take (i + 1)).map V.str)) := by
        refine hz H' _ sm ⟨_, eD, ?_, same_mine sm nD, ?_⟩
        · rw [List.length_map, List.length_take]
          exact small1000 (by omega)
        · rw [upd_same, List.take_add_one, ez, List.map_append]
          rfl
      exact ⟨rfl, yesIte ⟨_, rfl, key⟩⟩
    obtain ⟨sm, eD⟩ := hm
    rw [hlen.1, List.take_length] at eD
    refine ⟨fun σ' H' => ∃ x2, σ' = [some (.ref a), some (.ref D), x2] ∧ Same H H' ∧ H' D = some (.lst ((wordsOf e).map V.str)), ?_, fun σ' H2 hm => ?_⟩
    · cases e with
      | lay z W m =>
        obtain ⟨wa, h1, h2⟩ := he
        obtain ⟨g1, g2, g3⟩ := g
        refine ⟨_, rfl, a, _, _, _, rfl, rfl, SqT.of (sm _ _ h1), (rfl : atI _ (0 : Int) = some (.str "lay")), rfl, _, rfl, ite2 (fun _ => ?_) (fun e => absurd (decide_eq_true rfl) e)⟩
        refine ⟨_, rfl, a, _, _, _, rfl, rfl, SqT.of (sm _ _ h1), (rfl : atI _ (2 : Int) = some (.ref wa)), wa, W, rfl, h2.mono (Tups.same sm), g2, fun H2 s2 => ?_⟩
        refine ⟨_, rfl, D, _, 2, 2, rfl, rfl, s2 _ _ eD, rfl, ?_⟩
        exact ⟨_, rfl, same_mine (sm.trans s2) nD, upd_same⟩
      | lt z m =>
        refine ⟨_, rfl, a, _, _, _, rfl, rfl, SqT.of (sm _ _ he), (rfl : atI _ (0 : Int) = some (.str "let")), rfl, _, rfl, ite2 (fun e => absurd (of_decide_eq_true e) (by decide +kernel)) (fun _ => ?_)⟩
        exact ⟨_, rfl, sm, eD⟩
      | snap m l =>
        refine ⟨_, rfl, a, _, _, _, rfl, rfl, SqT.of (sm _ _ he), (rfl : atI _ (0 : Int) = some (.str "snap")), rfl, _, rfl, ite2 (fun e => absurd (of_decide_eq_true e) (by decide +kernel)) (fun _ => ?_)⟩
        exact ⟨_, rfl, sm, eD⟩
    · obtain ⟨x2, rfl, s2, eD2⟩ := hm
      exact ⟨⟨_, rfl⟩, _, rfl, _, D, _, rfl, rfl, .inl (SqL.of eD2), words_join g, q _ s2⟩
theorem ok__law_page_text {fE f : Addr} {fdE fd : FuncData} (F : Fun K "_law_page_text" "_law_page_text" s__law_page_text f fd) (bi : Bi mg) (C__law_entry_text : CalG P w K mg base "_law_entry_text" P__law_entry_text 2 spShowE fE fdE) : FnG P w K mg base 3 f fd P__law_page_text spShowP := by
  refine okG F sc__law_page_text (fun vs H Q E h => ?_) (fun cdv A outer s H vs Q E hr gd h => ?_)
  · obtain ⟨a, n, v, es, rfl, _⟩ := h
    rfl
  · obtain ⟨a, n, v, es, rfl, ⟨t, as, e1, e2, ea⟩, g, q⟩ := h
    refine ⟨_, (pss_one (ps_ret (pe_join pe_str (pe_op op_cat (pe_lst (pa_cons (pe_op op_add_str (pe_op op_add_str (pe_op op_add_str pe_str (pe_callTy call_str_int (by rfl) bi.m_str (by decide +kernel) (pa_cons (pe_ix ix_tup (pv 0) pe_int (fun _ _ => rfl)) pa_nil))) pe_str) (pe_callTy call_str_int (by rfl) bi.m_str (by decide +kernel) (pa_cons (pe_ix ix_tup (pv 0) pe_int (fun _ _ => rfl)) pa_nil))) pa_nil)) (pe_lc (own := [("_law_one", 1)]) (g := (gName 1)) (tt := tYes) rfl sc__law_page_text.nd (pi_tup (pe_ix ix_tup (pv 0) pe_int (fun _ _ => rfl))) (blkOk_by (N := N__law_page_text) (sc := defScope s__law_page_text) (by decide +kernel)) (fun _ _ _ _ _ => (pg_name (i := 1) sc__law_page_text.nd rfl (.inl rfl) (.inr rfl))) (fun _ _ _ _ _ => pts_nil) (fun _ _ _ _ _ => (pe_callG (C__law_entry_text.G.up (by decide)) hr gd (by rfl) C__law_entry_text.g C__law_entry_text.kp C__law_entry_text.b (pa_cons (pv 1) pa_nil)))))))), ?_⟩
    have hn : (Str.ofString (toString n)).length ≤ 40 := (tI_len g.hn.1 g.hn.2).2
    have hv : (Str.ofString (toString v)).length ≤ 40 := (tI_len g.hv.1 g.hv.2).2
    have lp : (Str.ofString "page ").length = 5 := rfl
    have l1 : (Str.ofString " ").length = 1 := rfl
    refine ⟨⟨_, rfl⟩, ?_⟩
    refine ⟨_, rfl, a, _, _, _, rfl, rfl, SqT.of e1, (rfl : atI _ (0 : Int) = some (.int n)), n, rfl, tI_log g.hn.1 g.hn.2, _, _, rfl, rfl, small_line (by omega), _, _, rfl, rfl, ?_, ?_⟩
    · rw [Str.length_append]
      exact small_line (by omega)
    refine ⟨_, rfl, a, _, _, _, rfl, rfl, SqT.of e1, (rfl : atI _ (1 : Int) = some (.int v)), v, rfl, tI_log g.hv.1 g.hv.2, _, _, rfl, rfl, ?_, ?_⟩
    · rw [Str.length_append, Str.length_append]
      exact small_line (by omega)
    have et : Str.ofString "page " ++ Str.ofString (toString n) ++ Str.ofString " " ++ Str.ofString (toString v) = titleTx n v := title_app n v
    rw [et]
    refine ⟨(by show 1 ≤ sizeLine; decide), fun L nL => ?_⟩
    have sL : Same H (upd H L (.lst [.str (titleTx n v)])) := same_new (Same.refl _) nL
    have eL : upd H L (.lst [.str (titleTx n v)]) L = some (.lst ([titleTx n v].map V.str)) := upd_same
    generalize upd H L (.lst [.str (titleTx n v)]) = H1 at sL eL
    refine ⟨_, rfl, a, _, _, _, rfl, rfl, SqT.of (sL _ _ e1), (rfl : atI _ (2 : Int) = some (.ref t)), t, rfl, ⟨_, SqT.of (sL _ _ e2)⟩, fun D nD => ?_⟩
    have h20 := g.few
    refine lc_tup (xs := as.map V.ref) (fun i H' => Same H1 H' ∧ H' D = some (.lst (((es.take i).map enTx).map V.str))) ⟨same_new (Same.refl _) nD, upd_same⟩ (fun i H' hi hm => SqT.of (hm.1 _ _ (sL _ _ e2))) (fun i x H' hx hm => ?_) (fun H' hm => ?_)
    · obtain ⟨sm, eD⟩ := hm
      obtain ⟨b, e, rfl, gb, ge, hb⟩ := ea.get hx
      refine ⟨rfl, yesIte ?_⟩
      refine ⟨_, rfl, b, e, rfl, (hb.mono (Tups.same sL)).mono (Tups.same sm), g.he e (List.mem_of_getElem? ge), fun H2 s2 => ?_⟩
      refine ⟨_, s2 _ _ eD, ?_, same_mine (sm.trans s2) nD, ?_⟩
      · rw [List.length_map, List.length_map, List.length_take]
        exact small1000 (by omega)
      · rw [upd_same, List.take_add_one, ge]
        show _ = some (HO.lst (((es.take i ++ [e]).map enTx).map V.str))
        rw [List.map_append, List.map_append]
        rfl
    obtain ⟨sm, eD⟩ := hm
    rw [List.length_map, ea.1, List.take_length] at eD
    refine ⟨L, D, _, _, rfl, rfl, sm _ _ eL, eD, ?_, fun R nR => ?_⟩
    · rw [List.length_map, List.length_map, List.length_map]
      exact Nat.le_of_lt (small1000 (by show 1 + es.length ≤ 1000; omega))
    rw [← List.map_append]
    refine ⟨_, R, _, rfl, rfl, .inl (SqL.of upd_same), page_join g, ?_⟩
    exact q _ (same_new (sL.trans sm) nR)
theorem wisp65_tx (W : Wi) (h : W.2.length ≤ 8) : TX (wispD W.1 W.2) := by
  refine .tup (fun x hx => ?_) (by show 2 ≤ 1000; decide)
  simp only [List.mem_cons, List.not_mem_nil, or_false] at hx
  rcases hx with rfl | rfl
  · exact .int _
  · refine .tup (fun y hy => ?_) (by rw [List.length_map]; omega)
    obtain ⟨p, _, rfl⟩ := List.mem_map.mp hy
    refine .tup (fun z hz => ?_) (by show 2 ≤ 1000; decide)
    simp only [List.mem_cons, List.not_mem_nil, or_false] at hz
    rcases hz with rfl | rfl
    · exact .int _
    · exact .int _
/-- an entry and a page, as they are compared -/
def enD : En → PyData
  | .lay z W m => .tuple [.str (Str.ofString "lay"), .str z, wispD W.1 W.2, .int m]
  | .lt z m => .tuple [.str (Str.ofString "let"), .str z, .int m]
  | .snap m l => .tuple [.str (Str.ofString "snap"), .int m, .int l]
def pageD (n v : Int) (es : List En) : PyData := .tuple [.int n, .int v, .tuple (es.map enD)]
theorem en_tx {e : En} (g : GoodEn e) : TX (enD e) := by
  cases e with
  | lay z W m =>
    obtain ⟨g1, g2, g3⟩ := g
    refine .tup (fun x hx => ?_) (by show 4 ≤ 1000; decide)
    simp only [List.mem_cons, List.not_mem_nil, or_false] at hx
    rcases hx with rfl | rfl | rfl | rfl
    · exact .str _ w_lay.plain.sh
    · exact .str _ (Word.name g1).plain.sh
    · exact wisp65_tx W g2.l8
    · exact .int _
  | lt z m =>
    obtain ⟨g1, g3⟩ := g
    refine .tup (fun x hx => ?_) (by show 3 ≤ 1000; decide)
    simp only [List.mem_cons, List.not_mem_nil, or_false] at hx
    rcases hx with rfl | rfl | rfl
    · exact .str _ w_let.plain.sh
    · exact .str _ (Word.name g1).plain.sh
    · exact .int _
  | snap m l =>
    refine .tup (fun x hx => ?_) (by show 3 ≤ 1000; decide)
    simp only [List.mem_cons, List.not_mem_nil, or_false] at hx
    rcases hx with rfl | rfl | rfl
    · exact .str _ w_snap.plain.sh
    · exact .int _
    · exact .int _
theorem page_tx {n v : Int} {es : List En} (g : GoodPg n v es) : TX (pageD n v es) := by
  refine .tup (fun x hx => ?_) (by show 3 ≤ 1000; decide)
  simp only [List.mem_cons, List.not_mem_nil, or_false] at hx
  rcases hx with rfl | rfl | rfl
  · exact .int _
  · exact .int _
  · refine .tup (fun y hy => ?_) (by rw [List.length_map]; have := g.few; omega)
    obtain ⟨e, he, rfl⟩ := List.mem_map.mp hy
    exact en_tx (g.he e he)
theorem en_dep (e : En) : (enD e).depth ≤ 4 := by
  cases e with
  | lay z W m =>
    have := wisp65_dep W
    show max 0 (max 0 (max (wispD W.1 W.2).depth (max 0 0))) + 1 ≤ 4
    omega
  | lt z m => exact (by decide : 1 ≤ 4)
  | snap m l => exact (by decide : 1 ≤ 4)
theorem page_dep (n v : Int) (es : List En) : (pageD n v es).depth < 7 := by
  have h := depth_all (n := 4) (xs := es.map enD) fun x hx => by
    obtain ⟨e, _, rfl⟩ := List.mem_map.mp hx
    exact en_dep e
  show max 0 (max 0 (max (PyData.depthAll (es.map enD) + 1) 0)) + 1 < 7
  omega
theorem EnAt.dp {H : Hp} {a : Addr} {e : En} (h : EnAt H a e) : Dp K H (.ref a) (enD e) := by
  cases e with
  | lay z W m =>
    obtain ⟨wa, h1, h2⟩ := h
    exact .tup (SqT.of h1) (.cons (.str _) (.cons (.str _) (.cons h2.dp (.cons (.int _) .nil))))
  | lt z m => exact .tup (SqT.of h) (.cons (.str _) (.cons (.str _) (.cons (.int _) .nil)))
  | snap m l => exact .tup (SqT.of h) (.cons (.str _) (.cons (.int _) (.cons (.int _) .nil)))
theorem ens_dp {H : Hp} : ∀ {as : List Addr} {es : List En}, Each (EnAt H) as es → DpAll K H (as.map V.ref) (es.map enD)
  | [], [], _ => .nil
  | [], e :: r, h => absurd h.1 (by simp)
  | a :: r, [], h => absurd h.1 (by simp)
  | a :: as, e :: es, h => .cons (h.2 0 a e rfl rfl).dp (ens_dp ⟨Nat.succ.inj (by simpa using h.1), fun i b x hb hx => h.2 (i + 1) b x hb hx⟩)
theorem PageAt.dp {H : Hp} {a : Addr} {n v : Int} {es : List En} (h : PageAt H a n v es) : Dp K H (.ref a) (pageD n v es) := by
  obtain ⟨t, as, h1, h2, h3⟩ := h
  exact .tup (SqT.of h1) (.cons (.int _) (.cons (.int _) (.cons (.tup (SqT.of h2) (ens_dp h3)) .nil)))
theorem ok_law {fP fG fT fS fW fR f : Addr} {fdP fdG fdT fdS fdW fdR fd : FuncData} (F : Fun K "law" "law" s_law f fd) (bi : Bi mg) (C__law_pot : Cal P w K mg base "_law_pot" P__law_pot 1 (spPot K) fP fdP) (C__law_page : Cal P w K mg base "_law_page" P__law_page 7 spPage65 fG fdG)
    (C__law_page_text : CalG P w K mg base "_law_page_text" P__law_page_text 3 spShowP fT fdT) (C__law_same : Cal P w K mg base "_law_same" P__law_same 8 (spSame64 K 7) fS fdS) (C_show_page : Cal P w K mg base "show_page" P_show_page 3 spShowP fW fdW) (C_read_page : Cal P w K mg base "read_page" P_read_page 7 spReadP fR fdR) : FnG P w K mg base 9 f fd P_law (spLaw K) := by
  refine okG F sc_law (fun vs H Q E h => ?_) (fun cdv A outer s H vs Q E hr gd h => ?_)
  · obtain ⟨a, ns, rfl, _⟩ := h
    rfl
  · obtain ⟨a, ns, rfl, hS, hn, q⟩ := h
    refine ⟨_, (pss_cons (ps_set (i := 1) sc_law.nd rfl (.inl rfl) (pe_call (C__law_pot.G.mono (by decide)) hr (by rfl) C__law_pot.g C__law_pot.kp C__law_pot.b .nil pass0 (pa_cons (pv 0) pa_nil)))
    (pss_cons (ps_for PassesOwn.never rfl (pi_range1 rfl bi.m_range (pa_cons (pe_callB (call_max2 rfl) (by rfl) bi.m_max (by decide +kernel) (pa_cons pe_int (pa_cons (pe_callB (call_min2 rfl) (by rfl) bi.m_min (by decide +kernel) (pa_cons pe_int (pa_cons (pe_op op_fdiv (pe_callB call_len_seq (by rfl) bi.m_len (by decide +kernel) (pa_cons (pv 0) pa_nil)) pe_int) pa_nil))) pa_nil))) pa_nil)) (pg_name (i := 2) sc_law.nd rfl (.inl rfl))
      (pss_cons (ps_set (i := 3) sc_law.nd rfl (.inl rfl) (pe_lst (pa_cons (pe_call (C__law_page.G.mono (by decide)) hr (by rfl) C__law_page.g C__law_page.kp C__law_page.b .nil pass0 (pa_cons (pv 1) pa_nil)) (pa_cons (pe_call (C__law_page.G.mono (by decide)) hr (by rfl) C__law_page.g C__law_page.kp C__law_page.b .nil pass0 (pa_cons (pv 1) pa_nil)) pa_nil))))
        (pss_one (ps_for PassesOwn.never rfl (pi_list (pv 3)) (pg_name (i := 4) sc_law.nd rfl (.inl rfl))
          (pss_cons (ps_set (i := 5) sc_law.nd rfl (.inl rfl) (pe_callG (C__law_page_text.G.up (by decide)) hr gd (by rfl) C__law_page_text.g C__law_page_text.kp C__law_page_text.b (pa_cons (pv 4) pa_nil)))
            (pss_one (ps_if (pw_or (pt_not (pt_val (pe_call (C__law_same.G.mono (by decide)) hr (by rfl) C__law_same.g C__law_same.kp C__law_same.b .nil pass0 (pa_cons (pe_call (C_show_page.G.mono (by decide)) hr (by rfl) C_show_page.g C_show_page.kp C_show_page.b .nil pass0 (pa_cons (pv 4) pa_nil)) (pa_cons (pv 5) pa_nil))))) (pw_or1 (pt_not (pt_val (pe_call (C__law_same.G.mono (by decide)) hr (by rfl) C__law_same.g C__law_same.kp C__law_same.b .nil pass0 (pa_cons (pe_call (C_read_page.G.mono (by decide)) hr (by rfl) C_read_page.g C_read_page.kp C_read_page.b .nil pass0 (pa_cons (pv 5) pa_nil)) (pa_cons (pv 4) pa_nil))))))).pt
              (pss_one (ps_ret pe_bl))
              pss_nil)))))))
    (pss_one (ps_ret pe_bl)))), ?_⟩
    refine ⟨_, rfl, a, ns, rfl, hS, hn, fun H1 p l s1 np nl hp => ?_⟩
    refine ⟨_, rfl, a, _, rfl, .inl (s1.seq hS), _, _, rfl, rfl, ⟨by decide, by decide⟩, _, _, rfl, _, _, rfl, _, rfl, ?_, ?_, ?_⟩
    · rw [List.length_map]
      split <;> split <;> omega
    · rw [List.length_map]
      split <;> split <;> omega
    generalize hN : Int.toNat _ = N
    have hN8 : N ≤ 6 := by
      rw [← hN, List.length_map]
      split <;> split <;> omega
    clear hN
    refine for_range (n := N) (fun i σ' H' => ∃ (x2 x3 x4 x5 : Option V), σ' = [some (.ref a), some (.ref p), x2, x3, x4, x5] ∧ Pot H' p l (0 + 20000 * i)) ⟨_, _, _, _, rfl, hp.mono (by omega)⟩ (fun i σ' H' hi hm => ?_) (fun σ' H' hm => ?_)
    · obtain ⟨x2, x3, x4, x5, rfl, hpi⟩ := hm
      refine ⟨_, rfl, p, l, _, rfl, hpi, by omega, fun H7 a1 n1 v1 es1 g1 pg1 hp7 k7 => ?_⟩
      refine ⟨_, rfl, p, l, _, rfl, hp7, by omega, fun H8 a2 n2 v2 es2 g2 pg2 hp8 k8 => ?_⟩
      refine ⟨(by show 2 ≤ sizeLine; decide), fun S nS => ?_⟩
      have tS := Tups.new (o := .lst [.ref a1, .ref a2]) nS
      have eS : upd H8 S (.lst [.ref a1, .ref a2]) S = some (.lst [.ref a1, .ref a2]) := upd_same
      have hp9 := hp8.new (o := .lst [.ref a1, .ref a2]) nS
      have pg1' := (pg1.mono (k8.tups hp7)).mono tS
      have pg2' := pg2.mono tS
      generalize upd H8 S (.lst [.ref a1, .ref a2]) = H9 at hp9 pg1' pg2' eS
      refine ⟨_, rfl, S, rfl, ⟨_, SqL.of eS⟩, for_list (xs := [.ref a1, .ref a2]) (fun j σ' H3 => ∃ (x4 x5 : Option V), σ' = [some (.ref a), some (.ref p), some (.int (0 + i)), some (.ref S), x4, x5] ∧ Same H9 H3) ⟨_, _, rfl, Same.refl _⟩ (fun j σ' H3 hj hm => ?_) (fun j x σ' H3 hx hm => ?_) (fun σ' H3 hm => ?_)⟩
      · obtain ⟨x4, x5, rfl, s3⟩ := hm
        exact SqL.of (s3 _ _ eS)
      · obtain ⟨x4, x5, rfl, s3⟩ := hm
        obtain ⟨b, n, v, es, rfl, g, pg⟩ : ∃ b n v es, x = .ref b ∧ GoodPg n v es ∧ PageAt H9 b n v es := by
          rcases j with _ | _ | j
          · obtain rfl := Option.some.inj hx
            exact ⟨_, _, _, _, rfl, g1, pg1'⟩
          · obtain rfl := Option.some.inj hx
            exact ⟨_, _, _, _, rfl, g2, pg2'⟩
          · exact absurd hx (by simp)
        have pg3 := pg.mono (Tups.same s3)
        refine ⟨_, rfl, b, n, v, es, rfl, pg3, g, fun H4 s4 => ?_⟩
        have s34 := s3.trans s4
        refine ⟨_, rfl, b, n, v, es, rfl, pg.mono (Tups.same s34), g, fun H5 s5 => ?_⟩
        have s35 := s34.trans s5
        refine ⟨_, rfl, _, _, .str (pageTx n v es), rfl, .str _ g.plain.sh, by show 0 < 7; decide, .str _, .str _, fun H6 s6 => ⟨_, rfl, ?_⟩⟩
        have s36 := s35.trans s6
        refine iteNT ?_
        refine ⟨_, rfl, n, v, es, rfl, g, fun HA c sA hc => ?_⟩
        have s3A := s36.trans sA
        refine ⟨_, rfl, _, _, pageD n v es, rfl, page_tx g, page_dep n v es, hc.dp, (pg.mono (Tups.same s3A)).dp, fun HB sB => ⟨_, rfl, ?_⟩⟩
        exact iteNT ⟨_, _, rfl, s3A.trans sB⟩
      · obtain ⟨x4, x5, rfl, s3⟩ := hm
        exact ⟨_, _, _, _, rfl, (hp9.same s3).mono (by omega)⟩
    · exact q _
end
/-! ### the end of a law whose def is such a one -/
theorem lawG {P : Program} {w : World} {K : PySem.W.Frag} {mg mb : Str → Option Value} {k : Nat} {fa a : Addr} {fd : FuncData} {x : Str} {sp : Sp} {t : Shared} {ws : List Value} {ns : List Int} (kin : K.In t.heap) (gl : t.heap.Ns mainGlobals mg) (bl : t.heap.Ns builtinsNs mb)
    (bb : ∀ y : Str, y ≠ "__name__" → mb y = bootBuiltins y) (nol : t.heap.NoLimit) (gn : t.gens = #[]) (ea : t.heap.get? a = some { cls := .type "list", data := .seq ws.toArray }) (ia : IntsAre ws ns) (sz : ns.length ≤ sizeLine) (hr : Room k callerA)
    (F : ∀ bs : Heap, K.In bs → bs.Ns mainGlobals mg → FnG P w K mg bs k fa fd [x] sp) (bd : ∀ (s : Shared) (u : Value), BindsTo s fd ⟨[u], []⟩ [(x, u)]) (hs : ∀ H : Hp, SqL K H a (ns.map V.int) → sp [.ref a] H (fun v _ => v = .bl true) fun _ _ _ => False) :
    codeAny (model P w) callerA (.call (.ref fa) ⟨[.ref a], []⟩) (fun r s' => r = .ok (.ret (.bool true)) ∧ OldK t.heap s'.heap ∧ s'.os = t.os ∧ AllBare s'.gens) t := by
  have va := vals_ints ia
  have key : ∀ H : Hp, Only H → SqL K H a (ns.map V.int) → HOk P w H t.heap → (∀ b, H b ≠ none → b = a) → (H a ≠ none → K.lookup a = none) → codeAny (model P w) callerA (.call (.ref fa) ⟨[.ref a], []⟩)
      (fun r s' => r = .ok (.ret (.bool true)) ∧ OldK t.heap s'.heap ∧ s'.os = t.os ∧ AllBare s'.gens) t := fun H on sq hok only notK => by
    have free : ∀ {b : Addr} {o : Obj} {es : Array DictEntry} {n : Nat}, t.heap.get? b = some o → o.data = .dict es n → H b = none := fun {b o es n} e d => by
      rcases on b with z | ⟨ob, xs, z⟩
      · exact z
      · have e' : b = a := only b (by rw [z]; exact Option.some_ne_none _)
        rw [e', ea] at e
        cases e
        cases (show Data.seq ws.toArray _ = Data.dict es n from d)
    have nsB : ∀ {b : Addr} {m : Str → Option Value}, t.heap.Ns b m → (hidT t.heap H).Ns b m := fun ⟨o, es, n, e, d, r⟩ => ⟨o, es, n, hidT_get e (free e d), d, r⟩
    have kB : K.In (hidT t.heap H) := fun b o e => hidT_get (kin b o e) (by
      rcases on b with z | ⟨ob, xs, z⟩
      · exact z
      · have e' : b = a := only b (by rw [z]; exact Option.some_ne_none _)
        rw [e', notK (by rw [← e', z]; exact Option.some_ne_none _)] at e
        cases e)
    have md : Mod K mg (hidT t.heap H) := ⟨kB, nsB gl, ⟨mb, nsB bl, bb⟩, nol.elim fun mc z => ⟨mc, nsB z.1, z.2⟩⟩
    have e0 : Env0 P w K mg (hidT t.heap H) callerA [] t H := ⟨rfl, md, fun _ _ e => of_hidT e, Nat.le_of_eq (hidT_size _ _), trivial, (fun b hb => by cases hb), hok, .of_eq gn⟩
    refine codeAny_mono ((F _ kB (nsB gl)).goes callerA [] t H _ [.ref a] [.ref a] _ _ hr rfl e0 (bd t (.ref a)) (.cons rfl .nil) (hs H sq)) fun r s' h => ?_
    match r, h with
    | .error _, h => exact False.elim h
    | .ok .next, h => exact False.elim h
    | .ok .brk, h => exact False.elim h
    | .ok .cont, h => exact False.elim h
    | .ok (.ret u), h =>
      obtain ⟨v, H', eos, eb, un, ok', rv, q⟩ := h
      cases (show v = .bl true from q)
      cases (show u = Value.bool true from rv)
      refine ⟨rfl, OldK.of_keep fun b o e => ?_, eos, eb⟩
      rcases on b with z | ⟨ob, xs, z⟩
      · exact un.keep b o e z (fun y => by cases y) (fun y => by cases y)
      · obtain ⟨e1, _⟩ := hok b _ z
        obtain ⟨e2, _⟩ := ok' b _ (un.frzs b ob _ z)
        rw [e] at e1
        cases e1
        exact e2
  cases hk : K.lookup a with
  | some o =>
    have e := kin a o hk
    rw [ea] at e
    cases e
    exact key (fun _ => none) (fun _ => .inl rfl) (.inr ⟨_, ws.toArray, _, hk, rfl, rfl, rfl, (by rw [List.size_toArray, ia.length]; exact sz), by simpa using va⟩) (fun b u z => nomatch (show (none : Option HO) = some u from z)) (fun b z => absurd rfl z) (fun z => absurd rfl z)
  | none =>
    have at_ : ∀ b, (if b = a then some (HO.frz { cls := .type "list", data := .seq ws.toArray } (.lst (ns.map V.int))) else none) ≠ none → b = a := fun b z => by
      by_cases h : b = a
      · exact h
      · exact absurd (if_neg h) z
    refine key (fun b => if b = a then some (.frz { cls := .type "list", data := .seq ws.toArray } (.lst (ns.map V.int))) else none) (fun b => ?_) (.inl (.inr ⟨_, if_pos rfl⟩)) (fun b u z => ?_) at_ (fun _ => hk)
    · by_cases h : b = a
      · exact .inr ⟨_, _, if_pos h⟩
      · exact .inl (if_neg h)
    · have h : b = a := at_ b (fun y => by rw [show (if b = a then some (HO.frz { cls := .type "list", data := .seq ws.toArray } (.lst (ns.map V.int))) else none) = some u from z] at y; cases y)
      subst h
      have z' := (if_pos rfl).symm.trans z
      cases z'
      exact ⟨ea, by rw [List.length_map]; exact sz, ws, _, va, ea⟩
theorem walkG {l : PySem.W.OpenLaw} {n k : Nat} {q : Program} {loose : List Str} {XP : (Str → Option Value) → Heap → Prop} {YP : World → Heap → Prop} {d : DefRec} {K : Params → PySem.W.Frag} {sp : World → Sp} {x : Str} (hn : l.most = some n) (h2 : n ≤ sizeLine) (hd : d.params.defaults = []) (hr : Room k callerA)
    (hY : ∀ (w : World) (h : Heap), YP w h → (K w.params).In h) (F : ∀ (w : World) (mg : Str → Option Value) (fa : Addr) (h : Heap), (K w.params).In h → h.Ns mainGlobals mg → mg d.name = some (.ref fa) → ∃ fd : FuncData, (∀ (s : Shared) (u : Value), BindsTo s fd ⟨[u], []⟩ [(x, u)]) ∧
      ∀ bs : Heap, (K w.params).In bs → bs.Ns mainGlobals mg → FnG l.prog w (K w.params) mg bs k fa fd [x] (sp w)) (hs : ∀ (w : World) (H : Hp) (a : Addr) (ns : List Int), ns.length ≤ n → SqL (K w.params) H a (ns.map V.int) → sp w [.ref a] H (fun v _ => v = .bl true) fun _ _ _ => False) :
    PySem.W.WalkO q loose XP YP l.row.toRowW d [] (fun f vs => PySem.call f vs) := Att.attach_call hn hd fun w s t mg mb fa o pm cd dc a ws ns G Y ho hdt hcd hmg eo ia hl hg => by
  obtain ⟨fd, bd, hF⟩ := F w mg fa _ (hY w _ Y) G.T.g hmg
  exact lawG (hY w _ Y) G.T.g G.T.b G.T.builtins G.T.nolimit hg eo ia (Nat.le_trans hl h2) hr hF bd fun H sq => hs w H a ns hl sq
theorem all_mk {l : PySem.W.OpenLaw} {w : World} {K : PySem.W.Frag} {h : Heap} {mg : Str → Option Value} {fa f1 f2 f3 f4 f5 f6 f7 f8 f9 f10 f11 f12 f13 f14 f15 f16 f17 f18 f19 f20 f21 f22 f23 f24 f25 f26 f27 f28 f29 f30 f31 f32 f33 : Addr} {tk_MOST_STEPS tk_FIGURES tk_MOST_FIGURES tk_LETTERS tk_MOST_LETTERS tk_MOST_ENTRIES : Tok} (X : K.In h) (G : h.Ns mainGlobals mg) (hfa : mg "law" = some (.ref fa))
    {od1 an1 od2 an2 od3 an3 od4 an4 od5 an5 od6 an6 od7 an7 od8 an8 od9 an9 od10 an10 od11 an11 od12 an12 od13 an13 od14 an14 od15 an15 od16 an16 od17 an17 od18 an18 od19 an19 od20 an20 od21 an21 od22 an22 od23 an23 od24 an24 od25 an25 od26 an26 od27 an27 od28 an28 od29 an29 od30 an30 od31 an31 od32 an32 od33 an33 : Option Addr} {sl1 sl2 sl3 sl4 sl5 sl6 sl7 sl8 sl9 sl10 sl11 sl12 sl13 sl14 sl15 sl16 sl17 sl18 sl19 sl20 sl21 sl22 sl23 sl24 sl25 sl26 sl27 sl28 sl29 sl30 sl31 sl32 sl33 : Array (Option Value)} {oc1 kV1 dc1 pm1 cd1 ct1 oc2 kV2 dc2 pm2 cd2 ct2 oc3 kV3 dc3 pm3 cd3 ct3 oc4 kV4 dc4 pm4 cd4 ct4 oc5 kV5 dc5 pm5 cd5 ct5 oc6 kV6 dc6 pm6 cd6 ct6 oc7 kV7 dc7 pm7 cd7 ct7 oc8 kV8 dc8 pm8 cd8 ct8 oc9 kV9 dc9 pm9 cd9 ct9 oc10 kV10 dc10 pm10 cd10 ct10 oc11 kV11 dc11 pm11 cd11 ct11 oc12 kV12 dc12 pm12 cd12 ct12 oc13 kV13 dc13 pm13 cd13 ct13 oc14 kV14 dc14 pm14 cd14 ct14 oc15 kV15 dc15 pm15 cd15 ct15 oc16 kV16 dc16 pm16 cd16 ct16 oc17 kV17 dc17 pm17 cd17 ct17 oc18 kV18 dc18 pm18 cd18 ct18 oc19 kV19 dc19 pm19 cd19 ct19 oc20 kV20 dc20 pm20 cd20 ct20 oc21 kV21 dc21 pm21 cd21 ct21 oc22 kV22 dc22 pm22 cd22 ct22 oc23 kV23 dc23 pm23 cd23 ct23 oc24 kV24 dc24 pm24 cd24 ct24 oc25 kV25 dc25 pm25 cd25 ct25 oc26 kV26 dc26 pm26 cd26 ct26 oc27 kV27 dc27 pm27 cd27 ct27 oc28 kV28 dc28 pm28 cd28 ct28 oc29 kV29 dc29 pm29 cd29 ct29 oc30 kV30 dc30 pm30 cd30 ct30 oc31 kV31 dc31 pm31 cd31 ct31 oc32 kV32 dc32 pm32 cd32 ct32 oc33 kV33 dc33 pm33 cd33 ct33 : Value}
    (a1 : PySem.W.nsIn K mainGlobals "show_wisp" = some (some (.ref f1))) (l1 : K.lookup f1 = some ⟨oc1, od1, .func (PySem.W.fnOf "show_wisp" "show_wisp" (defArgs s_show_wisp) (defBody s_show_wisp) (defScope s_show_wisp) .none kV1 dc1 pm1 an1 cd1 ct1), sl1⟩) (c1 : PySem.W.codeIn K cd1 "show_wisp" = true) (k1 : PySem.W.keepIn K (.ref f1) = true)
    (a2 : PySem.W.nsIn K mainGlobals "show_entry" = some (some (.ref f2))) (l2 : K.lookup f2 = some ⟨oc2, od2, .func (PySem.W.fnOf "show_entry" "show_entry" (defArgs s_show_entry) (defBody s_show_entry) (defScope s_show_entry) .none kV2 dc2 pm2 an2 cd2 ct2), sl2⟩) (c2 : PySem.W.codeIn K cd2 "show_entry" = true) (k2 : PySem.W.keepIn K (.ref f2) = true)
    (a3 : PySem.W.nsIn K mainGlobals "show_page" = some (some (.ref f3))) (l3 : K.lookup f3 = some ⟨oc3, od3, .func (PySem.W.fnOf "show_page" "show_page" (defArgs s_show_page) (defBody s_show_page) (defScope s_show_page) .none kV3 dc3 pm3 an3 cd3 ct3), sl3⟩) (c3 : PySem.W.codeIn K cd3 "show_page" = true) (k3 : PySem.W.keepIn K (.ref f3) = true)
    (a4 : PySem.W.nsIn K mainGlobals "is_whole" = some (some (.ref f4))) (l4 : K.lookup f4 = some ⟨oc4, od4, .func (PySem.W.fnOf "is_whole" "is_whole" (defArgs s_is_whole) (defBody s_is_whole) (defScope s_is_whole) .none kV4 dc4 pm4 an4 cd4 ct4), sl4⟩) (c4 : PySem.W.codeIn K cd4 "is_whole" = true) (k4 : PySem.W.keepIn K (.ref f4) = true)
    (a5 : PySem.W.nsIn K mainGlobals "is_tuple" = some (some (.ref f5))) (l5 : K.lookup f5 = some ⟨oc5, od5, .func (PySem.W.fnOf "is_tuple" "is_tuple" (defArgs s_is_tuple) (defBody s_is_tuple) (defScope s_is_tuple) .none kV5 dc5 pm5 an5 cd5 ct5), sl5⟩) (c5 : PySem.W.codeIn K cd5 "is_tuple" = true) (k5 : PySem.W.keepIn K (.ref f5) = true)
    (a6 : PySem.W.nsIn K mainGlobals "is_step" = some (some (.ref f6))) (l6 : K.lookup f6 = some ⟨oc6, od6, .func (PySem.W.fnOf "is_step" "is_step" (defArgs s_is_step) (defBody s_is_step) (defScope s_is_step) .none kV6 dc6 pm6 an6 cd6 ct6), sl6⟩) (c6 : PySem.W.codeIn K cd6 "is_step" = true) (k6 : PySem.W.keepIn K (.ref f6) = true)
    (a7 : PySem.W.nsIn K mainGlobals "are_steps" = some (some (.ref f7))) (l7 : K.lookup f7 = some ⟨oc7, od7, .func (PySem.W.fnOf "are_steps" "are_steps" (defArgs s_are_steps) (defBody s_are_steps) (defScope s_are_steps) .none kV7 dc7 pm7 an7 cd7 ct7), sl7⟩) (c7 : PySem.W.codeIn K cd7 "are_steps" = true) (k7 : PySem.W.keepIn K (.ref f7) = true)
    (a8 : PySem.W.nsIn K mainGlobals "is_wisp" = some (some (.ref f8))) (l8 : K.lookup f8 = some ⟨oc8, od8, .func (PySem.W.fnOf "is_wisp" "is_wisp" (defArgs s_is_wisp) (defBody s_is_wisp) (defScope s_is_wisp) .none kV8 dc8 pm8 an8 cd8 ct8), sl8⟩) (c8 : PySem.W.codeIn K cd8 "is_wisp" = true) (k8 : PySem.W.keepIn K (.ref f8) = true)
    (a9 : PySem.W.nsIn K mainGlobals "is_name" = some (some (.ref f9))) (l9 : K.lookup f9 = some ⟨oc9, od9, .func (PySem.W.fnOf "is_name" "is_name" (defArgs s_is_name) (defBody s_is_name) (defScope s_is_name) .none kV9 dc9 pm9 an9 cd9 ct9), sl9⟩) (c9 : PySem.W.codeIn K cd9 "is_name" = true) (k9 : PySem.W.keepIn K (.ref f9) = true)
    (a10 : PySem.W.nsIn K mainGlobals "is_entry" = some (some (.ref f10))) (l10 : K.lookup f10 = some ⟨oc10, od10, .func (PySem.W.fnOf "is_entry" "is_entry" (defArgs s_is_entry) (defBody s_is_entry) (defScope s_is_entry) .none kV10 dc10 pm10 an10 cd10 ct10), sl10⟩) (c10 : PySem.W.codeIn K cd10 "is_entry" = true) (k10 : PySem.W.keepIn K (.ref f10) = true)
    (a11 : PySem.W.nsIn K mainGlobals "number_of" = some (some (.ref f11))) (l11 : K.lookup f11 = some ⟨oc11, od11, .func (PySem.W.fnOf "number_of" "number_of" (defArgs s_number_of) (defBody s_number_of) (defScope s_number_of) .none kV11 dc11 pm11 an11 cd11 ct11), sl11⟩) (c11 : PySem.W.codeIn K cd11 "number_of" = true) (k11 : PySem.W.keepIn K (.ref f11) = true)
    (a12 : PySem.W.nsIn K mainGlobals "step_of" = some (some (.ref f12))) (l12 : K.lookup f12 = some ⟨oc12, od12, .func (PySem.W.fnOf "step_of" "step_of" (defArgs s_step_of) (defBody s_step_of) (defScope s_step_of) .none kV12 dc12 pm12 an12 cd12 ct12), sl12⟩) (c12 : PySem.W.codeIn K cd12 "step_of" = true) (k12 : PySem.W.keepIn K (.ref f12) = true)
    (a13 : PySem.W.nsIn K mainGlobals "wisp_of" = some (some (.ref f13))) (l13 : K.lookup f13 = some ⟨oc13, od13, .func (PySem.W.fnOf "wisp_of" "wisp_of" (defArgs s_wisp_of) (defBody s_wisp_of) (defScope s_wisp_of) .none kV13 dc13 pm13 an13 cd13 ct13), sl13⟩) (c13 : PySem.W.codeIn K cd13 "wisp_of" = true) (k13 : PySem.W.keepIn K (.ref f13) = true)
    (a14 : PySem.W.nsIn K mainGlobals "title_of" = some (some (.ref f14))) (l14 : K.lookup f14 = some ⟨oc14, od14, .func (PySem.W.fnOf "title_of" "title_of" (defArgs s_title_of) (defBody s_title_of) (defScope s_title_of) .none kV14 dc14 pm14 an14 cd14 ct14), sl14⟩) (c14 : PySem.W.codeIn K cd14 "title_of" = true) (k14 : PySem.W.keepIn K (.ref f14) = true)
    (a15 : PySem.W.nsIn K mainGlobals "entry_of" = some (some (.ref f15))) (l15 : K.lookup f15 = some ⟨oc15, od15, .func (PySem.W.fnOf "entry_of" "entry_of" (defArgs s_entry_of) (defBody s_entry_of) (defScope s_entry_of) .none kV15 dc15 pm15 an15 cd15 ct15), sl15⟩) (c15 : PySem.W.codeIn K cd15 "entry_of" = true) (k15 : PySem.W.keepIn K (.ref f15) = true)
    (a16 : PySem.W.nsIn K mainGlobals "read_page" = some (some (.ref f16))) (l16 : K.lookup f16 = some ⟨oc16, od16, .func (PySem.W.fnOf "read_page" "read_page" (defArgs s_read_page) (defBody s_read_page) (defScope s_read_page) .none kV16 dc16 pm16 an16 cd16 ct16), sl16⟩) (c16 : PySem.W.codeIn K cd16 "read_page" = true) (k16 : PySem.W.keepIn K (.ref f16) = true)
    (a17 : PySem.W.nsIn K mainGlobals "_law_blend" = some (some (.ref f17))) (l17 : K.lookup f17 = some ⟨oc17, od17, .func (PySem.W.fnOf "_law_blend" "_law_blend" (defArgs s__law_blend) (defBody s__law_blend) (defScope s__law_blend) .none kV17 dc17 pm17 an17 cd17 ct17), sl17⟩) (c17 : PySem.W.codeIn K cd17 "_law_blend" = true) (k17 : PySem.W.keepIn K (.ref f17) = true)
    (a18 : PySem.W.nsIn K mainGlobals "_law_pot" = some (some (.ref f18))) (l18 : K.lookup f18 = some ⟨oc18, od18, .func (PySem.W.fnOf "_law_pot" "_law_pot" (defArgs s__law_pot) (defBody s__law_pot) (defScope s__law_pot) .none kV18 dc18 pm18 an18 cd18 ct18), sl18⟩) (c18 : PySem.W.codeIn K cd18 "_law_pot" = true) (k18 : PySem.W.keepIn K (.ref f18) = true)
    (a19 : PySem.W.nsIn K mainGlobals "_law_draw" = some (some (.ref f19))) (l19 : K.lookup f19 = some ⟨oc19, od19, .func (PySem.W.fnOf "_law_draw" "_law_draw" (defArgs s__law_draw) (defBody s__law_draw) (defScope s__law_draw) .none kV19 dc19 pm19 an19 cd19 ct19), sl19⟩) (c19 : PySem.W.codeIn K cd19 "_law_draw" = true) (k19 : PySem.W.keepIn K (.ref f19) = true)
    (a20 : PySem.W.nsIn K mainGlobals "_law_pick" = some (some (.ref f20))) (l20 : K.lookup f20 = some ⟨oc20, od20, .func (PySem.W.fnOf "_law_pick" "_law_pick" (defArgs s__law_pick) (defBody s__law_pick) (defScope s__law_pick) .none kV20 dc20 pm20 an20 cd20 ct20), sl20⟩) (c20 : PySem.W.codeIn K cd20 "_law_pick" = true) (k20 : PySem.W.keepIn K (.ref f20) = true)
    (a21 : PySem.W.nsIn K mainGlobals "_law_great" = some (some (.ref f21))) (l21 : K.lookup f21 = some ⟨oc21, od21, .func (PySem.W.fnOf "_law_great" "_law_great" (defArgs s__law_great) (defBody s__law_great) (defScope s__law_great) .none kV21 dc21 pm21 an21 cd21 ct21), sl21⟩) (c21 : PySem.W.codeIn K cd21 "_law_great" = true) (k21 : PySem.W.keepIn K (.ref f21) = true)
    (a22 : PySem.W.nsIn K mainGlobals "_law_wisp" = some (some (.ref f22))) (l22 : K.lookup f22 = some ⟨oc22, od22, .func (PySem.W.fnOf "_law_wisp" "_law_wisp" (defArgs s__law_wisp) (defBody s__law_wisp) (defScope s__law_wisp) .none kV22 dc22 pm22 an22 cd22 ct22), sl22⟩) (c22 : PySem.W.codeIn K cd22 "_law_wisp" = true) (k22 : PySem.W.keepIn K (.ref f22) = true)
    (a23 : PySem.W.nsIn K mainGlobals "_law_whole" = some (some (.ref f23))) (l23 : K.lookup f23 = some ⟨oc23, od23, .func (PySem.W.fnOf "_law_whole" "_law_whole" (defArgs s__law_whole) (defBody s__law_whole) (defScope s__law_whole) .none kV23 dc23 pm23 an23 cd23 ct23), sl23⟩) (c23 : PySem.W.codeIn K cd23 "_law_whole" = true) (k23 : PySem.W.keepIn K (.ref f23) = true)
    (a24 : PySem.W.nsIn K mainGlobals "_law_same" = some (some (.ref f24))) (l24 : K.lookup f24 = some ⟨oc24, od24, .func (PySem.W.fnOf "_law_same" "_law_same" (defArgs s__law_same) (defBody s__law_same) (defScope s__law_same) .none kV24 dc24 pm24 an24 cd24 ct24), sl24⟩) (c24 : PySem.W.codeIn K cd24 "_law_same" = true) (k24 : PySem.W.keepIn K (.ref f24) = true)
    (a25 : PySem.W.nsIn K mainGlobals "_law_far_wisp" = some (some (.ref f25))) (l25 : K.lookup f25 = some ⟨oc25, od25, .func (PySem.W.fnOf "_law_far_wisp" "_law_far_wisp" (defArgs s__law_far_wisp) (defBody s__law_far_wisp) (defScope s__law_far_wisp) .none kV25 dc25 pm25 an25 cd25 ct25), sl25⟩) (c25 : PySem.W.codeIn K cd25 "_law_far_wisp" = true) (k25 : PySem.W.keepIn K (.ref f25) = true)
    (a26 : PySem.W.nsIn K mainGlobals "_law_wisp_text" = some (some (.ref f26))) (l26 : K.lookup f26 = some ⟨oc26, od26, .func (PySem.W.fnOf "_law_wisp_text" "_law_wisp_text" (defArgs s__law_wisp_text) (defBody s__law_wisp_text) (defScope s__law_wisp_text) .none kV26 dc26 pm26 an26 cd26 ct26), sl26⟩) (c26 : PySem.W.codeIn K cd26 "_law_wisp_text" = true) (k26 : PySem.W.keepIn K (.ref f26) = true)
    (a27 : PySem.W.nsIn K mainGlobals "_law_name" = some (some (.ref f27))) (l27 : K.lookup f27 = some ⟨oc27, od27, .func (PySem.W.fnOf "_law_name" "_law_name" (defArgs s__law_name) (defBody s__law_name) (defScope s__law_name) .none kV27 dc27 pm27 an27 cd27 ct27), sl27⟩) (c27 : PySem.W.codeIn K cd27 "_law_name" = true) (k27 : PySem.W.keepIn K (.ref f27) = true)
    (a28 : PySem.W.nsIn K mainGlobals "_law_number_any" = some (some (.ref f28))) (l28 : K.lookup f28 = some ⟨oc28, od28, .func (PySem.W.fnOf "_law_number_any" "_law_number_any" (defArgs s__law_number_any) (defBody s__law_number_any) (defScope s__law_number_any) .none kV28 dc28 pm28 an28 cd28 ct28), sl28⟩) (c28 : PySem.W.codeIn K cd28 "_law_number_any" = true) (k28 : PySem.W.keepIn K (.ref f28) = true)
    (a29 : PySem.W.nsIn K mainGlobals "_law_entry" = some (some (.ref f29))) (l29 : K.lookup f29 = some ⟨oc29, od29, .func (PySem.W.fnOf "_law_entry" "_law_entry" (defArgs s__law_entry) (defBody s__law_entry) (defScope s__law_entry) .none kV29 dc29 pm29 an29 cd29 ct29), sl29⟩) (c29 : PySem.W.codeIn K cd29 "_law_entry" = true) (k29 : PySem.W.keepIn K (.ref f29) = true)
    (a30 : PySem.W.nsIn K mainGlobals "_law_page" = some (some (.ref f30))) (l30 : K.lookup f30 = some ⟨oc30, od30, .func (PySem.W.fnOf "_law_page" "_law_page" (defArgs s__law_page) (defBody s__law_page) (defScope s__law_page) .none kV30 dc30 pm30 an30 cd30 ct30), sl30⟩) (c30 : PySem.W.codeIn K cd30 "_law_page" = true) (k30 : PySem.W.keepIn K (.ref f30) = true)
    (a31 : PySem.W.nsIn K mainGlobals "_law_entry_text" = some (some (.ref f31))) (l31 : K.lookup f31 = some ⟨oc31, od31, .func (PySem.W.fnOf "_law_entry_text" "_law_entry_text" (defArgs s__law_entry_text) (defBody s__law_entry_text) (defScope s__law_entry_text) .none kV31 dc31 pm31 an31 cd31 ct31), sl31⟩) (c31 : PySem.W.codeIn K cd31 "_law_entry_text" = true) (k31 : PySem.W.keepIn K (.ref f31) = true)
    (a32 : PySem.W.nsIn K mainGlobals "_law_page_text" = some (some (.ref f32))) (l32 : K.lookup f32 = some ⟨oc32, od32, .func (PySem.W.fnOf "_law_page_text" "_law_page_text" (defArgs s__law_page_text) (defBody s__law_page_text) (defScope s__law_page_text) .none kV32 dc32 pm32 an32 cd32 ct32), sl32⟩) (c32 : PySem.W.codeIn K cd32 "_law_page_text" = true) (k32 : PySem.W.keepIn K (.ref f32) = true)
    (a33 : PySem.W.nsIn K mainGlobals "law" = some (some (.ref f33))) (l33 : K.lookup f33 = some ⟨oc33, od33, .func (PySem.W.fnOf "law" "law" (defArgs s_law) (defBody s_law) (defScope s_law) .none kV33 dc33 pm33 an33 cd33 ct33), sl33⟩) (c33 : PySem.W.codeIn K cd33 "law" = true) (k33 : PySem.W.keepIn K (.ref f33) = true)
    (z1 : PySem.W.nsIn K mainGlobals "len" = some none)
    (z2 : PySem.W.nsIn K mainGlobals "sum" = some none)
    (z3 : PySem.W.nsIn K mainGlobals "abs" = some none)
    (z4 : PySem.W.nsIn K mainGlobals "isinstance" = some none)
    (z5 : PySem.W.nsIn K mainGlobals "max" = some none)
    (z6 : PySem.W.nsIn K mainGlobals "min" = some none)
    (z7 : PySem.W.nsIn K mainGlobals "tuple" = some none)
    (z8 : PySem.W.nsIn K mainGlobals "list" = some none)
    (z9 : PySem.W.nsIn K mainGlobals "int" = some none)
    (z10 : PySem.W.nsIn K mainGlobals "bool" = some none)
    (z11 : PySem.W.nsIn K mainGlobals "range" = some none)
    (z12 : PySem.W.nsIn K mainGlobals "enumerate" = some none)
    (z13 : PySem.W.nsIn K mainGlobals "zip" = some none)
    (z14 : PySem.W.nsIn K mainGlobals "repr" = some none)
    (z15 : PySem.W.nsIn K mainGlobals "str" = some none)
    (z16 : PySem.W.nsIn K mainGlobals "sorted" = some none)
    (z17 : PySem.W.nsIn K mainGlobals "set" = some none)
    (z18 : PySem.W.nsIn K mainGlobals "all" = some none)
    (z19 : PySem.W.nsIn K mainGlobals "any" = some none)
    (z20 : PySem.W.nsIn K mainGlobals "dict" = some none)
    (q_MOST_STEPS : PySem.W.nsIn K mainGlobals "MOST_STEPS" = some (some (.int 8 tk_MOST_STEPS)))
    (q_FIGURES : PySem.W.nsIn K mainGlobals "FIGURES" = some (some (.str "0123456789" tk_FIGURES)))
    (q_MOST_FIGURES : PySem.W.nsIn K mainGlobals "MOST_FIGURES" = some (some (.int 40 tk_MOST_FIGURES)))
    (q_LETTERS : PySem.W.nsIn K mainGlobals "LETTERS" = some (some (.str "abcdefghijklmnopqrstuvwxyz" tk_LETTERS)))
    (q_MOST_LETTERS : PySem.W.nsIn K mainGlobals "MOST_LETTERS" = some (some (.int 8 tk_MOST_LETTERS)))
    (q_MOST_ENTRIES : PySem.W.nsIn K mainGlobals "MOST_ENTRIES" = some (some (.int 20 tk_MOST_ENTRIES))) :
    ∃ fd : FuncData, (∀ (s : Shared) (v : Value), BindsTo s fd ⟨[v], []⟩ [("_law_script", v)]) ∧ ∀ base : Heap, K.In base → base.Ns mainGlobals mg → FnG l.prog w K mg base 9 fa fd P_law (spLaw K) := by
  have e := hfa.symm.trans (PySem.W.mg_of X G a33)
  cases e
  have g_MOST_STEPS := PySem.W.mg_of X G q_MOST_STEPS
  have g_FIGURES := PySem.W.mg_of X G q_FIGURES
  have g_MOST_FIGURES := PySem.W.mg_of X G q_MOST_FIGURES
  have g_LETTERS := PySem.W.mg_of X G q_LETTERS
  have g_MOST_LETTERS := PySem.W.mg_of X G q_MOST_LETTERS
  have g_MOST_ENTRIES := PySem.W.mg_of X G q_MOST_ENTRIES
  have F1 := fun_mk (st := s_show_wisp) l1 c1 k1
  have F2 := fun_mk (st := s_show_entry) l2 c2 k2
  have F3 := fun_mk (st := s_show_page) l3 c3 k3
  have F4 := fun_mk (st := s_is_whole) l4 c4 k4
  have F5 := fun_mk (st := s_is_tuple) l5 c5 k5
  have F6 := fun_mk (st := s_is_step) l6 c6 k6
  have F7 := fun_mk (st := s_are_steps) l7 c7 k7
  have F8 := fun_mk (st := s_is_wisp) l8 c8 k8
  have F9 := fun_mk (st := s_is_name) l9 c9 k9
  have F10 := fun_mk (st := s_is_entry) l10 c10 k10
  have F11 := fun_mk (st := s_number_of) l11 c11 k11
  have F12 := fun_mk (st := s_step_of) l12 c12 k12
  have F13 := fun_mk (st := s_wisp_of) l13 c13 k13
  have F14 := fun_mk (st := s_title_of) l14 c14 k14
  have F15 := fun_mk (st := s_entry_of) l15 c15 k15
  have F16 := fun_mk (st := s_read_page) l16 c16 k16
  have F17 := fun_mk (st := s__law_blend) l17 c17 k17
  have F18 := fun_mk (st := s__law_pot) l18 c18 k18
  have F19 := fun_mk (st := s__law_draw) l19 c19 k19
  have F20 := fun_mk (st := s__law_pick) l20 c20 k20
  have F21 := fun_mk (st := s__law_great) l21 c21 k21
  have F22 := fun_mk (st := s__law_wisp) l22 c22 k22
  have F23 := fun_mk (st := s__law_whole) l23 c23 k23
  have F24 := fun_mk (st := s__law_same) l24 c24 k24
  have F25 := fun_mk (st := s__law_far_wisp) l25 c25 k25
  have F26 := fun_mk (st := s__law_wisp_text) l26 c26 k26
  have F27 := fun_mk (st := s__law_name) l27 c27 k27
  have F28 := fun_mk (st := s__law_number_any) l28 c28 k28
  have F29 := fun_mk (st := s__law_entry) l29 c29 k29
  have F30 := fun_mk (st := s__law_page) l30 c30 k30
  have F31 := fun_mk (st := s__law_entry_text) l31 c31 k31
  have F32 := fun_mk (st := s__law_page_text) l32 c32 k32
  have F33 := fun_mk (st := s_law) l33 c33 k33
  have bi : Bi mg := ⟨PySem.W.mg_none_of X G z1, PySem.W.mg_none_of X G z2, PySem.W.mg_none_of X G z3, PySem.W.mg_none_of X G z4, PySem.W.mg_none_of X G z5, PySem.W.mg_none_of X G z6, PySem.W.mg_none_of X G z7, PySem.W.mg_none_of X G z8, PySem.W.mg_none_of X G z9, PySem.W.mg_none_of X G z10, PySem.W.mg_none_of X G z11, PySem.W.mg_none_of X G z12, PySem.W.mg_none_of X G z13, PySem.W.mg_none_of X G z14, PySem.W.mg_none_of X G z15, PySem.W.mg_none_of X G z16, PySem.W.mg_none_of X G z17, PySem.W.mg_none_of X G z18, PySem.W.mg_none_of X G z19, PySem.W.mg_none_of X G z20⟩
  refine ⟨PySem.W.fnOf "law" "law" (defArgs s_law) (defBody s_law) (defScope s_law) .none kV33 dc33 pm33 an33 cd33 ct33, fun s v => .of_eq rfl, fun base _ _ => ?_⟩
  have C_show_wisp : Cal l.prog w K mg base "show_wisp" P_show_wisp 1 spShowW f1 _ := ⟨ok_show_wisp F1 bi, PySem.W.mg_of X G a1, F1.kp, F1.binds (ps := P_show_wisp) fun _ _ _ _ _ _ us hl => match us, hl with | [_], _ => rfl⟩
  have C_show_entry : Cal l.prog w K mg base "show_entry" P_show_entry 2 spShowE f2 _ := ⟨ok_show_entry F2 bi C_show_wisp, PySem.W.mg_of X G a2, F2.kp, F2.binds (ps := P_show_entry) fun _ _ _ _ _ _ us hl => match us, hl with | [_], _ => rfl⟩
  have C_show_page : Cal l.prog w K mg base "show_page" P_show_page 3 spShowP f3 _ := ⟨ok_show_page F3 bi C_show_entry, PySem.W.mg_of X G a3, F3.kp, F3.binds (ps := P_show_page) fun _ _ _ _ _ _ us hl => match us, hl with | [_], _ => rfl⟩
  have C_is_whole : Cal l.prog w K mg base "is_whole" P_is_whole 1 spWholeT f4 _ := ⟨ok_is_whole F4 bi, PySem.W.mg_of X G a4, F4.kp, F4.binds (ps := P_is_whole) fun _ _ _ _ _ _ us hl => match us, hl with | [_, _], _ => rfl⟩
  have C_is_tuple : Cal l.prog w K mg base "is_tuple" P_is_tuple 1 spTupleT f5 _ := ⟨ok_is_tuple F5 bi, PySem.W.mg_of X G a5, F5.kp, F5.binds (ps := P_is_tuple) fun _ _ _ _ _ _ us hl => match us, hl with | [_, _, _], _ => rfl⟩
  have C_is_step : Cal l.prog w K mg base "is_step" P_is_step 2 spStepT f6 _ := ⟨ok_is_step F6 bi C_is_tuple C_is_whole, PySem.W.mg_of X G a6, F6.kp, F6.binds (ps := P_is_step) fun _ _ _ _ _ _ us hl => match us, hl with | [_], _ => rfl⟩
  have C_are_steps : Cal l.prog w K mg base "are_steps" P_are_steps 3 spStepsT f7 _ := ⟨ok_are_steps F7 bi g_MOST_STEPS C_is_tuple C_is_step, PySem.W.mg_of X G a7, F7.kp, F7.binds (ps := P_are_steps) fun _ _ _ _ _ _ us hl => match us, hl with | [_], _ => rfl⟩
  have C_is_wisp : Cal l.prog w K mg base "is_wisp" P_is_wisp 4 spWispT f8 _ := ⟨ok_is_wisp F8 bi C_is_tuple C_is_whole C_are_steps, PySem.W.mg_of X G a8, F8.kp, F8.binds (ps := P_is_wisp) fun _ _ _ _ _ _ us hl => match us, hl with | [_], _ => rfl⟩
  have C_is_name : Cal l.prog w K mg base "is_name" P_is_name 1 spIsName f9 _ := ⟨ok_is_name F9 bi g_LETTERS g_MOST_LETTERS, PySem.W.mg_of X G a9, F9.kp, F9.binds (ps := P_is_name) fun _ _ _ _ _ _ us hl => match us, hl with | [_], _ => rfl⟩
  have C_is_entry : Cal l.prog w K mg base "is_entry" P_is_entry 5 spIsEntry f10 _ := ⟨ok_is_entry F10 bi C_is_tuple C_is_name C_is_wisp C_is_whole, PySem.W.mg_of X G a10, F10.kp, F10.binds (ps := P_is_entry) fun _ _ _ _ _ _ us hl => match us, hl with | [_], _ => rfl⟩
  have C_number_of : Cal l.prog w K mg base "number_of" P_number_of 1 spNumberOf f11 _ := ⟨ok_number_of F11 bi g_FIGURES g_MOST_FIGURES, PySem.W.mg_of X G a11, F11.kp, F11.binds (ps := P_number_of) fun _ _ _ _ _ _ us hl => match us, hl with | [_], _ => rfl⟩
  have C_step_of : Cal l.prog w K mg base "step_of" P_step_of 2 spStepOf f12 _ := ⟨ok_step_of F12 bi C_number_of, PySem.W.mg_of X G a12, F12.kp, F12.binds (ps := P_step_of) fun _ _ _ _ _ _ us hl => match us, hl with | [_], _ => rfl⟩
  have C_wisp_of : Cal l.prog w K mg base "wisp_of" P_wisp_of 5 spWispOf f13 _ := ⟨ok_wisp_of F13 bi C_number_of C_step_of C_is_wisp, PySem.W.mg_of X G a13, F13.kp, F13.binds (ps := P_wisp_of) fun _ _ _ _ _ _ us hl => match us, hl with | [_], _ => rfl⟩
  have C_title_of : Cal l.prog w K mg base "title_of" P_title_of 2 spTitleOf f14 _ := ⟨ok_title_of F14 bi C_number_of, PySem.W.mg_of X G a14, F14.kp, F14.binds (ps := P_title_of) fun _ _ _ _ _ _ us hl => match us, hl with | [_], _ => rfl⟩
  have C_entry_of : Cal l.prog w K mg base "entry_of" P_entry_of 6 spEntryOf f15 _ := ⟨ok_entry_of F15 bi C_wisp_of C_number_of C_is_entry, PySem.W.mg_of X G a15, F15.kp, F15.binds (ps := P_entry_of) fun _ _ _ _ _ _ us hl => match us, hl with | [_], _ => rfl⟩
  have C_read_page : Cal l.prog w K mg base "read_page" P_read_page 7 spReadP f16 _ := ⟨ok_read_page F16 bi g_MOST_ENTRIES C_title_of C_entry_of, PySem.W.mg_of X G a16, F16.kp, F16.binds (ps := P_read_page) fun _ _ _ _ _ _ us hl => match us, hl with | [_], _ => rfl⟩
  have C__law_blend : Cal l.prog w K mg base "_law_blend" P__law_blend 1 spBlend f17 _ := ⟨ok__law_blend F17, PySem.W.mg_of X G a17, F17.kp, F17.binds (ps := P__law_blend) fun _ _ _ _ _ _ us hl => match us, hl with | [_, _], _ => rfl⟩
  have C__law_pot : Cal l.prog w K mg base "_law_pot" P__law_pot 1 (spPot K) f18 _ := ⟨ok__law_pot F18 bi, PySem.W.mg_of X G a18, F18.kp, F18.binds (ps := P__law_pot) fun _ _ _ _ _ _ us hl => match us, hl with | [_], _ => rfl⟩
  have C__law_draw : Cal l.prog w K mg base "_law_draw" P__law_draw 2 spDraw f19 _ := ⟨ok__law_draw F19 bi C__law_blend, PySem.W.mg_of X G a19, F19.kp, F19.binds (ps := P__law_draw) fun _ _ _ _ _ _ us hl => match us, hl with | [_, _], _ => rfl⟩
  have C__law_pick : Cal l.prog w K mg base "_law_pick" P__law_pick 3 spPick65 f20 _ := ⟨ok__law_pick F20 bi C__law_draw, PySem.W.mg_of X G a20, F20.kp, F20.binds (ps := P__law_pick) fun _ _ _ _ _ _ us hl => match us, hl with | [_, _], _ => rfl⟩
  have C__law_great : Cal l.prog w K mg base "_law_great" P__law_great 3 spGreat f21 _ := ⟨ok__law_great F21 bi C__law_draw, PySem.W.mg_of X G a21, F21.kp, F21.binds (ps := P__law_great) fun _ _ _ _ _ _ us hl => match us, hl with | [_], _ => rfl⟩
  have C__law_wisp : Cal l.prog w K mg base "_law_wisp" P__law_wisp 4 spWispP f22 _ := ⟨ok__law_wisp F22 bi C__law_draw C__law_great, PySem.W.mg_of X G a22, F22.kp, F22.binds (ps := P__law_wisp) fun _ _ _ _ _ _ us hl => match us, hl with | [_, _, _], _ => rfl⟩
  have C__law_whole : Cal l.prog w K mg base "_law_whole" P__law_whole 1 spWhole64 f23 _ := ⟨ok__law_whole F23 bi, PySem.W.mg_of X G a23, F23.kp, F23.binds (ps := P__law_whole) fun _ _ _ _ _ _ us hl => match us, hl with | [_], _ => rfl⟩
  have C__law_same : Cal l.prog w K mg base "_law_same" P__law_same 8 (spSame64 K 7) f24 _ := ⟨ok__law_same F24 (PySem.W.mg_of X G a24) (F24.binds (ps := P__law_same) fun _ _ _ _ _ _ us hl => match us, hl with | [_, _], _ => rfl) bi C__law_whole 7, PySem.W.mg_of X G a24, F24.kp, F24.binds (ps := P__law_same) fun _ _ _ _ _ _ us hl => match us, hl with | [_, _], _ => rfl⟩
  have C__law_far_wisp : Cal l.prog w K mg base "_law_far_wisp" P__law_far_wisp 5 spFarW f25 _ := ⟨ok__law_far_wisp F25 bi C__law_wisp C__law_draw C__law_great, PySem.W.mg_of X G a25, F25.kp, F25.binds (ps := P__law_far_wisp) fun _ _ _ _ _ _ us hl => match us, hl with | [_, _], _ => rfl⟩
  have C__law_wisp_text : Cal l.prog w K mg base "_law_wisp_text" P__law_wisp_text 1 spShowW f26 _ := ⟨ok__law_wisp_text F26 bi, PySem.W.mg_of X G a26, F26.kp, F26.binds (ps := P__law_wisp_text) fun _ _ _ _ _ _ us hl => match us, hl with | [_], _ => rfl⟩
  have C__law_name : Cal l.prog w K mg base "_law_name" P__law_name 4 spName65 f27 _ := ⟨ok__law_name F27 bi C__law_pick C__law_draw, PySem.W.mg_of X G a27, F27.kp, F27.binds (ps := P__law_name) fun _ _ _ _ _ _ us hl => match us, hl with | [_], _ => rfl⟩
  have C__law_number_any : Cal l.prog w K mg base "_law_number_any" P__law_number_any 4 spNum65 f28 _ := ⟨ok__law_number_any F28 bi C__law_draw C__law_great, PySem.W.mg_of X G a28, F28.kp, F28.binds (ps := P__law_number_any) fun _ _ _ _ _ _ us hl => match us, hl with | [_], _ => rfl⟩
  have C__law_entry : Cal l.prog w K mg base "_law_entry" P__law_entry 6 spEntry65 f29 _ := ⟨ok__law_entry F29 bi C__law_draw C__law_pick C__law_name C__law_far_wisp C__law_number_any, PySem.W.mg_of X G a29, F29.kp, F29.binds (ps := P__law_entry) fun _ _ _ _ _ _ us hl => match us, hl with | [_, _, _], _ => rfl⟩
  have C__law_page : Cal l.prog w K mg base "_law_page" P__law_page 7 spPage65 f30 _ := ⟨ok__law_page F30 bi C__law_draw C__law_name C__law_entry C__law_number_any, PySem.W.mg_of X G a30, F30.kp, F30.binds (ps := P__law_page) fun _ _ _ _ _ _ us hl => match us, hl with | [_], _ => rfl⟩
  have C__law_entry_text : CalG l.prog w K mg base "_law_entry_text" P__law_entry_text 2 spShowE f31 _ := ⟨ok__law_entry_text F31 bi C__law_wisp_text, PySem.W.mg_of X G a31, F31.kp, F31.binds (ps := P__law_entry_text) fun _ _ _ _ _ _ us hl => match us, hl with | [_], _ => rfl⟩
  have C__law_page_text : CalG l.prog w K mg base "_law_page_text" P__law_page_text 3 spShowP f32 _ := ⟨ok__law_page_text F32 bi C__law_entry_text, PySem.W.mg_of X G a32, F32.kp, F32.binds (ps := P__law_page_text) fun _ _ _ _ _ _ us hl => match us, hl with | [_], _ => rfl⟩
  exact ok_law F33 bi C__law_pot C__law_page C__law_page_text C__law_same C_show_page C_read_page
end My
open PySem PySem.W PyProof.Rows
set_option maxHeartbeats 0 in
theorem PySem.Challenge.cw_evenstrand_k65_pages_as_texts_holds : PySem.Challenge.rw_evenstrand_k65_pages_as_texts.Holds := by
  w_on; o_law; k_head; (case hw => w_witness2)
  k_fill
  refine My.walkG (l := PySem.Challenge.rw_evenstrand_k65_pages_as_texts) (n := 63) (k := 9) (x := "_law_script") (sp := fun w => My.spLaw _) rfl (by decide) rfl ⟨rfl, by decide, by decide⟩ (fun w h Y => PySem.W.kIn_of Y) ?F (fun _ _ a ns hl hS => ⟨a, ns, rfl, hS, hl, fun _ => rfl⟩)
  case F =>
    intro w mg fa h KX G hmg
    refine' My.all_mk KX G hmg ?a1 ?l1 ?c1 ?k1 ?a2 ?l2 ?c2 ?k2 ?a3 ?l3 ?c3 ?k3 ?a4 ?l4 ?c4 ?k4 ?a5 ?l5 ?c5 ?k5 ?a6 ?l6 ?c6 ?k6 ?a7 ?l7 ?c7 ?k7 ?a8 ?l8 ?c8 ?k8 ?a9 ?l9 ?c9 ?k9 ?a10 ?l10 ?c10 ?k10 ?a11 ?l11 ?c11 ?k11 ?a12 ?l12 ?c12 ?k12 ?a13 ?l13 ?c13 ?k13 ?a14 ?l14 ?c14 ?k14 ?a15 ?l15 ?c15 ?k15 ?a16 ?l16 ?c16 ?k16 ?a17 ?l17 ?c17 ?k17 ?a18 ?l18 ?c18 ?k18 ?a19 ?l19 ?c19 ?k19 ?a20 ?l20 ?c20 ?k20 ?a21 ?l21 ?c21 ?k21 ?a22 ?l22 ?c22 ?k22 ?a23 ?l23 ?c23 ?k23 ?a24 ?l24 ?c24 ?k24 ?a25 ?l25 ?c25 ?k25 ?a26 ?l26 ?c26 ?k26 ?a27 ?l27 ?c27 ?k27 ?a28 ?l28 ?c28 ?k28 ?a29 ?l29 ?c29 ?k29 ?a30 ?l30 ?c30 ?k30 ?a31 ?l31 ?c31 ?k31 ?a32 ?l32 ?c32 ?k32 ?a33 ?l33 ?c33 ?k33 ?z1 ?z2 ?z3 ?z4 ?z5 ?z6 ?z7 ?z8 ?z9 ?z10 ?z11 ?z12 ?z13 ?z14 ?z15 ?z16 ?z17 ?z18 ?z19 ?z20 ?q_MOST_STEPS ?q_FIGURES ?q_MOST_FIGURES ?q_LETTERS ?q_MOST_LETTERS ?q_MOST_ENTRIES
    (case a1 => k_is)
    (case l1 => k_is)
    (case c1 => k_is)
    (case k1 => k_is)
    (case a2 => k_is)
    (case l2 => k_is)
    (case c2 => k_is)
    (case k2 => k_is)
    (case a3 => k_is)
    (case l3 => k_is)
    (case c3 => k_is)
    (case k3 => k_is)
    (case a4 => k_is)
    (case l4 => k_is)
    (case c4 => k_is)
    (case k4 => k_is)
    (case a5 => k_is)
    (case l5 => k_is)
    (case c5 => k_is)
    (case k5 => k_is)
    (case a6 => k_is)
    (case l6 => k_is)
    (case c6 => k_is)
    (case k6 => k_is)
    (case a7 => k_is)
    (case l7 => k_is)
    (case c7 => k_is)
    (case k7 => k_is)
    (case a8 => k_is)
    (case l8 => k_is)
    (case c8 => k_is)
    (case k8 => k_is)
    (case a9 => k_is)
    (case l9 => k_is)
    (case c9 => k_is)
    (case k9 => k_is)
    (case a10 => k_is)
    (case l10 => k_is)
    (case c10 => k_is)
    (case k10 => k_is)
    (case a11 => k_is)
    (case l11 => k_is)
    (case c11 => k_is)
    (case k11 => k_is)
    (case a12 => k_is)
    (case l12 => k_is)
    (case c12 => k_is)
    (case k12 => k_is)
    (case a13 => k_is)
    (case l13 => k_is)
    (case c13 => k_is)
    (case k13 => k_is)
    (case a14 => k_is)
    (case l14 => k_is)
    (case c14 => k_is)
    (case k14 => k_is)
    (case a15 => k_is)
    (case l15 => k_is)
    (case c15 => k_is)
    (case k15 => k_is)
    (case a16 => k_is)
    (case l16 => k_is)
    (case c16 => k_is)
    (case k16 => k_is)
    (case a17 => k_is)
    (case l17 => k_is)
    (case c17 => k_is)
    (case k17 => k_is)
    (case a18 => k_is)
    (case l18 => k_is)
    (case c18 => k_is)
    (case k18 => k_is)
    (case a19 => k_is)
    (case l19 => k_is)
    (case c19 => k_is)
    (case k19 => k_is)
    (case a20 => k_is)
    (case l20 => k_is)
    (case c20 => k_is)
    (case k20 => k_is)
    (case a21 => k_is)
    (case l21 => k_is)
    (case c21 => k_is)
    (case k21 => k_is)
    (case a22 => k_is)
    (case l22 => k_is)
    (case c22 => k_is)
    (case k22 => k_is)
    (case a23 => k_is)
    (case l23 => k_is)
    (case c23 => k_is)
    (case k23 => k_is)
    (case a24 => k_is)
    (case l24 => k_is)
    (case c24 => k_is)
    (case k24 => k_is)
    (case a25 => k_is)
    (case l25 => k_is)
    (case c25 => k_is)
    (case k25 => k_is)
    (case a26 => k_is)
    (case l26 => k_is)
    (case c26 => k_is)
    (case k26 => k_is)
    (case a27 => k_is)
    (case l27 => k_is)
    (case c27 => k_is)
    (case k27 => k_is)
    (case a28 => k_is)
    (case l28 => k_is)
    (case c28 => k_is)
    (case k28 => k_is)
    (case a29 => k_is)
    (case l29 => k_is)
    (case c29 => k_is)
    (case k29 => k_is)
    (case a30 => k_is)
    (case l30 => k_is)
    (case c30 => k_is)
    (case k30 => k_is)
    (case a31 => k_is)
    (case l31 => k_is)
    (case c31 => k_is)
    (case k31 => k_is)
    (case a32 => k_is)
    (case l32 => k_is)
    (case c32 => k_is)
    (case k32 => k_is)
    (case a33 => k_is)
    (case l33 => k_is)
    (case c33 => k_is)
    (case k33 => k_is)
    (case z1 => k_is)
    (case z2 => k_is)
    (case z3 => k_is)
    (case z4 => k_is)
    (case z5 => k_is)
    (case z6 => k_is)
    (case z7 => k_is)
    (case z8 => k_is)
    (case z9 => k_is)
    (case z10 => k_is)
    (case z11 => k_is)
    (case z12 => k_is)
    (case z13 => k_is)
    (case z14 => k_is)
    (case z15 => k_is)
    (case z16 => k_is)
    (case z17 => k_is)
    (case z18 => k_is)
    (case z19 => k_is)
    (case z20 => k_is)
    (case q_MOST_STEPS => k_is)
    (case q_FIGURES => k_is)
    (case q_MOST_FIGURES => k_is)
    (case q_LETTERS => k_is)
    (case q_MOST_LETTERS => k_is)
    (case q_MOST_ENTRIES => k_is)
