import PyProof.Rows.All
import Wide.All
import OpenK.AllK
import Wide.FinOn
import HandS.ForMost
import HandS.Wide
import HandS.IsInst
import HandS.More
import HandS.TupAny
import HandS.Codes
import HandS.Zip
import HandS.SortKw
import HandS.Walk
import KE.KMinKey
import PyProof.Rows.NestShow
import PyProof.ReprBulk
import PyProof.FitsInt
import HandS.SortInts
import HandS.Flow
import HandS.SetKeys
import HandS.NoneIn
import HandS.Style
import HandS.SetFor
import HandS.Defaults
import PyProof.LongRange
import PyProof.Rows.SortShellAny
import PyProof.FactsAll.NoneType_2
import KE.DatumOrd
import PyProof.Claim2Refuses
import PyProof.MaxThree
import HandS.Deep
import HandS.TupMul
import PySem.Challenge.RW_evenstrand_k74_whole_small_rows_gone_thr
set_option Elab.async false
set_option linter.all false
set_option maxRecDepth 100000
set_option maxHeartbeats 4000000
namespace My
open PySem PySem.Spec PyProof.Rows L2
/-! ### defs that are called where no object is just being shown: there repr tells all of a thing -/
structure FnG (P : Program) (w : World) (K : PySem.W.Frag) (mg : Str → Option Value) (bs : Heap) (k : Nat) (f : Addr) (fd : FuncData) (ps : List Str) (sp : Sp) : Prop where
  long : ∀ us H Q E, sp us H Q E → us.length = ps.length
  goes : ∀ (B : Around) (ou : List Env) (t : Shared) (H : Hp) (ar : Args) (ws : List Value) (us : List V) (Q : VK) (E : XK), Room k B → B.guards = some [] → Env0 P w K mg bs B ou t H → BindsTo t fd ar (ps.zip ws) →
    Vals us ws → sp us H Q E → codeAny (model P w) B (.call (.ref f) ar) (CR CX0 ou P w H t Q E) t
section
variable {P : Program} {w : World} {K : PySem.W.Frag} {mg : Str → Option Value} {bs : Heap} {f : Addr} {fd : FuncData} {ps : List Str} {sp : Sp}
theorem FnG.up {j k : Nat} (F : FnG P w K mg bs j f fd ps sp) (h : j ≤ k) : FnG P w K mg bs k f fd ps sp := ⟨F.long, fun B ou t H ar ws us Q E r => F.goes B ou t H ar ws us Q E (r.mono h)⟩
theorem FnG.of {k : Nat} (F : FnOk P w K mg bs CX0 k f fd ps sp) : FnG P w K mg bs k f fd ps sp := ⟨F.len, fun B ou t H ar ws us Q E r _ => F.run B ou t H ar ws us Q E r⟩
/-- from the body's walk -/
theorem okG {x qual : Str} {st : Stmt} {N : List Str} {k : Nat} (F : Fun K x qual st f fd) (S : FnScope N ps (defScope st)) (ln : ∀ us H Q E, sp us H Q E → us.length = ps.length)
    (hb : ∀ (cv : Value) (B : Around) (ou : List Env) (t : Shared) (H : Hp) (us : List V) (Q : VK) (E : XK), Room k (B.deeper (envOfC qual (defScope st) t.heap.objs.size f cv)) → (B.deeper (envOfC qual (defScope st) t.heap.objs.size f cv)).guards = some [] → sp us H Q E →
      ∃ u, PSs (cxOf CX0 P w K mg bs N qual (defScope st) f cv B ou t H E).nox (defBody st) u ∧ u { nx := fun _ H' => Q .non H', rt := Q } (start N us) H) : FnG P w K mg bs (k + 1) f fd ps sp := by
  obtain ⟨oc, od, kV, dc, pm, an, cv, ct, sl, rfl, lk, hcv⟩ := F.ex
  refine ⟨ln, fun B ou t H ar ws us Q E r gd e0 bi va hs => ?_⟩
  have kin : K.In t.heap := e0.mod.kin.keeps fun b o e => (e0.bs b o e).1
  have nol : t.heap.NoLimit := e0.mod.nolimit.keeps fun b o e => (e0.bs b o e).1
  refine codeAny_call_function r.depth (kin _ _ lk) rfl S.co S.gen rfl (PySem.W.codeRec_of kin hcv) (bi _ _ _ _ (wpAny_newFunctionEnv_cells S.kind (fun ⟨y, v⟩ hy => ?_) fun en hen t1 z => ?_))
  · rcases S.par y (List.of_mem_zip hy).1 with l | l
    · exact .inl l
    · exact .inr ⟨l, PySem.W.cellsFrom_some _ _ _ (.inl l)⟩
  · subst hen
    refine ⟨nol.keeps z.toInCall.keep, codeAny_func ?_⟩
    obtain ⟨u, hu, hq⟩ := hb cv B ou t H us Q E (r.deeper _) gd hs
    refine wpAny_mono (hu.nox.run [] t1 (start N us) H _ (inv_start S r.hd e0 (ln _ _ _ _ hs) va z) hq) (fun fl t' ht => ?_) fun _ _ ht => ht
    cases fl with
    | ret y =>
      obtain ⟨v, σ', H', J, rv, q⟩ := ht
      exact ⟨v, H', J.os, J.bare, J.base, J.hok, rv, q⟩
    | next =>
      obtain ⟨σ', H', J, q⟩ := ht
      exact ⟨.non, H', J.os, J.bare, J.base, J.hok, rfl, q⟩
    | brk => exact ht.elim fun _ z => z.elim fun _ z => z.2.elim
    | cont => exact ht.elim fun _ z => z.elim fun _ z => z.2.elim
end
section
variable {X : Cx}
theorem pe_callG {k : Nat} {f : Addr} {fd : FuncData} {ps : List Str} {sp : Sp} {x : Str} {p pos : Pos} {e : Expr} {es : List Expr} {t : TA} (F : FnG X.prog X.w X.K X.mg X.base k f fd ps sp) (hr : Room k X.A) (gd : X.A.guards = some []) (hg : Gl X x) (hm : X.mg x = some (.ref f)) (kp : PySem.W.keepIn X.K (.ref f) = true)
    (bd : Binds X.K fd ps []) (ha : PA X (e :: es) t) (hdb : (x == ("__debug__" : Str)) = false := by decide) (hst : starEach (e :: es) X.env = (false, eval e X.env) :: starEach es X.env := by rfl)
    (hpl : (backTo pos (starEach es X.env)).any (·.1) = false := by rfl) : PE X (.Call (.Name x p) (e :: es) [] pos) (tCall sp [] E0 t) := by
  refine ⟨fun pins s σ H Q I h => wpAny_Call_Name_kw (ld_glob I hg hm (PySem.W.callWith_K (h₀ := X.base) I.ok.mod.kin kp (thn (ha.run pos pins s σ H _ I h) fun ws s1 ⟨us, H1, J, va, q⟩ => ⟨J.kIn, ?_⟩) hst hpl) hdb)⟩
  have q : sp (us ++ []) H1 Q E0 := q
  rw [List.append_nil] at q
  have hl : (ws ++ []).length = ps.length := by rw [List.append_nil, ← va.length]; exact F.long _ _ _ _ q
  have bt := bd s1 ws J.kIn hl
  rw [List.append_nil] at bt
  refine wpAny_call (codeAny_mono (F.goes X.A X.stack s1 H1 ⟨ws, []⟩ ws us Q E0 hr gd J.env0 bt va q) fun r s' hq => ?_)
  match r, hq with
  | .ok (.ret _), hq => exact J.after hq
  | .ok .next, hq => exact False.elim hq
  | .ok .brk, hq => exact False.elim hq
  | .ok .cont, hq => exact False.elim hq
  | .error _, hq => exact False.elim hq
/-- repr of a thing made of lists, tuples, texts, numbers, truths and None -/
def rRepr (K : PySem.W.Frag) : List V → Hp → VK → Prop := fun xs H Q => ∃ (a : Addr) (d : PyData), xs = [.ref a] ∧ Dp K H (.ref a) d ∧ d.showable = true ∧ d.hasDict = false ∧ d.depth ≤ 60 ∧ d.shown.length ≤ sizeLine ∧ Q (.str d.shown) H
theorem call_reprD (gd : X.A.guards = some []) (hu : X.A.units + 64 < cLine) : CallR X (.builtin "repr") (rRepr X.K) := by
  intro pins s σ H xs us Q I va h
  obtain ⟨a, d, rfl, dp, h1, h2, h3, h4, q⟩ := h
  rw [Vals.ref1 va]
  obtain ⟨as, rd⟩ := Dp.reads I d (.ref a) (.ref a) dp rfl
  exact repr_of_reads' rd h1 (PyData.noDict_hsm h2) gd (by omega) (fun _ _ e => e) (fun h' u tk hk => ⟨.str _, H, I.kept hk, ⟨_, rfl⟩, q⟩) h4
end
/-! ### the text -/
def topS (i : Nat) : Stmt := PySem.Challenge.pw_evenstrand_k74_whole_small_rows_gone_thr.main.body.getD i (.Pass ⟨0, 0, 0, 0⟩)
abbrev s_is_whole : Stmt := topS 1
abbrev N_is_whole : List Str := ["thing", "least"]
abbrev P_is_whole : List Str := ["thing", "least"]
theorem sc_is_whole : FnScope N_is_whole P_is_whole (defScope s_is_whole) := ⟨rfl, rfl, rfl, by decide +kernel, rfl, by decide +kernel, by decide +kernel⟩
abbrev s_is_tuple : Stmt := topS 2
abbrev N_is_tuple : List Str := ["thing", "fewest", "most"]
abbrev P_is_tuple : List Str := ["thing", "fewest", "most"]
theorem sc_is_tuple : FnScope N_is_tuple P_is_tuple (defScope s_is_tuple) := ⟨rfl, rfl, rfl, by decide +kernel, rfl, by decide +kernel, by decide +kernel⟩
abbrev s_is_step : Stmt := topS 5
abbrev N_is_step : List Str := ["thing"]
abbrev P_is_step : List Str := ["thing"]
theorem sc_is_step : FnScope N_is_step P_is_step (defScope s_is_step) := ⟨rfl, rfl, rfl, by decide +kernel, rfl, by decide +kernel, by decide +kernel⟩
abbrev s_are_steps : Stmt := topS 6
abbrev N_are_steps : List Str := ["thing", "ahead", "step"]
abbrev P_are_steps : List Str := ["thing"]
theorem sc_are_steps : FnScope N_are_steps P_are_steps (defScope s_are_steps) := ⟨rfl, rfl, rfl, by decide +kernel, rfl, by decide +kernel, by decide +kernel⟩
abbrev s_is_wisp : Stmt := topS 7
abbrev N_is_wisp : List Str := ["thing", "sort", "steps"]
abbrev P_is_wisp : List Str := ["thing"]
theorem sc_is_wisp : FnScope N_is_wisp P_is_wisp (defScope s_is_wisp) := ⟨rfl, rfl, rfl, by decide +kernel, rfl, by decide +kernel, by decide +kernel⟩
abbrev s_thick_at : Stmt := topS 8
abbrev N_thick_at : List Str := ["wisp", "k", "thickness", "long"]
abbrev P_thick_at : List Str := ["wisp", "k"]
theorem sc_thick_at : FnScope N_thick_at P_thick_at (defScope s_thick_at) := ⟨rfl, rfl, rfl, by decide +kernel, rfl, by decide +kernel, by decide +kernel⟩
abbrev s_tail : Stmt := topS 9
abbrev N_tail : List Str := ["wisp", "k", "sort", "steps", "kept", "thickness", "long"]
abbrev P_tail : List Str := ["wisp", "k"]
theorem sc_tail : FnScope N_tail P_tail (defScope s_tail) := ⟨rfl, rfl, rfl, by decide +kernel, rfl, by decide +kernel, by decide +kernel⟩
abbrev s_thick_of : Stmt := topS 11
abbrev N_thick_of : List Str := ["laid", "p", "wisp", "at", "let"]
abbrev P_thick_of : List Str := ["laid", "p"]
theorem sc_thick_of : FnScope N_thick_of P_thick_of (defScope s_thick_of) := ⟨rfl, rfl, rfl, by decide +kernel, rfl, by decide +kernel, by decide +kernel⟩
abbrev s_parts_of : Stmt := topS 12
abbrev N_parts_of : List Str := ["laid", "wisp", "start", "let", "parts", "thickness", "long", "end"]
abbrev P_parts_of : List Str := ["laid"]
theorem sc_parts_of : FnScope N_parts_of P_parts_of (defScope s_parts_of) := ⟨rfl, rfl, rfl, by decide +kernel, rfl, by decide +kernel, by decide +kernel⟩
abbrev s_thicknesses_at : Stmt := topS 13
abbrev N_thicknesses_at : List Str := ["strand", "p", "laid"]
abbrev P_thicknesses_at : List Str := ["strand", "p"]
theorem sc_thicknesses_at : FnScope N_thicknesses_at P_thicknesses_at (defScope s_thicknesses_at) := ⟨rfl, rfl, rfl, by decide +kernel, rfl, by decide +kernel, by decide +kernel⟩
abbrev s_numbers_of : Stmt := topS 14
abbrev N_numbers_of : List Str := ["thicknesses", "number", "thickness"]
abbrev P_numbers_of : List Str := ["thicknesses"]
theorem sc_numbers_of : FnScope N_numbers_of P_numbers_of (defScope s_numbers_of) := ⟨rfl, rfl, rfl, by decide +kernel, rfl, by decide +kernel, by decide +kernel⟩
abbrev s_sorts_of : Stmt := topS 15
abbrev N_sorts_of : List Str := ["strand", "thicknesses", "first", "second", "laid", "thickness"]
abbrev P_sorts_of : List Str := ["strand", "thicknesses"]
theorem sc_sorts_of : FnScope N_sorts_of P_sorts_of (defScope s_sorts_of) := ⟨rfl, rfl, rfl, by decide +kernel, rfl, by decide +kernel, by decide +kernel⟩
abbrev s_thick : Stmt := topS 16
abbrev N_thick : List Str := ["strand", "p"]
abbrev P_thick : List Str := ["strand", "p"]
theorem sc_thick : FnScope N_thick P_thick (defScope s_thick) := ⟨rfl, rfl, rfl, by decide +kernel, rfl, by decide +kernel, by decide +kernel⟩
abbrev s_end_of : Stmt := topS 17
abbrev N_end_of : List Str := ["strand", "laid", "start", "end", "thickness"]
abbrev P_end_of : List Str := ["strand"]
theorem sc_end_of : FnScope N_end_of P_end_of (defScope s_end_of) := ⟨rfl, rfl, rfl, by decide +kernel, rfl, by decide +kernel, by decide +kernel⟩
abbrev s_weight_between : Stmt := topS 18
abbrev N_weight_between : List Str := ["strand", "a", "b", "weight", "laid", "start", "end", "thickness"]
abbrev P_weight_between : List Str := ["strand", "a", "b"]
theorem sc_weight_between : FnScope N_weight_between P_weight_between (defScope s_weight_between) := ⟨rfl, rfl, rfl, by decide +kernel, rfl, by decide +kernel, by decide +kernel⟩
abbrev s_changes_of : Stmt := topS 20
abbrev N_changes_of : List Str := ["strand", "changes", "number", "laid", "start", "end", "thickness"]
abbrev P_changes_of : List Str := ["strand"]
theorem sc_changes_of : FnScope N_changes_of P_changes_of (defScope s_changes_of) := ⟨rfl, rfl, rfl, by decide +kernel, rfl, by decide +kernel, by decide +kernel⟩
abbrev s_stretches : Stmt := topS 21
abbrev N_stretches : List Str := ["strand", "changes", "places", "thicknesses", "told", "start", "end", "number", "thickness"]
abbrev P_stretches : List Str := ["strand"]
theorem sc_stretches : FnScope N_stretches P_stretches (defScope s_stretches) := ⟨rfl, rfl, rfl, by decide +kernel, rfl, by decide +kernel, by decide +kernel⟩
abbrev s_levels_between : Stmt := topS 23
abbrev N_levels_between : List Str := ["strand", "a", "b", "levels", "within", "start", "end", "numbers", "sorts", "thickness", "level"]
abbrev P_levels_between : List Str := ["strand", "a", "b"]
theorem sc_levels_between : FnScope N_levels_between P_levels_between (defScope s_levels_between) := ⟨rfl, rfl, rfl, by decide +kernel, rfl, by decide +kernel, by decide +kernel⟩
abbrev s_word_of : Stmt := topS 24
abbrev N_word_of : List Str := ["thickness", "low", "high"]
abbrev P_word_of : List Str := ["thickness", "low", "high"]
theorem sc_word_of : FnScope N_word_of P_word_of (defScope s_word_of) := ⟨rfl, rfl, rfl, by decide +kernel, rfl, by decide +kernel, by decide +kernel⟩
abbrev s_first_off : Stmt := topS 25
abbrev N_first_off : List Str := ["strand", "low", "high", "a", "b", "start", "end", "thickness", "word"]
abbrev P_first_off : List Str := ["strand", "low", "high", "a", "b"]
theorem sc_first_off : FnScope N_first_off P_first_off (defScope s_first_off) := ⟨rfl, rfl, rfl, by decide +kernel, rfl, by decide +kernel, by decide +kernel⟩
abbrev s_thinnest : Stmt := topS 26
abbrev N_thinnest : List Str := ["strand", "a", "b", "levels", "start", "end", "thickness"]
abbrev P_thinnest : List Str := ["strand", "a", "b"]
theorem sc_thinnest : FnScope N_thinnest P_thinnest (defScope s_thinnest) := ⟨rfl, rfl, rfl, by decide +kernel, rfl, by decide +kernel, by decide +kernel⟩
abbrev s_lasts : Stmt := topS 27
abbrev N_lasts : List Str := ["strand", "low", "now", "start", "end", "numbers", "sorts"]
abbrev P_lasts : List Str := ["strand", "low", "now"]
theorem sc_lasts : FnScope N_lasts P_lasts (defScope s_lasts) := ⟨rfl, rfl, rfl, by decide +kernel, rfl, by decide +kernel, by decide +kernel⟩
abbrev s_is_row : Stmt := topS 30
abbrev N_is_row : List Str := ["thing", "wisp"]
abbrev P_is_row : List Str := ["thing"]
theorem sc_is_row : FnScope N_is_row P_is_row (defScope s_is_row) := ⟨rfl, rfl, rfl, by decide +kernel, rfl, by decide +kernel, by decide +kernel⟩
abbrev s_is_schedule : Stmt := topS 31
abbrev N_is_schedule : List Str := ["row", "thing", "least", "place"]
abbrev P_is_schedule : List Str := ["row", "thing"]
theorem sc_is_schedule : FnScope N_is_schedule P_is_schedule (defScope s_is_schedule) := ⟨rfl, rfl, rfl, by decide +kernel, rfl, by decide +kernel, by decide +kernel⟩
abbrev s_laid_out : Stmt := topS 32
abbrev N_laid_out : List Str := ["row", "places", "wisp", "at"]
abbrev P_laid_out : List Str := ["row", "places"]
theorem sc_laid_out : FnScope N_laid_out P_laid_out (defScope s_laid_out) := ⟨rfl, rfl, rfl, by decide +kernel, rfl, by decide +kernel, by decide +kernel⟩
abbrev s_is_wide : Stmt := topS 33
abbrev N_is_wide : List Str := ["row", "low", "high", "wisp"]
abbrev P_is_wide : List Str := ["row", "low", "high"]
theorem sc_is_wide : FnScope N_is_wide P_is_wide (defScope s_is_wide) := ⟨rfl, rfl, rfl, by decide +kernel, rfl, by decide +kernel, by decide +kernel⟩
abbrev s_strand_with : Stmt := topS 35
abbrev N_strand_with : List Str := ["row", "places", "strand"]
abbrev P_strand_with : List Str := ["row", "places", "strand"]
theorem sc_strand_with : FnScope N_strand_with P_strand_with (defScope s_strand_with) := ⟨rfl, rfl, rfl, by decide +kernel, rfl, by decide +kernel, by decide +kernel⟩
abbrev s_drawn : Stmt := topS 36
abbrev N_drawn : List Str := ["row", "low", "strand", "now", "places", "number"]
abbrev P_drawn : List Str := ["row", "low", "strand", "now"]
theorem sc_drawn : FnScope N_drawn P_drawn (defScope s_drawn) := ⟨rfl, rfl, rfl, by decide +kernel, rfl, by decide +kernel, by decide +kernel⟩
abbrev s_lasting : Stmt := topS 37
abbrev N_lasting : List Str := ["row", "low", "strand", "now"]
abbrev P_lasting : List Str := ["row", "low", "strand", "now"]
theorem sc_lasting : FnScope N_lasting P_lasting (defScope s_lasting) := ⟨rfl, rfl, rfl, by decide +kernel, rfl, by decide +kernel, by decide +kernel⟩
abbrev s_drawn_to : Stmt := topS 38
abbrev N_drawn_to : List Str := ["row", "low", "length", "places", "strand", "end", "place"]
abbrev P_drawn_to : List Str := ["row", "low", "length"]
theorem sc_drawn_to : FnScope N_drawn_to P_drawn_to (defScope s_drawn_to) := ⟨rfl, rfl, rfl, by decide +kernel, rfl, by decide +kernel, by decide +kernel⟩
abbrev s_moved : Stmt := topS 40
abbrev N_moved : List Str := ["laid", "by", "wisp", "at", "let"]
abbrev P_moved : List Str := ["laid", "by"]
theorem sc_moved : FnScope N_moved P_moved (defScope s_moved) := ⟨rfl, rfl, rfl, by decide +kernel, rfl, by decide +kernel, by decide +kernel⟩
abbrev s_rest_from : Stmt := topS 41
abbrev N_rest_from : List Str := ["laid", "p", "wisp", "at", "let"]
abbrev P_rest_from : List Str := ["laid", "p"]
theorem sc_rest_from : FnScope N_rest_from P_rest_from (defScope s_rest_from) := ⟨rfl, rfl, rfl, by decide +kernel, rfl, by decide +kernel, by decide +kernel⟩
abbrev s_from_on : Stmt := topS 42
abbrev N_from_on : List Str := ["strand", "p", "kept", "laid"]
abbrev P_from_on : List Str := ["strand", "p"]
theorem sc_from_on : FnScope N_from_on P_from_on (defScope s_from_on) := ⟨rfl, rfl, rfl, by decide +kernel, rfl, by decide +kernel, by decide +kernel⟩
abbrev s_shows_thin : Stmt := topS 44
abbrev N_shows_thin : List Str := ["row", "low", "place", "thing", "strand", "late", "number", "at"]
abbrev P_shows_thin : List Str := ["row", "low", "place", "thing"]
theorem sc_shows_thin : FnScope N_shows_thin P_shows_thin (defScope s_shows_thin) := ⟨rfl, rfl, rfl, by decide +kernel, rfl, by decide +kernel, by decide +kernel⟩
abbrev s__law_begin : Stmt := topS 46
abbrev N__law_begin : List Str := ["_law_script", "_law_k", "_law_cell", "_law_seed", "_law_one"]
abbrev P__law_begin : List Str := ["_law_script", "_law_k"]
theorem sc__law_begin : FnScope N__law_begin P__law_begin (defScope s__law_begin) := ⟨rfl, rfl, rfl, by decide +kernel, rfl, by decide +kernel, by decide +kernel⟩
abbrev s__law_take : Stmt := topS 47
abbrev N__law_take : List Str := ["_law_hand", "_law_many", "_law_digit", "_law_mixed"]
abbrev P__law_take : List Str := ["_law_hand", "_law_many"]
theorem sc__law_take : FnScope N__law_take P__law_take (defScope s__law_take) := ⟨rfl, rfl, rfl, by decide +kernel, rfl, by decide +kernel, by decide +kernel⟩
abbrev s__law_of : Stmt := topS 48
abbrev N__law_of : List Str := ["_law_hand", "_law_some"]
abbrev P__law_of : List Str := ["_law_hand", "_law_some"]
theorem sc__law_of : FnScope N__law_of P__law_of (defScope s__law_of) := ⟨rfl, rfl, rfl, by decide +kernel, rfl, by decide +kernel, by decide +kernel⟩
abbrev s__law_drawn_wisp : Stmt := topS 49
abbrev N__law_drawn_wisp : List Str := ["_law_hand", "_law_style", "_law_many", "_law_strong", "_law_steps", "_law_k", "_law_long"]
abbrev P__law_drawn_wisp : List Str := ["_law_hand", "_law_style"]
theorem sc__law_drawn_wisp : FnScope N__law_drawn_wisp P__law_drawn_wisp (defScope s__law_drawn_wisp) := ⟨rfl, rfl, rfl, by decide +kernel, rfl, by decide +kernel, by decide +kernel⟩
abbrev s__law_least : Stmt := topS 50
abbrev N__law_least : List Str := ["_law_hand", "_law_style"]
abbrev P__law_least : List Str := ["_law_hand", "_law_style"]
theorem sc__law_least : FnScope N__law_least P__law_least (defScope s__law_least) := ⟨rfl, rfl, rfl, by decide +kernel, rfl, by decide +kernel, by decide +kernel⟩
abbrev s__law_strong_at : Stmt := topS 51
abbrev N__law_strong_at : List Str := ["_law_wisp", "_law_k", "_law_strong", "_law_long"]
abbrev P__law_strong_at : List Str := ["_law_wisp", "_law_k"]
theorem sc__law_strong_at : FnScope N__law_strong_at P__law_strong_at (defScope s__law_strong_at) := ⟨rfl, rfl, rfl, by decide +kernel, rfl, by decide +kernel, by decide +kernel⟩
abbrev s__law_there : Stmt := topS 52
abbrev N__law_there : List Str := ["_law_strand", "_law_p", "_law_total", "_law_wisp", "_law_at", "_law_let"]
abbrev P__law_there : List Str := ["_law_strand", "_law_p"]
theorem sc__law_there : FnScope N__law_there P__law_there (defScope s__law_there) := ⟨rfl, rfl, rfl, by decide +kernel, rfl, by decide +kernel, by decide +kernel⟩
abbrev s__law_borders : Stmt := topS 53
abbrev N__law_borders : List Str := ["_law_strand", "_law_now", "_law_found", "_law_wisp", "_law_at", "_law_let", "_law_strong", "_law_long", "_law_place"]
abbrev P__law_borders : List Str := ["_law_strand", "_law_now"]
theorem sc__law_borders : FnScope N__law_borders P__law_borders (defScope s__law_borders) := ⟨rfl, rfl, rfl, by decide +kernel, rfl, by decide +kernel, by decide +kernel⟩
abbrev s__law_first_thin : Stmt := topS 54
abbrev N__law_first_thin : List Str := ["_law_strand", "_law_low", "_law_now", "_law_place"]
abbrev P__law_first_thin : List Str := ["_law_strand", "_law_low", "_law_now"]
theorem sc__law_first_thin : FnScope N__law_first_thin P__law_first_thin (defScope s__law_first_thin) := ⟨rfl, rfl, rfl, by decide +kernel, rfl, by decide +kernel, by decide +kernel⟩
abbrev s__law_small_row : Stmt := topS 55
abbrev N__law_small_row : List Str := ["_law_hand", "_law_row", "_law_room", "_law_k", "_law_steps", "_law_strong", "_law_go", "_law_long"]
abbrev P__law_small_row : List Str := ["_law_hand"]
theorem sc__law_small_row : FnScope N__law_small_row P__law_small_row (defScope s__law_small_row) := ⟨rfl, rfl, rfl, by decide +kernel, rfl, by decide +kernel, by decide +kernel⟩
abbrev s__law_all_schedules : Stmt := topS 56
abbrev N__law_all_schedules : List Str := ["_law_many", "_law_most", "_law_found", "_law_k", "_law_longer", "_law_places", "_law_at"]
abbrev P__law_all_schedules : List Str := ["_law_many", "_law_most"]
theorem sc__law_all_schedules : FnScope N__law_all_schedules P__law_all_schedules (defScope s__law_all_schedules) := ⟨rfl, rfl, rfl, by decide +kernel, rfl, by decide +kernel, by decide +kernel⟩
abbrev s__law_gone_through : Stmt := topS 57
abbrev N__law_gone_through : List Str := ["_law_row", "_law_low", "_law_places", "_law_last", "_law_ends", "_law_some", "_law_length", "_law_least_here", "_law_thin", "_law_at", "_law_wisp"]
abbrev P__law_gone_through : List Str := ["_law_row", "_law_low"]
theorem sc__law_gone_through : FnScope N__law_gone_through P__law_gone_through (defScope s__law_gone_through) := ⟨rfl, rfl, rfl, by decide +kernel, rfl, by decide +kernel, by decide +kernel⟩
abbrev s__law_told_so : Stmt := topS 58
abbrev N__law_told_so : List Str := ["_law_row", "_law_low", "_law_high", "_law_places", "_law_last", "_law_strand", "_law_start", "_law_end", "_law_numbers", "_law_sorts"]
abbrev P__law_told_so : List Str := ["_law_row", "_law_low", "_law_high"]
theorem sc__law_told_so : FnScope N__law_told_so P__law_told_so (defScope s__law_told_so) := ⟨rfl, rfl, rfl, by decide +kernel, rfl, by decide +kernel, by decide +kernel⟩
abbrev s__law_goes_on : Stmt := topS 59
abbrev N__law_goes_on : List Str := ["_law_hand", "_law_row", "_law_low", "_law_places", "_law_last", "_law_many", "_law_until", "_law_now", "_law_later", "_law_at"]
abbrev P__law_goes_on : List Str := ["_law_hand", "_law_row", "_law_low"]
theorem sc__law_goes_on : FnScope N__law_goes_on P__law_goes_on (defScope s__law_goes_on) := ⟨rfl, rfl, rfl, by decide +kernel, rfl, by decide +kernel, by decide +kernel⟩
abbrev s_law : Stmt := topS 60
abbrev N_law : List Str := ["_law_script", "_law_k", "_law_hand", "_law_small", "_law_low", "_law_style", "_law_many", "_law_row", "_law_go"]
abbrev P_law : List Str := ["_law_script"]
theorem sc_law : FnScope N_law P_law (defScope s_law) := ⟨rfl, rfl, rfl, by decide +kernel, rfl, by decide +kernel, by decide +kernel⟩
/-! ### the names that are still the built-in ones -/
structure Bi (mg : Str → Option Value) : Prop where
  m_len : mg "len" = none
  m_sum : mg "sum" = none
  m_abs : mg "abs" = none
  m_isinstance : mg "isinstance" = none
  m_max : mg "max" = none
  m_min : mg "min" = none
  m_tuple : mg "tuple" = none
  m_list : mg "list" = none
  m_int : mg "int" = none
  m_bool : mg "bool" = none
  m_range : mg "range" = none
  m_enumerate : mg "enumerate" = none
  m_zip : mg "zip" = none
  m_repr : mg "repr" = none
  m_str : mg "str" = none
  m_sorted : mg "sorted" = none
  m_set : mg "set" = none
  m_all : mg "all" = none
  m_any : mg "any" = none
  m_dict : mg "dict" = none
/-! ### a def as its callers use it -/
structure Cal (P : Program) (w : World) (K : PySem.W.Frag) (mg : Str → Option Value) (base : Heap) (x : Str) (ps : List Str) (k : Nat) (sp : Sp) (f : Addr) (fd : FuncData) : Prop where
  G : FnOk P w K mg base CX0 k f fd ps sp
  g : mg x = some (.ref f)
  kp : PySem.W.keepIn K (.ref f) = true
  b : Binds K fd ps []
structure CalG (P : Program) (w : World) (K : PySem.W.Frag) (mg : Str → Option Value) (base : Heap) (x : Str) (ps : List Str) (k : Nat) (sp : Sp) (f : Addr) (fd : FuncData) : Prop where
  G : FnG P w K mg base k f fd ps sp
  g : mg x = some (.ref f)
  kp : PySem.W.keepIn K (.ref f) = true
  b : Binds K fd ps []
/-! ### heaps -/
def Keep (p l : Addr) (H H' : Hp) : Prop := ∀ a o, a ≠ p → a ≠ l → H a = some o → H' a = some o
theorem Keep.refl {p l : Addr} {H : Hp} : Keep p l H H := fun _ _ _ _ h => h
theorem Keep.trans {p l : Addr} {H H1 H2 : Hp} (a : Keep p l H H1) (b : Keep p l H1 H2) : Keep p l H H2 := fun c o n1 n2 h => b c o n1 n2 (a c o n1 n2 h)
theorem Keep.new {p l : Addr} {H H1 : Hp} {a : Addr} {o : HO} (k : Keep p l H H1) (h : H1 a = none) : Keep p l H (upd H1 a o) := fun c u n1 n2 e => by
  have e1 := k c u n1 n2 e
  rw [upd_ne (ne_of_none e1 h)]
  exact e1
theorem Keep.own {p l : Addr} {H H1 : Hp} {o : HO} (k : Keep p l H H1) : Keep p l H (upd H1 p o) := fun c u n1 n2 e => by
  rw [upd_ne n1]
  exact k c u n1 n2 e
theorem Keep.own2 {p l : Addr} {H H1 : Hp} {o : HO} (k : Keep p l H H1) : Keep p l H (upd H1 l o) := fun c u n1 n2 e => by
  rw [upd_ne n2]
  exact k c u n1 n2 e
/-- an object that was not there at H may change -/
theorem Keep.mine {p l a : Addr} {H H1 : Hp} {o : HO} (k : Keep p l H H1) (h : H a = none) : Keep p l H (upd H1 a o) := fun c u n1 n2 e => by
  rw [upd_ne (ne_of_none e h)]
  exact k c u n1 n2 e
def Tups (H H' : Hp) : Prop := ∀ a xs, H a = some (.tup xs) → H' a = some (.tup xs)
theorem Tups.refl {H : Hp} : Tups H H := fun _ _ h => h
theorem Tups.trans {H H1 H2 : Hp} (a : Tups H H1) (b : Tups H1 H2) : Tups H H2 := fun c xs h => b c xs (a c xs h)
theorem Tups.new {H : Hp} {a : Addr} {o : HO} (h : H a = none) : Tups H (upd H a o) := fun c xs e => by
  rw [upd_ne (ne_of_none e h)]
  exact e
theorem Tups.ls {H : Hp} {a : Addr} {xs : List V} {o : HO} (h : H a = some (.lst xs)) : Tups H (upd H a o) := fun c ys e => by
  have n : c ≠ a := ne_of e h (by intro z; cases z)
  rw [upd_ne n]
  exact e
theorem Tups.same {H H' : Hp} (h : Same H H') : Tups H H' := fun a xs e => h a _ e
/-- the pot: the cells that are left, the great number at hand, the seed, how many were drawn -/
def Pot (H : Hp) (p l : Addr) (T : Nat) : Prop := ∃ (ns : List Int) (c m : Int) (t : Nat), H p = some (.lst [.ref l, .int c, .int m, .int (t : Int)]) ∧ H l = some (.lst (ns.map V.int)) ∧ 0 ≤ c ∧ t ≤ T ∧ ns.length ≤ 63
theorem Pot.ne {H : Hp} {p l : Addr} {T : Nat} (h : Pot H p l T) : p ≠ l := by
  obtain ⟨ns, c, m, t, h1, h2, _⟩ := h
  intro e
  rw [e, h2] at h1
  cases ns with
  | nil => exact absurd h1 (by intro z; cases z)
  | cons n r => exact absurd h1 (by intro z; cases z)
theorem Pot.mono {H : Hp} {p l : Addr} {T U : Nat} (h : Pot H p l T) (e : T ≤ U) : Pot H p l U := by
  obtain ⟨ns, c, m, t, h1, h2, h3, h4, h5⟩ := h
  exact ⟨ns, c, m, t, h1, h2, h3, Nat.le_trans h4 e, h5⟩
theorem Pot.new {H : Hp} {p l a : Addr} {T : Nat} {o : HO} (h : Pot H p l T) (n : H a = none) : Pot (upd H a o) p l T := by
  obtain ⟨ns, c, m, t, h1, h2, h3⟩ := h
  exact ⟨ns, c, m, t, by rw [upd_ne (ne_of_none h1 n)]; exact h1, by rw [upd_ne (ne_of_none h2 n)]; exact h2, h3⟩
theorem Pot.other {H : Hp} {p l a : Addr} {T : Nat} {o : HO} (h : Pot H p l T) (n1 : a ≠ p) (n2 : a ≠ l) : Pot (upd H a o) p l T := by
  obtain ⟨ns, c, m, t, h1, h2, h3⟩ := h
  exact ⟨ns, c, m, t, by rw [upd_ne n1.symm]; exact h1, by rw [upd_ne n2.symm]; exact h2, h3⟩
theorem Pot.notP {H : Hp} {p l a : Addr} {T : Nat} {xs : List V} (h : Pot H p l T) (e : H a = some (.tup xs)) : a ≠ p ∧ a ≠ l := by
  obtain ⟨ns, c, m, t, h1, h2, h3⟩ := h
  exact ⟨ne_of e h1 (by intro z; cases z), ne_of e h2 (by intro z; cases z)⟩
theorem Pot.fresh {H : Hp} {p l a : Addr} {T : Nat} (h : Pot H p l T) (e : H a = none) : a ≠ p ∧ a ≠ l := by
  obtain ⟨ns, c, m, t, h1, h2, h3⟩ := h
  exact ⟨(ne_of_none h1 e).symm, (ne_of_none h2 e).symm⟩
theorem Keep.tups {p l : Addr} {H H' : Hp} {T : Nat} (k : Keep p l H H') (h : Pot H p l T) : Tups H H' := fun a xs e => by
  obtain ⟨n1, n2⟩ := h.notP e
  exact k a _ n1 n2 e
/-! ### what is drawn -/
def spBlend : Sp := fun vs H Q _ => ∃ (n : Int) (t : Int), vs = [.int n, .int t] ∧ 0 ≤ t ∧ t < 2 ^ 62 ∧ ∀ r, Q (.int r) H
def spDraw : Sp := fun vs H Q _ => ∃ (p l : Addr) (T : Nat) (many : Int), vs = [.ref p, .int many] ∧ Pot H p l T ∧ T < 2 ^ 40 ∧ CDivW 0 many ∧
  ∀ d H', 0 ≤ d → d < many → Pot H' p l (T + 1) → Keep p l H H' → Q (.int d) H'
def spGreat : Sp := fun vs H Q _ => ∃ (p l : Addr) (T : Nat), vs = [.ref p] ∧ Pot H p l T ∧ T < 2 ^ 39 ∧
  ∀ d H', 0 ≤ d → d < 2 ^ 122 → Pot H' p l (T + 5) → Keep p l H H' → Q (.int d) H'
/-! ### tuples at addresses -/
def TupsAt (H : Hp) (as : List Addr) (xss : List (List V)) : Prop := as.length = xss.length ∧ ∀ (i : Nat) (a : Addr), as[i]? = some a → ∃ xs, xss[i]? = some xs ∧ H a = some (.tup xs)
theorem TupsAt.nil {H : Hp} : TupsAt H [] [] := ⟨rfl, fun i a h => by simp at h⟩
theorem TupsAt.mono {H H' : Hp} {as : List Addr} {xss : List (List V)} (h : TupsAt H as xss) (t : Tups H H') : TupsAt H' as xss := ⟨h.1, fun i a e => by
  obtain ⟨xs, h1, h2⟩ := h.2 i a e
  exact ⟨xs, h1, t a xs h2⟩⟩
theorem TupsAt.cons {H : Hp} {as : List Addr} {xss : List (List V)} {a : Addr} {xs : List V} (h : TupsAt H as xss) (e : H a = some (.tup xs)) : TupsAt H (a :: as) (xs :: xss) := by
  refine ⟨by simp [h.1], fun i b hb => ?_⟩
  cases i with
  | zero =>
    have : a = b := Option.some.inj hb
    subst this
    exact ⟨xs, rfl, e⟩
  | succ j => exact h.2 j b hb
theorem TupsAt.snoc {H : Hp} {as : List Addr} {xss : List (List V)} {a : Addr} {xs : List V} (h : TupsAt H as xss) (e : H a = some (.tup xs)) : TupsAt H (as ++ [a]) (xss ++ [xs]) := by
  refine ⟨by simp [h.1], fun i b hb => ?_⟩
  by_cases hi : i < as.length
  · rw [List.getElem?_append_left hi] at hb
    obtain ⟨ys, h1, h2⟩ := h.2 i b hb
    exact ⟨ys, by rw [List.getElem?_append_left (by rw [← h.1]; exact hi)]; exact h1, h2⟩
  · rw [List.getElem?_append_right (by omega)] at hb
    have hz : i - as.length = 0 := by
      cases hk : i - as.length with
      | zero => rfl
      | succ n =>
        rw [hk] at hb
        simp at hb
    rw [hz] at hb
    have : a = b := Option.some.inj hb
    subst this
    refine ⟨xs, ?_, e⟩
    rw [List.getElem?_append_right (by rw [← h.1]; omega), ← h.1, hz]
    rfl
theorem TupsAt.get {H : Hp} {as : List Addr} {xss : List (List V)} (h : TupsAt H as xss) {i : Nat} {v : V} (e : (as.map V.ref)[i]? = some v) : ∃ a xs, v = .ref a ∧ as[i]? = some a ∧ xss[i]? = some xs ∧ H a = some (.tup xs) := by
  rw [List.getElem?_map] at e
  cases q : as[i]? with
  | none =>
    rw [q] at e
    cases e
  | some a =>
    rw [q] at e
    have e' : V.ref a = v := Option.some.inj e
    obtain ⟨xs, h1, h2⟩ := h.2 i a q
    exact ⟨a, xs, e'.symm, rfl, h1, h2⟩
/-! ### wisps -/
abbrev stepV (p : Int × Int) : List V := [.int p.1, .int p.2]
def WispAt (H : Hp) (a : Addr) (s : Int) (ps : List (Int × Int)) : Prop := ∃ (st : Addr) (as : List Addr), H a = some (.tup [.int s, .ref st]) ∧ H st = some (.tup (as.map V.ref)) ∧ TupsAt H as (ps.map stepV)
theorem WispAt.mono {H H' : Hp} {a : Addr} {s : Int} {ps : List (Int × Int)} (h : WispAt H a s ps) (t : Tups H H') : WispAt H' a s ps := by
  obtain ⟨st, as, h1, h2, h3⟩ := h
  exact ⟨st, as, t _ _ h1, t _ _ h2, h3.mono t⟩
theorem step_get {H : Hp} {as : List Addr} {ps : List (Int × Int)} (h : TupsAt H as (ps.map stepV)) {i : Nat} {v : V} (e : (as.map V.ref)[i]? = some v) : ∃ a t g, v = .ref a ∧ ps[i]? = some (t, g) ∧ H a = some (.tup [.int t, .int g]) := by
  obtain ⟨a, xs, h1, _, h2, h3⟩ := h.get e
  rw [List.getElem?_map] at h2
  cases q : ps[i]? with
  | none =>
    rw [q] at h2
    cases h2
  | some p =>
    rw [q] at h2
    have e' : stepV p = xs := Option.some.inj h2
    subst e'
    exact ⟨a, p.1, p.2, h1, rfl, h3⟩
def Good (ps : List (Int × Int)) : Prop := 1 ≤ ps.length ∧ ps.length ≤ 10 ∧ ∀ p ∈ ps, 1 ≤ p.1 ∧ p.1 < 2 ^ 200 ∧ 1 ≤ p.2 ∧ p.2 < 2 ^ 200
def Falls (ps : List (Int × Int)) : Prop := ps.Pairwise (fun a b => b.1 < a.1)
def Small (ps : List (Int × Int)) : Prop := ∀ p ∈ ps, p.1 ≤ 1000 ∧ p.2 ≤ 3
def spPot (K : PySem.W.Frag) : Sp := fun vs H Q _ => ∃ (a : Addr) (ns : List Int), vs = [.ref a] ∧ SqL K H a (ns.map V.int) ∧ ns.length ≤ 63 ∧
  ∀ H' p l, Same H H' → H p = none → H l = none → Pot H' p l 0 → Q (.ref p) H'
def spWisp : Sp := fun vs H Q _ => ∃ (p l : Addr) (T : Nat) (most : Int) (small : Bool), vs = [.ref p, .int most, .bl small] ∧ Pot H p l T ∧ T < 2 ^ 38 ∧ 1 ≤ most ∧ most ≤ 10 ∧
  ∀ H' a s ps, Pot H' p l (T + 150) → Keep p l H H' → WispAt H' a s ps → 0 ≤ s → s ≤ 1 → Good ps → (ps.length : Int) ≤ most → Falls ps → (small = true → Small ps) → H a = none → Q (.ref a) H'
def spWhole : Sp := fun vs H Q _ => ∃ i : Int, vs = [.int i] ∧ Q (.bl true) H
theorem Keep.free {p l a : Addr} {H H' : Hp} {T : Nat} (k : Keep p l H H') (hp : Pot H' p l T) (h : H' a = none) : H a = none := by
  obtain ⟨n1, n2⟩ := hp.fresh h
  cases q : H a with
  | none => rfl
  | some o =>
    rw [k a o n1 n2 q] at h
    cases h
/-! ### the mirrors -/
def longs (ps : List (Int × Int)) : Int := (ps.map (·.2)).sum
def weigh (ps : List (Int × Int)) : Int := (ps.map fun p => p.1 * p.2).sum
def thickAt : List (Int × Int) → Int → Int
  | [], _ => 0
  | (t, g) :: r, k => if k < g then t else thickAt r (k - g)
abbrev rowV (t : Int × Int × Int) : List V := [.int t.1, .int t.2.1, .int t.2.2]
def tableOf : Int → List (Int × Int) → List (Int × Int × Int)
  | _, [] => []
  | b, (t, g) :: r => (b, b + g, t) :: tableOf (b + g) r
def inRow (k : Int) (t : Int × Int × Int) : Bool := decide (t.1 ≤ k) && decide (k < t.2.1)
def strongOf (k : Int) (ts : List (Int × Int × Int)) : Int := ((ts.filter (inRow k)).map (·.2.2)).sum
theorem longs_nonneg : ∀ {ps : List (Int × Int)}, (∀ p ∈ ps, 1 ≤ p.2) → 0 ≤ longs ps
  | [], _ => by decide
  | p :: r, h => by
    have h1 := h p (by simp)
    have h2 := longs_nonneg (ps := r) fun x hx => h x (by simp [hx])
    unfold longs at *
    rw [List.map_cons, List.sum_cons]
    omega
theorem longs_cons {p : Int × Int} {r : List (Int × Int)} : longs (p :: r) = p.2 + longs r := by
  unfold longs
  rw [List.map_cons, List.sum_cons]
theorem weigh_cons {p : Int × Int} {r : List (Int × Int)} : weigh (p :: r) = p.1 * p.2 + weigh r := by
  unfold weigh
  rw [List.map_cons, List.sum_cons]
theorem table_len : ∀ (ps : List (Int × Int)) (b : Int), (tableOf b ps).length = ps.length
  | [], _ => rfl
  | (t, g) :: r, b => by
    show (tableOf (b + g) r).length + 1 = r.length + 1
    rw [table_len r]
theorem table_get : ∀ (ps : List (Int × Int)) (b : Int) (i : Nat) (t g : Int), ps[i]? = some (t, g) → (tableOf b ps)[i]? = some (b + longs (ps.take i), b + longs (ps.take (i + 1)), t)
  | [], _, _, _, _, h => by simp at h
  | (t', g') :: r, b, 0, t, g, h => by
    have e := Option.some.inj h
    obtain ⟨rfl, rfl⟩ := Prod.mk.inj e
    show some (b, b + g', t') = some (b + longs [], b + longs [(t', g')], t')
    unfold longs
    simp
  | (t', g') :: r, b, i + 1, t, g, h => by
    show (tableOf (b + g') r)[i]? = some (b + longs ((t', g') :: r.take i), b + longs ((t', g') :: r.take (i + 1)), t)
    rw [table_get r (b + g') i t g h, longs_cons, longs_cons]
    simp only [Int.add_assoc]
theorem strong_cons {k : Int} {t : Int × Int × Int} {ts : List (Int × Int × Int)} : strongOf k (t :: ts) = (if inRow k t = true then t.2.2 else 0) + strongOf k ts := by
  unfold strongOf
  rw [List.filter_cons]
  split
  · rw [List.map_cons, List.sum_cons]
  · rw [Int.zero_add]
theorem strong_table : ∀ (ps : List (Int × Int)) (b k : Int), (∀ p ∈ ps, 1 ≤ p.2) → strongOf k (tableOf b ps) = if k < b then 0 else thickAt ps (k - b)
  | [], b, k, _ => by
    show (0 : Int) = if k < b then 0 else 0
    split <;> rfl
  | (t, g) :: r, b, k, h => by
    have hg : 1 ≤ g := h (t, g) (by simp)
    have ih := strong_table r (b + g) k fun x hx => h x (by simp [hx])
    show strongOf k ((b, b + g, t) :: tableOf (b + g) r) = if k < b then 0 else if k - b < g then t else thickAt r (k - b - g)
    rw [strong_cons, ih]
    have e : k - b - g = k - (b + g) := by omega
    rw [e]
    by_cases h1 : k < b
    · rw [if_pos h1, if_pos (show k < b + g by omega), if_neg]
      · rfl
      · intro z
        have := (Bool.and_eq_true_iff.mp z).1
        have := of_decide_eq_true this
        simp only at this
        omega
    · by_cases h2 : k - b < g
      · rw [if_neg h1, if_pos h2, if_pos (show k < b + g by omega), if_pos]
        · show t + 0 = t
          omega
        · exact Bool.and_eq_true_iff.mpr ⟨decide_eq_true (show b ≤ k by omega), decide_eq_true (show k < b + g by omega)⟩
      · rw [if_neg h1, if_neg h2, if_neg (show ¬ k < b + g by omega), if_neg]
        · omega
        · intro z
          have := of_decide_eq_true (Bool.and_eq_true_iff.mp z).2
          simp only at this
          omega
def dueOf (ts : List (Int × Int × Int)) : Int := (ts.map fun t => (t.2.1 - t.1) * t.2.2).sum
theorem due_table : ∀ (ps : List (Int × Int)) (b : Int), dueOf (tableOf b ps) = weigh ps
  | [], _ => rfl
  | (t, g) :: r, b => by
    have ih := due_table r (b + g)
    show ((b, b + g, t) :: tableOf (b + g) r |>.map fun t => (t.2.1 - t.1) * t.2.2).sum = weigh ((t, g) :: r)
    rw [weigh_cons, List.map_cons, List.sum_cons, ← ih]
    show (b + g - b) * t + dueOf _ = t * g + dueOf _
    rw [show b + g - b = g by omega, Int.mul_comm]
def sumTo (n : Nat) (f : Int → Int) : Int := ((List.range n).map fun (i : Nat) => f (i : Int)).sum
theorem sumTo_succ (n : Nat) (f : Int → Int) : sumTo (n + 1) f = sumTo n f + f n := by
  unfold sumTo
  rw [List.range_succ, List.map_append, List.sum_append]
  simp
theorem sumTo_const (t : Int) : ∀ n : Nat, sumTo n (fun _ => t) = n * t
  | 0 => by simp [sumTo]
  | n + 1 => by
    rw [sumTo_succ, sumTo_const t n, Int.natCast_add, Int.add_mul]
    simp
theorem sumTo_add (f : Int → Int) (n : Nat) : ∀ m : Nat, sumTo (n + m) f = sumTo n f + sumTo m (fun k => f (n + k))
  | 0 => by simp [sumTo]
  | m + 1 => by
    rw [← Nat.add_assoc, sumTo_succ, sumTo_succ, sumTo_add f n m, Int.natCast_add, Int.add_assoc]
theorem sumTo_congr {f g : Int → Int} : ∀ n : Nat, (∀ i : Nat, i < n → f i = g i) → sumTo n f = sumTo n g
  | 0, _ => rfl
  | n + 1, h => by
    rw [sumTo_succ, sumTo_succ, sumTo_congr n (fun i hi => h i (by omega)), h n (by omega)]
theorem sumTo_thick : ∀ (ps : List (Int × Int)) (n : Nat), (∀ p ∈ ps, 1 ≤ p.2) → longs ps ≤ n → sumTo n (thickAt ps) = weigh ps
  | [], n, _, _ => by
    rw [show thickAt [] = fun _ => 0 from funext fun _ => rfl, sumTo_const]
    simp [weigh]
  | (t, g) :: r, n, h, hl => by
    have hg : 1 ≤ g := h (t, g) (by simp)
    rw [longs_cons] at hl
    have hl : g + longs r ≤ n := hl
    have h0 := longs_nonneg (ps := r) fun x hx => h x (by simp [hx])
    obtain ⟨G, rfl⟩ : ∃ G : Nat, g = G := ⟨g.toNat, by omega⟩
    obtain ⟨m, rfl⟩ : ∃ m : Nat, n = G + m := ⟨n - G, by omega⟩
    rw [sumTo_add, weigh_cons]
    have ih := sumTo_thick r m (fun x hx => h x (by simp [hx])) (by omega)
    have e1 : sumTo G (thickAt ((t, (G : Int)) :: r)) = G * t := by
      rw [← sumTo_const t G]
      refine sumTo_congr G fun i hi => ?_
      show (if (i : Int) < G then t else _) = t
      rw [if_pos (by omega)]
    have e2 : sumTo m (fun k => thickAt ((t, (G : Int)) :: r) (G + k)) = sumTo m (thickAt r) := by
      refine sumTo_congr m fun i _ => ?_
      show (if (G : Int) + i < G then t else thickAt r ((G : Int) + i - G)) = thickAt r i
      rw [if_neg (by omega), show (G : Int) + i - G = i by omega]
    rw [e1, e2, ih, Int.mul_comm]
theorem take_map_succ {α β : Type} {l : List α} {i : Nat} {x : α} (f : α → β) (h : l[i]? = some x) : (l.take (i + 1)).map f = (l.take i).map f ++ [f x] := by
  rw [List.take_add_one, h, List.map_append]
  rfl
theorem longs_take {ps : List (Int × Int)} {i : Nat} {t g : Int} (h : ps[i]? = some (t, g)) : longs (ps.take (i + 1)) = longs (ps.take i) + g := by
  unfold longs
  rw [take_map_succ _ h, List.sum_append]
  simp
theorem Same.wisp {H H' : Hp} {a : Addr} {s : Int} {ps : List (Int × Int)} (e : Same H H') (h : WispAt H a s ps) : WispAt H' a s ps := h.mono (Tups.same e)
theorem same_new {H H1 : Hp} {p : Addr} {o : HO} (k : Same H H1) (h : H1 p = none) : Same H (upd H1 p o) := fun b x e => by
  have e1 := k b x e
  rw [upd_ne (ne_of_none e1 h)]
  exact e1
theorem same_mine {H H1 : Hp} {p : Addr} {o : HO} (k : Same H H1) (h : H p = none) : Same H (upd H1 p o) := fun b x e => by
  rw [upd_ne (ne_of_none e h)]
  exact k b x e
theorem Same.free' {H H' : Hp} (e : Same H H') {l : Addr} (h : H' l = none) : H l = none := Same.free e h
theorem mul_ok {ps : List (Int × Int)} (h : Good ps) {i : Nat} {t g : Int} (e : ps[i]? = some (t, g)) : CMulW t g := by
  obtain ⟨_, _, h3⟩ := h
  have := h3 (t, g) (List.mem_of_getElem? e)
  refine wide_mul (a := 200) (b := 200) ?_ ?_ (by decide) (by decide) (by decide)
  · have h1 : t < 2 ^ 200 := this.2.1
    have h0 : 1 ≤ t := this.1
    have h2 : (t.natAbs : Int) = t := by omega
    have h3 : (t.natAbs : Int) < ((2 ^ 200 : Nat) : Int) := by rw [h2]; exact h1
    exact Int.ofNat_lt.mp h3
  · have h1 : g < 2 ^ 200 := this.2.2.2
    have h0 : 1 ≤ g := this.2.2.1
    have h2 : (g.natAbs : Int) = g := by omega
    have h3 : (g.natAbs : Int) < ((2 ^ 200 : Nat) : Int) := by rw [h2]; exact h1
    exact Int.ofNat_lt.mp h3
def spLen : Sp := fun vs H Q _ => ∃ (a : Addr) (s : Int) (ps : List (Int × Int)), vs = [.ref a] ∧ WispAt H a s ps ∧ Good ps ∧ ∀ H', Same H H' → Q (.int (longs ps)) H'
def spWeight : Sp := fun vs H Q _ => ∃ (a : Addr) (s : Int) (ps : List (Int × Int)), vs = [.ref a] ∧ WispAt H a s ps ∧ Good ps ∧ ∀ H', Same H H' → Q (.int (weigh ps)) H'
def spThick : Sp := fun vs H Q _ => ∃ (a : Addr) (s : Int) (ps : List (Int × Int)) (k : Int), vs = [.ref a, .int k] ∧ WispAt H a s ps ∧ Q (.int (thickAt ps k)) H
def TableAt (H : Hp) (o : Addr) (ts : List (Int × Int × Int)) : Prop := ∃ as, H o = some (.lst (as.map V.ref)) ∧ TupsAt H as (ts.map rowV)
def spTable : Sp := fun vs H Q _ => ∃ (a : Addr) (s : Int) (ps : List (Int × Int)), vs = [.ref a] ∧ WispAt H a s ps ∧ ps.length ≤ 10 ∧ ∀ H' o, Same H H' → H o = none → TableAt H' o (tableOf 0 ps) → Q (.ref o) H'
def spStrong : Sp := fun vs H Q _ => ∃ (a : Addr) (s : Int) (ps : List (Int × Int)) (k : Int), vs = [.ref a, .int k] ∧ WispAt H a s ps ∧ Good ps ∧ 0 ≤ k ∧ ∀ H', Same H H' → Q (.int (thickAt ps k)) H'
def spSpots : Sp := fun vs H Q _ => ∃ (p l : Addr) (T : Nat) (a : Addr) (s : Int) (ps : List (Int × Int)), vs = [.ref p, .ref a] ∧ Pot H p l T ∧ T < 2 ^ 38 ∧ WispAt H a s ps ∧ Good ps ∧
  ∀ (H' : Hp) (o : Addr) (ns : List Int), Pot H' p l (T + 10) → Keep p l H H' → H o = none → H' o = some (.lst (ns.map V.int)) → (∀ n ∈ ns, (0 : Int) ≤ n) → ns.length ≤ 100 → Q (.ref o) H'
theorem row_get {H : Hp} {as : List Addr} {ts : List (Int × Int × Int)} (h : TupsAt H as (ts.map rowV)) {i : Nat} {v : V} (e : (as.map V.ref)[i]? = some v) : ∃ a b c d, v = .ref a ∧ ts[i]? = some (b, c, d) ∧ H a = some (.tup [.int b, .int c, .int d]) := by
  obtain ⟨a, xs, h1, _, h2, h3⟩ := h.get e
  rw [List.getElem?_map] at h2
  cases q : ts[i]? with
  | none =>
    rw [q] at h2
    cases h2
  | some p =>
    rw [q] at h2
    have e' : rowV p = xs := Option.some.inj h2
    subst e'
    exact ⟨a, p.1, p.2.1, p.2.2, h1, rfl, h3⟩
theorem yesIte {σ : L2.St} {H : Hp} {A B : Hp → Prop} (h : A H) : tYes σ H (fun b H3 => if b = true then A H3 else B H3) := by
  show if true = true then A H else B H
  rw [if_pos rfl]
  exact h
def spRight : Sp := fun vs H Q _ => ∃ (p l : Addr) (T : Nat) (a : Addr) (s : Int) (ps : List (Int × Int)) (small : Bool), vs = [.ref p, .ref a, .bl small] ∧ Pot H p l T ∧ T < 2 ^ 37 ∧ WispAt H a s ps ∧ Good ps ∧ (small = true → Small ps) ∧
  ∀ (H' : Hp), Pot H' p l (T + 15) → Keep p l H H' → Q (.bl true) H'
theorem Pot.same {H H' : Hp} {p l : Addr} {T : Nat} (h : Pot H p l T) (e : Same H H') : Pot H' p l T := by
  obtain ⟨ns, c, m, t, h1, h2, h3⟩ := h
  exact ⟨ns, c, m, t, e _ _ h1, e _ _ h2, h3⟩
theorem Same.keep {p l : Addr} {H H' : Hp} (e : Same H H') : Keep p l H H' := fun c o _ _ h => e c o h
theorem WispAt.keep {p l : Addr} {H H' : Hp} {T : Nat} {a : Addr} {s : Int} {ps : List (Int × Int)} (h : WispAt H a s ps) (k : Keep p l H H') (hp : Pot H p l T) : WispAt H' a s ps := h.mono (k.tups hp)
theorem longs_small : ∀ {ps : List (Int × Int)}, Small ps → longs ps ≤ 3 * ps.length
  | [], _ => by decide
  | p :: r, h => by
    have h1 := h p (by simp)
    have h2 := longs_small (ps := r) fun x hx => h x (by simp [hx])
    rw [longs_cons, List.length_cons]
    omega
theorem table_last : ∀ (ps : List (Int × Int)) (b : Int), ps ≠ [] → ∃ b' t, (tableOf b ps).getLast? = some (b', b + longs ps, t)
  | [], _, h => absurd rfl h
  | [(t, g)], b, _ => ⟨b, t, by
    show some (b, b + g, t) = some (b, b + longs [(t, g)], t)
    rw [longs_cons]
    show some (b, b + g, t) = some (b, b + (g + 0), t)
    rw [Int.add_zero]⟩
  | (t, g) :: x :: r, b, _ => by
    obtain ⟨b', t', h⟩ := table_last (x :: r) (b + g) (by simp)
    refine ⟨b', t', ?_⟩
    have e : tableOf b ((t, g) :: x :: r) = (b, b + g, t) :: tableOf (b + g) (x :: r) := rfl
    have e2 : ∃ y ys, tableOf (b + g) (x :: r) = y :: ys := ⟨_, _, rfl⟩
    obtain ⟨y, ys, e2⟩ := e2
    rw [e, e2, List.getLast?_cons_cons, ← e2, h, longs_cons (p := (t, g)), Int.add_assoc]
theorem mulw_symm {i j : Int} (h : CMulW i j) : CMulW j i := by
  unfold CMulW at *
  omega
theorem iteNT {A B : Prop} (h : B) : if (!true) = true then A else B := by
  rw [if_neg (by decide)]
  exact h
def spLaw (K : PySem.W.Frag) : Sp := fun vs H Q _ => ∃ (a : Addr) (ns : List Int), vs = [.ref a] ∧ SqL K H a (ns.map V.int) ∧ ns.length ≤ 63 ∧ ∀ H', Q (.bl true) H'
/-! ### things made of tuples and whole numbers, looked at part by part -/
theorem lcZip {K : PySem.W.Frag} {a b : Addr} {xs ys : List V} {g : TG} {tt : TT} {te : TE} {us : List Nat} {σ : L2.St} {H1 : Hp} {D : Addr} {Qd : Hp → Prop} (hl : xs.length = ys.length) (Pv : Nat → Hp → Prop) (h0 : Pv 0 (upd H1 D (.lst []))) (hq : ∀ i H, Pv i H → SqT K H a xs ∧ SqT K H b ys)
    (hs : ∀ i x y T H, xs[i]? = some x → ys[i]? = some y → H T = none → Pv i H → g (.ref T) (wipe σ us) (upd H T (.tup [x, y])) fun σ2 H2 => wipe σ2 us = wipe σ us ∧ tt σ2 H2 fun c H3 =>
      if c = true then te σ2 H3 fun y H4 => ∃ acc, H4 D = some (.lst acc) ∧ acc.length < sizeLine ∧ Pv (i + 1) (upd H4 D (.lst (acc ++ [y]))) else Pv (i + 1) H3) (hd : ∀ H, Pv xs.length H → Qd H) :
    ∃ W : Nat → Nat → Hp → Prop, (∃ m, W 0 m (upd H1 D (.lst []))) ∧ ∀ i m H, W i m H →
      ((RZ.ItzT K a b).stop i H ∧ Qd H) ∨ ((RZ.ItzT K a b).go i H ∧ ∃ Nx : Hp → Prop, (∀ H', Nx H' → ∃ m', m' < m ∧ W (i + 1) m' H') ∧ ∀ x H', (RZ.ItzT K a b).yld i H x H' → g x (wipe σ us) H' fun σ2 H2 => wipe σ2 us = wipe σ us ∧ tt σ2 H2 fun c H3 =>
        if c = true then te σ2 H3 fun y H4 => ∃ acc, H4 D = some (.lst acc) ∧ acc.length < sizeLine ∧ Nx (upd H4 D (.lst (acc ++ [y]))) else Nx H3) := by
  refine ⟨fun i m H => i + m = xs.length ∧ Pv i H, ⟨xs.length, Nat.zero_add _, h0⟩, fun i m H ⟨em, p⟩ => ?_⟩
  obtain ⟨q1, q2⟩ := hq i H p
  by_cases hi : i < xs.length
  · have g1 : xs[i]? = some xs[i] := List.getElem?_eq_getElem hi
    have g2 : ys[i]? = some (ys[i]'(by omega)) := List.getElem?_eq_getElem (by omega)
    refine .inr ⟨⟨xs, ys, _, _, q1, q2, g1, g2⟩, Pv (i + 1), fun H' p' => ⟨m - 1, by omega, by omega, p'⟩, fun v H' hy => ?_⟩
    obtain ⟨T, x, y, rfl, nT, rfl, f1, f2⟩ := hy
    exact hs i x y T H (f1 _ q1) (f2 _ q2) nT p
  · have e : i = xs.length := by omega
    subst e
    exact .inl ⟨⟨xs, ys, q1, q2, .inl (Nat.le_refl _)⟩, hd H p⟩
theorem sqt_ty {K : PySem.W.Frag} {H : Hp} {a : Addr} {xs : List V} (h : SqT K H a xs) : TyX K H (.ref a) (.type "tuple") := by
  rcases h with (h | ⟨o, h⟩) | ⟨o, its, n, hk, hc, _⟩
  · exact .base (.tup h)
  · exact .fTuple h
  · exact .kTuple hk hc
theorem Same.sqt {K : PySem.W.Frag} {H H' : Hp} {a : Addr} {xs : List V} (e : Same H H') (h : SqT K H a xs) : SqT K H' a xs := by
  rcases h with (h | ⟨o, h⟩) | h
  · exact .inl (.inl (e _ _ h))
  · exact .inl (.inr ⟨o, e _ _ h⟩)
  · exact .inr h
inductive TI : PyData → Prop where
  | int (i : Int) : TI (.int i)
  | tup {xs : List PyData} (h : ∀ x ∈ xs, TI x) (hl : xs.length ≤ 5000) : TI (.tuple xs)
theorem depth_mem : ∀ {xs : List PyData} {x : PyData}, x ∈ xs → x.depth ≤ PyData.depthAll xs
  | y :: r, x, h => by
    show x.depth ≤ max y.depth (PyData.depthAll r)
    rcases List.mem_cons.mp h with rfl | h
    · exact Nat.le_max_left _ _
    · exact Nat.le_trans (depth_mem h) (Nat.le_max_right _ _)
mutual
theorem Dp.same {K : PySem.W.Frag} {H H' : Hp} (e : Same H H') : ∀ {v : V} (d : PyData), Dp K H v d → Dp K H' v d
  | _, .none, .non => .non
  | _, .bool _, .bl _ => .bl _
  | _, .int _, .int _ => .int _
  | _, .str _, .str _ => .str _
  | _, .list ds, .lst h a => .lst (e.seq h) (DpAll.same e ds a)
  | _, .tuple ds, .tup h a => .tup (Same.sqt e h) (DpAll.same e ds a)
theorem DpAll.same {K : PySem.W.Frag} {H H' : Hp} (e : Same H H') : ∀ {vs : List V} (ds : List PyData), DpAll K H vs ds → DpAll K H' vs ds
  | _, [], .nil => .nil
  | _, d :: ds, .cons h a => .cons (Dp.same e d h) (DpAll.same e ds a)
end
theorem DpAll.len {K : PySem.W.Frag} {H : Hp} : ∀ {vs : List V} {ds : List PyData}, DpAll K H vs ds → vs.length = ds.length
  | _, _, .nil => rfl
  | _, _, .cons _ a => congrArg (· + 1) (DpAll.len a)
theorem DpAll.at {K : PySem.W.Frag} {H : Hp} : ∀ {vs : List V} {ds : List PyData} {i : Nat} {v : V}, DpAll K H vs ds → vs[i]? = some v → ∃ d, ds[i]? = some d ∧ Dp K H v d
  | _, _, _, _, .nil, h => by simp at h
  | _, _, 0, v, .cons h a, e => ⟨_, rfl, by have e' := Option.some.inj e; rw [← e']; exact h⟩
  | _, _, i + 1, v, .cons h a, e => DpAll.at (i := i) a e
def spSame (K : PySem.W.Frag) (n : Nat) : Sp := fun vs H Q _ => ∃ (x y : V) (d : PyData), vs = [x, y] ∧ TI d ∧ d.depth < n ∧ Dp K H x d ∧ Dp K H y d ∧ ∀ H', Same H H' → Q (.bl true) H'
def wispD (s : Int) (ps : List (Int × Int)) : PyData := .tuple [.int s, .tuple (ps.map fun p => .tuple [.int p.1, .int p.2])]
theorem wisp_ti {s : Int} {ps : List (Int × Int)} (h : ps.length ≤ 5000) : TI (wispD s ps) := by
  refine .tup (fun x hx => ?_) (by show 2 ≤ 5000; decide)
  simp only [List.mem_cons, List.not_mem_nil, or_false] at hx
  rcases hx with rfl | rfl
  · exact .int _
  · refine .tup (fun x hx => ?_) (by rw [List.length_map]; exact h)
    obtain ⟨p, _, rfl⟩ := List.mem_map.mp hx
    refine .tup (fun x hx => ?_) (by show 2 ≤ 5000; decide)
    simp only [List.mem_cons, List.not_mem_nil, or_false] at hx
    rcases hx with rfl | rfl
    · exact .int _
    · exact .int _
theorem wisp_depth (s : Int) (ps : List (Int × Int)) : (wispD s ps).depth ≤ 3 := by
  have h : PyData.depthAll (ps.map fun p => PyData.tuple [.int p.1, .int p.2]) ≤ 1 := by
    induction ps with
    | nil => decide
    | cons p r ih => exact Nat.max_le.mpr ⟨by show max 0 (max 0 0) + 1 ≤ 1; decide, ih⟩
  show max 0 (max (PyData.depthAll (ps.map fun p => PyData.tuple [.int p.1, .int p.2]) + 1) 0) + 1 ≤ 3
  omega
theorem tups_dp {K : PySem.W.Frag} {H : Hp} : ∀ {as : List Addr} {ps : List (Int × Int)}, TupsAt H as (ps.map stepV) → DpAll K H (as.map V.ref) (ps.map fun p => .tuple [.int p.1, .int p.2])
  | [], [], _ => .nil
  | [], p :: r, h => absurd h.1 (by simp)
  | a :: r, [], h => absurd h.1 (by simp)
  | a :: as, p :: ps, h => by
    obtain ⟨xs, h1, h2⟩ := h.2 0 a rfl
    have e : stepV p = xs := Option.some.inj h1
    subst e
    exact .cons (.tup (SqT.of h2) (.cons (.int _) (.cons (.int _) .nil))) (tups_dp ⟨Nat.succ.inj (by simpa using h.1), fun i b hb => h.2 (i + 1) b hb⟩)
theorem WispAt.dp {K : PySem.W.Frag} {H : Hp} {a : Addr} {s : Int} {ps : List (Int × Int)} (h : WispAt H a s ps) : Dp K H (.ref a) (wispD s ps) := by
  obtain ⟨st, as, h1, h2, h3⟩ := h
  exact .tup (SqT.of h1) (.cons (.int s) (.cons (.tup (SqT.of h2) (tups_dp h3)) .nil))
/-! ### how long what repr tells is -/
/-- all numbers of a thing are below 2 ^ 400 -/
inductive Sh : PyData → Prop where
  | non : Sh .none
  | bl (b : Bool) : Sh (.bool b)
  | int {i : Int} (h : i.natAbs.log2 < 400) : Sh (.int i)
  | lst {xs : List PyData} (h : ∀ x ∈ xs, Sh x) : Sh (.list xs)
  | tup {xs : List PyData} (h : ∀ x ∈ xs, Sh x) : Sh (.tuple xs)
theorem sh_all {xs : List PyData} (h : ∀ x ∈ xs, x.showable = true ∧ x.hasDict = false ∧ x.leavesShort 401 = true) : PyData.showableAll xs = true ∧ PyData.hasDictAll xs = false ∧ PyData.leavesShortAll 401 xs = true := by
  induction xs with
  | nil => exact ⟨rfl, rfl, rfl⟩
  | cons x r ih =>
    obtain ⟨h1, h2, h3⟩ := h x (by simp)
    obtain ⟨g1, g2, g3⟩ := ih fun y hy => h y (by simp [hy])
    refine ⟨?_, ?_, ?_⟩
    · show (x.showable && PyData.showableAll r) = true
      rw [h1, g1]
      rfl
    · show (x.hasDict || PyData.hasDictAll r) = false
      rw [h2, g2]
      rfl
    · show (x.leavesShort 401 && PyData.leavesShortAll 401 r) = true
      rw [h3, g3]
      rfl
theorem Sh.ok {d : PyData} (h : Sh d) : d.showable = true ∧ d.hasDict = false ∧ d.leavesShort 401 = true := by
  induction h with
  | non => exact ⟨rfl, rfl, rfl⟩
  | bl b => exact ⟨rfl, rfl, rfl⟩
  | int h =>
    refine ⟨decide_eq_true (by omega), rfl, decide_eq_true ?_⟩
    have := int_text_length_le (by decide) h
    show (Str.ofString (toString _)).length ≤ 401
    rw [PySem.ofString_length]
    exact this
  | lst _ ih => exact sh_all ih
  | tup _ ih => exact sh_all ih
theorem Sh.fits {d : PyData} (h : Sh d) (hb : d.bulk ≤ 20000) : d.shown.length ≤ sizeLine := by
  have h1 := PyData.shown_le_bulk 401 (by decide) d h.ok.2.2
  have h2 : (401 + 2) * d.bulk ≤ (401 + 2) * 20000 := Nat.mul_le_mul_left _ hb
  rw [sizeLine_eq]
  omega
theorem log_lt {i : Int} (h0 : 0 ≤ i) (h : i < 2 ^ 250) : i.natAbs.log2 < 400 := by
  by_cases hz : i.natAbs = 0
  · rw [hz]
    decide
  · have h2 : (i.natAbs : Int) = i := by omega
    have h3 : (i.natAbs : Int) < ((2 ^ 250 : Nat) : Int) := by rw [h2]; exact h
    have h4 : i.natAbs < 2 ^ 250 := Int.ofNat_lt.mp h3
    have := (Nat.log2_lt hz).mpr h4
    omega
theorem sh_nat {i : Int} (h0 : 0 ≤ i) (h : i < 2 ^ 200) : Sh (.int i) := .int (log_lt h0 (Int.lt_trans h (by decide)))
theorem wisp_sh {s : Int} {ps : List (Int × Int)} (h0 : 0 ≤ s) (h1 : s ≤ 1) (g : Good ps) : Sh (wispD s ps) := by
  refine .tup fun x hx => ?_
  simp only [List.mem_cons, List.not_mem_nil, or_false] at hx
  rcases hx with rfl | rfl
  · exact sh_nat h0 (Int.lt_of_le_of_lt h1 (by decide))
  · refine .tup fun x hx => ?_
    obtain ⟨p, hp, rfl⟩ := List.mem_map.mp hx
    have hg := g.2.2 p hp
    refine .tup fun x hx => ?_
    simp only [List.mem_cons, List.not_mem_nil, or_false] at hx
    rcases hx with rfl | rfl
    · exact sh_nat (by omega) hg.2.1
    · exact sh_nat (by omega) hg.2.2.2
theorem wisp_bulk (s : Int) (ps : List (Int × Int)) : (wispD s ps).bulk ≤ 3 * ps.length + 2 := by
  have h : PyData.bulkAll (ps.map fun p => PyData.tuple [.int p.1, .int p.2]) = 3 * ps.length := by
    induction ps with
    | nil => rfl
    | cons p r ih =>
      show (0 + 1 + (0 + 1 + 0)) + 1 + PyData.bulkAll (r.map fun p => PyData.tuple [.int p.1, .int p.2]) = 3 * (r.length + 1)
      rw [ih]
      omega
  show 0 + 1 + (PyData.bulkAll (ps.map fun p => PyData.tuple [.int p.1, .int p.2]) + 1 + 0) ≤ 3 * ps.length + 2
  omega
theorem last_row {H : Hp} {as : List Addr} {ps : List (Int × Int)} (tu : TupsAt H as ((tableOf 0 ps).map rowV)) (gd : 1 ≤ ps.length) : ∃ z b t, atI (as.map V.ref) (-1) = some (.ref z) ∧ H z = some (.tup [.int b, .int (longs ps), .int t]) := by
  have hne : ps ≠ [] := fun e => by
    rw [e] at gd
    exact absurd gd (by decide)
  obtain ⟨b', t', hl⟩ := table_last ps 0 hne
  rw [Int.zero_add, List.getLast?_eq_getElem?] at hl
  have hlen : as.length = (tableOf 0 ps).length := by
    have := tu.1
    rw [List.length_map] at this
    exact this
  have hpos : 0 < (tableOf 0 ps).length := by
    rw [table_len]
    omega
  have hi : (tableOf 0 ps).length - 1 < as.length := by omega
  have e1 : (as.map V.ref)[(tableOf 0 ps).length - 1]? = some (.ref as[(tableOf 0 ps).length - 1]) := by
    rw [List.getElem?_map, List.getElem?_eq_getElem hi]
    rfl
  obtain ⟨z, b, c, d, e2, e3, e4⟩ := row_get tu e1
  rw [hl] at e3
  have e5 := Option.some.inj e3
  obtain ⟨e6, e7⟩ := Prod.mk.inj e5
  obtain ⟨e8, e9⟩ := Prod.mk.inj e7
  rw [← e6, ← e8, ← e9] at e4
  refine ⟨z, b', t', ?_, e4⟩
  have h0 : as.map V.ref ≠ [] := fun e => by
    have := congrArg List.length e
    rw [List.length_map, hlen] at this
    have this : (tableOf 0 ps).length = 0 := this
    omega
  have h2 : (as.map V.ref).getLast h0 = .ref z := by
    have := List.getLast?_eq_getLast h0
    rw [List.getLast?_eq_getElem?, List.length_map, hlen, e1] at this
    exact (Option.some.inj this).symm.trans e2
  have h1 := List.dropLast_concat_getLast h0
  rw [h2] at h1
  rw [← h1]
  exact atI_last _ _
theorem longs_lt {ps : List (Int × Int)} (g : Good ps) : longs ps < 2 ^ 204 := by
  have h : ∀ qs : List (Int × Int), (∀ p ∈ qs, p.2 < 2 ^ 200) → longs qs ≤ qs.length * 2 ^ 200 := by
    intro qs
    induction qs with
    | nil => intro _; decide
    | cons p r ih =>
      intro hq
      have h1 := hq p (by simp)
      have h2 := ih fun x hx => hq x (by simp [hx])
      rw [longs_cons, List.length_cons, Int.natCast_add, Int.add_mul]
      have h3 : ((1 : Nat) : Int) * 2 ^ 200 = 2 ^ 200 := by decide
      rw [h3]
      omega
  have h1 := h ps fun p hp => (g.2.2 p hp).2.2.2
  have h2 : (ps.length : Int) * 2 ^ 200 ≤ 10 * 2 ^ 200 := Int.mul_le_mul_of_nonneg_right (by have := g.2.1; omega) (by decide)
  have h3 : (10 : Int) * 2 ^ 200 < 2 ^ 204 := by decide
  omega
theorem fit_of {b : Int} (h0 : 1 ≤ b) (h : b < 2 ^ 210) : CDivW 0 b := by
  refine wide_div (b := 210) (by omega) ?_ (by decide) (by decide)
  have h2 : (b.natAbs : Int) = b := by omega
  have h3 : (b.natAbs : Int) < ((2 ^ 210 : Nat) : Int) := by rw [h2]; exact h
  exact Int.ofNat_lt.mp h3
def spRightG : Sp := fun vs H Q _ => ∃ (p l : Addr) (T : Nat) (a : Addr) (s : Int) (ps : List (Int × Int)), vs = [.ref p, .ref a] ∧ Pot H p l T ∧ T < 2 ^ 36 ∧ WispAt H a s ps ∧ Good ps ∧ 0 ≤ s ∧ s ≤ 1 ∧
  ∀ (H' : Hp), Pot H' p l (T + 2000) → Keep p l H H' → Q (.bl true) H'
theorem int_get {ns : List Int} {i : Nat} {x : V} (h : (ns.map V.int)[i]? = some x) : ∃ n, x = .int n ∧ ns[i]? = some n := by
  rw [List.getElem?_map] at h
  cases q : ns[i]? with
  | none =>
    rw [q] at h
    cases h
  | some n =>
    rw [q] at h
    exact ⟨n, (Option.some.inj h).symm, rfl⟩
theorem filter_take_succ {α : Type} {l : List α} {i : Nat} {x : α} (p : α → Bool) (h : l[i]? = some x) : (l.take (i + 1)).filter p = (l.take i).filter p ++ (if p x = true then [x] else []) := by
  rw [List.take_add_one, h, List.filter_append]
  show _ ++ List.filter p [x] = _
  rw [List.filter_cons]
  rfl
/-! ### heads -/
def headOf : List (Int × Int) → Int → List (Int × Int)
  | [], _ => []
  | (t, g) :: r, k => (if 0 < k then [(t, if k < g then k else g)] else []) ++ headOf r (k - g)
theorem head_none : ∀ (ps : List (Int × Int)) (k : Int), k ≤ 0 → (∀ p ∈ ps, 1 ≤ p.2) → headOf ps k = []
  | [], _, _, _ => rfl
  | (t, g) :: r, k, h, hg => by
    have h1 : 1 ≤ g := hg (t, g) (by simp)
    show (if 0 < k then _ else []) ++ headOf r (k - g) = []
    rw [if_neg (by omega), head_none r (k - g) (by omega) fun x hx => hg x (by simp [hx])]
    rfl
theorem head_thick : ∀ (ps : List (Int × Int)) (k j : Int), 0 ≤ j → (∀ p ∈ ps, 1 ≤ p.2) → thickAt (headOf ps k) j = if j < k then thickAt ps j else 0
  | [], k, j, _, _ => by
    show (0 : Int) = if j < k then 0 else 0
    split <;> rfl
  | (t, g) :: r, k, j, hj, hg => by
    have h1 : 1 ≤ g := hg (t, g) (by simp)
    have hr : ∀ p ∈ r, 1 ≤ p.2 := fun x hx => hg x (by simp [hx])
    by_cases hk : 0 < k
    · have e : headOf ((t, g) :: r) k = (t, if k < g then k else g) :: headOf r (k - g) := by
        show (if 0 < k then _ else []) ++ headOf r (k - g) = _
        rw [if_pos hk]
        rfl
      rw [e]
      show (if j < (if k < g then k else g) then t else thickAt (headOf r (k - g)) (j - (if k < g then k else g))) = if j < k then (if j < g then t else thickAt r (j - g)) else 0
      by_cases h2 : k < g
      · rw [if_pos h2, head_none r (k - g) (by omega) hr]
        by_cases h3 : j < k
        · rw [if_pos h3, if_pos h3, if_pos (by omega)]
        · rw [if_neg h3, if_neg h3]
          rfl
      · rw [if_neg h2]
        by_cases h3 : j < g
        · rw [if_pos h3, if_pos (show j < k by omega), if_pos h3]
        · rw [if_neg h3, head_thick r (k - g) (j - g) (by omega) hr]
          by_cases h4 : j < k
          · rw [if_pos h4, if_pos (show j - g < k - g by omega), if_neg h3]
          · rw [if_neg h4, if_neg (show ¬ j - g < k - g by omega)]
    · rw [head_none _ k (by omega) hg, if_neg (by omega)]
      rfl
theorem head_longs : ∀ (ps : List (Int × Int)) (k : Int), 0 ≤ k → k ≤ longs ps → (∀ p ∈ ps, 1 ≤ p.2) → longs (headOf ps k) = k
  | [], k, h0, h1, _ => by
    have : longs [] = 0 := rfl
    show (0 : Int) = k
    omega
  | (t, g) :: r, k, h0, h1, hg => by
    have hg1 : 1 ≤ g := hg (t, g) (by simp)
    have hr : ∀ p ∈ r, 1 ≤ p.2 := fun x hx => hg x (by simp [hx])
    rw [longs_cons] at h1
    have h1 : k ≤ g + longs r := h1
    by_cases hk : 0 < k
    · have e : headOf ((t, g) :: r) k = (t, if k < g then k else g) :: headOf r (k - g) := by
        show (if 0 < k then _ else []) ++ headOf r (k - g) = _
        rw [if_pos hk]
        rfl
      rw [e, longs_cons]
      show (if k < g then k else g) + longs (headOf r (k - g)) = k
      by_cases h2 : k < g
      · rw [if_pos h2, head_none r (k - g) (by omega) hr]
        show k + 0 = k
        omega
      · rw [if_neg h2, head_longs r (k - g) (by omega) (by omega) hr]
        omega
    · rw [head_none _ k (by omega) hg]
      show (0 : Int) = k
      omega
theorem head_all : ∀ (ps : List (Int × Int)) (k : Int), longs ps ≤ k → (∀ p ∈ ps, 1 ≤ p.2) → headOf ps k = ps
  | [], _, _, _ => rfl
  | (t, g) :: r, k, h, hg => by
    have hg1 : 1 ≤ g := hg (t, g) (by simp)
    have hr : ∀ p ∈ r, 1 ≤ p.2 := fun x hx => hg x (by simp [hx])
    rw [longs_cons] at h
    have h : g + longs r ≤ k := h
    have h0 := longs_nonneg hr
    show (if 0 < k then [(t, if k < g then k else g)] else []) ++ headOf r (k - g) = (t, g) :: r
    rw [if_pos (by omega), if_neg (by omega), head_all r (k - g) (by omega) hr]
    rfl
theorem head_mem : ∀ {ps : List (Int × Int)} {k : Int} {p : Int × Int}, p ∈ headOf ps k → ∃ g, (p.1, g) ∈ ps ∧ 1 ≤ p.2 + (if 1 ≤ g then 0 else 1 - g) ∧ p.2 ≤ g
  | [], _, _, h => by cases h
  | (t, g) :: r, k, p, h => by
    have h : p ∈ (if 0 < k then [(t, if k < g then k else g)] else []) ++ headOf r (k - g) := h
    rcases List.mem_append.mp h with h | h
    · by_cases hk : 0 < k
      · rw [if_pos hk] at h
        simp only [List.mem_cons, List.not_mem_nil, or_false] at h
        subst h
        refine ⟨g, by simp, ?_, ?_⟩
        · show 1 ≤ (if k < g then k else g) + (if 1 ≤ g then 0 else 1 - g)
          split <;> split <;> omega
        · show (if k < g then k else g) ≤ g
          split <;> omega
      · rw [if_neg hk] at h
        cases h
    · obtain ⟨g', h1, h2⟩ := head_mem h
      exact ⟨g', by simp [h1], h2⟩
theorem head_len : ∀ (ps : List (Int × Int)) (k : Int), (headOf ps k).length ≤ ps.length
  | [], _ => Nat.le_refl _
  | (t, g) :: r, k => by
    show ((if 0 < k then [(t, if k < g then k else g)] else []) ++ headOf r (k - g)).length ≤ r.length + 1
    rw [List.length_append]
    have := head_len r (k - g)
    split
    · show 1 + _ ≤ _
      omega
    · show 0 + _ ≤ _
      omega
theorem head_good {ps : List (Int × Int)} {k : Int} (g : Good ps) (h : 1 ≤ k) : Good (headOf ps k) := by
  refine ⟨?_, Nat.le_trans (head_len ps k) g.2.1, fun p hp => ?_⟩
  · cases ps with
    | nil => exact absurd g.1 (by decide)
    | cons p r =>
      show 1 ≤ ((if 0 < k then [(p.1, if k < p.2 then k else p.2)] else []) ++ headOf r (k - p.2)).length
      rw [if_pos (by omega), List.length_append]
      show 1 ≤ 1 + _
      omega
  · obtain ⟨g', h1, h2, h3⟩ := head_mem hp
    have h4 := g.2.2 _ h1
    rw [if_pos h4.2.2.1] at h2
    exact ⟨h4.1, h4.2.1, by omega, Int.lt_of_le_of_lt h3 h4.2.2.2⟩
abbrev headStep (k : Int) (t : Int × Int × Int) : Int × Int := (t.2.2, (if k < t.2.1 then k else t.2.1) - t.1)
theorem head_table : ∀ (ps : List (Int × Int)) (b k : Int), ((tableOf b ps).filter fun t => decide (t.1 < k)).map (headStep k) = headOf ps (k - b)
  | [], _, _ => rfl
  | (t, g) :: r, b, k => by
    have ih := head_table r (b + g) k
    show (((b, b + g, t) :: tableOf (b + g) r).filter fun t => decide (t.1 < k)).map (headStep k) = (if 0 < k - b then [(t, if k - b < g then k - b else g)] else []) ++ headOf r (k - b - g)
    rw [List.filter_cons, show k - b - g = k - (b + g) by omega, ← ih]
    by_cases h : b < k
    · rw [if_pos (decide_eq_true h), if_pos (show 0 < k - b by omega), List.map_cons]
      have e : headStep k (b, b + g, t) = (t, if k - b < g then k - b else g) := by
        show (t, (if k < b + g then k else b + g) - b) = _
        by_cases h2 : k - b < g
        · rw [if_pos h2, if_pos (by omega)]
        · rw [if_neg h2, if_neg (by omega), show b + g - b = g by omega]
      rw [e]
      rfl
    · rw [if_neg (fun z => h (of_decide_eq_true z)), if_neg (show ¬ 0 < k - b by omega)]
      rfl
def spHead : Sp := fun vs H Q _ => ∃ (a : Addr) (s : Int) (ps : List (Int × Int)) (k : Int), vs = [.ref a, .int k] ∧ WispAt H a s ps ∧ ps.length ≤ 10 ∧ ∀ H' b, Same H H' → H b = none → WispAt H' b s (headOf ps k) → Q (.ref b) H'
/-! ### tails -/
def tailOf : List (Int × Int) → Int → List (Int × Int)
  | [], _ => []
  | (t, g) :: r, k => (if k < g then [(t, g - (if 0 > k then 0 else k))] else []) ++ tailOf r (k - g)
theorem tail_neg : ∀ (ps : List (Int × Int)) (k : Int), k ≤ 0 → (∀ p ∈ ps, 1 ≤ p.2) → tailOf ps k = ps
  | [], _, _, _ => rfl
  | (t, g) :: r, k, h, hg => by
    have h1 : 1 ≤ g := hg (t, g) (by simp)
    show (if k < g then [(t, g - (if 0 > k then 0 else k))] else []) ++ tailOf r (k - g) = (t, g) :: r
    rw [if_pos (by omega), tail_neg r (k - g) (by omega) fun x hx => hg x (by simp [hx])]
    have e : g - (if 0 > k then 0 else k) = g := by split <;> omega
    rw [e]
    rfl
theorem tail_lt {t g k : Int} {r : List (Int × Int)} (h0 : 0 ≤ k) (h : k < g) (hr : ∀ p ∈ r, 1 ≤ p.2) : tailOf ((t, g) :: r) k = (t, g - k) :: r := by
  show (if k < g then [(t, g - (if 0 > k then 0 else k))] else []) ++ tailOf r (k - g) = _
  rw [if_pos h, if_neg (by omega), tail_neg r (k - g) (by omega) hr]
  rfl
theorem tail_ge {t g k : Int} {r : List (Int × Int)} (h : g ≤ k) : tailOf ((t, g) :: r) k = tailOf r (k - g) := by
  show (if k < g then [(t, g - (if 0 > k then 0 else k))] else []) ++ tailOf r (k - g) = _
  rw [if_neg (by omega)]
  rfl
theorem tail_thick : ∀ (ps : List (Int × Int)) (k j : Int), 0 ≤ k → 0 ≤ j → (∀ p ∈ ps, 1 ≤ p.2) → thickAt (tailOf ps k) j = thickAt ps (k + j)
  | [], _, _, _, _, _ => rfl
  | (t, g) :: r, k, j, hk, hj, hg => by
    have hr : ∀ p ∈ r, 1 ≤ p.2 := fun x hx => hg x (by simp [hx])
    by_cases h : k < g
    · rw [tail_lt hk h hr]
      show (if j < g - k then t else thickAt r (j - (g - k))) = if k + j < g then t else thickAt r (k + j - g)
      by_cases h2 : k + j < g
      · rw [if_pos h2, if_pos (by omega)]
      · rw [if_neg h2, if_neg (by omega), show j - (g - k) = k + j - g by omega]
    · rw [tail_ge (by omega), tail_thick r (k - g) j (by omega) hj hr]
      show _ = if k + j < g then t else thickAt r (k + j - g)
      rw [if_neg (by omega), show k - g + j = k + j - g by omega]
theorem tail_longs : ∀ (ps : List (Int × Int)) (k : Int), 0 ≤ k → k ≤ longs ps → (∀ p ∈ ps, 1 ≤ p.2) → longs (tailOf ps k) = longs ps - k
  | [], k, h0, h1, _ => by
    have : longs [] = 0 := rfl
    show (0 : Int) = 0 - k
    omega
  | (t, g) :: r, k, h0, h1, hg => by
    have hr : ∀ p ∈ r, 1 ≤ p.2 := fun x hx => hg x (by simp [hx])
    rw [longs_cons] at h1 ⊢
    have h1 : k ≤ g + longs r := h1
    show _ = g + longs r - k
    by_cases h : k < g
    · rw [tail_lt h0 h hr, longs_cons]
      show g - k + longs r = _
      omega
    · rw [tail_ge (by omega), tail_longs r (k - g) (by omega) (by omega) hr]
      omega
theorem tail_weigh : ∀ (ps : List (Int × Int)) (k : Int), 0 ≤ k → (∀ p ∈ ps, 1 ≤ p.2) → weigh (headOf ps k) + weigh (tailOf ps k) = weigh ps
  | [], _, _, _ => rfl
  | (t, g) :: r, k, h0, hg => by
    have hr : ∀ p ∈ r, 1 ≤ p.2 := fun x hx => hg x (by simp [hx])
    have hg1 : 1 ≤ g := hg (t, g) (by simp)
    by_cases hk : 0 < k
    · have e : headOf ((t, g) :: r) k = (t, if k < g then k else g) :: headOf r (k - g) := by
        show (if 0 < k then _ else []) ++ headOf r (k - g) = _
        rw [if_pos hk]
        rfl
      rw [e, weigh_cons]
      by_cases h : k < g
      · rw [tail_lt h0 h hr, if_pos h, head_none r (k - g) (by omega) hr, weigh_cons, weigh_cons]
        show t * k + 0 + (t * (g - k) + weigh r) = t * g + weigh r
        rw [Int.mul_sub]
        omega
      · rw [tail_ge (by omega), if_neg h, weigh_cons]
        have ih := tail_weigh r (k - g) (by omega) hr
        show t * g + weigh (headOf r (k - g)) + weigh (tailOf r (k - g)) = t * g + weigh r
        omega
    · rw [head_none _ k (by omega) hg, tail_neg _ k (by omega) hg]
      show 0 + _ = _
      omega
theorem head_pos {ps : List (Int × Int)} {k : Int} (hg : ∀ p ∈ ps, 1 ≤ p.2) : ∀ p ∈ headOf ps k, 1 ≤ p.2 := fun p hp => by
  obtain ⟨g, h1, h2, _⟩ := head_mem hp
  have h3 := hg _ h1
  rw [if_pos h3] at h2
  omega
theorem tail_head : ∀ (ps : List (Int × Int)) (k m : Int), 0 ≤ k → 1 ≤ m → (∀ p ∈ ps, 1 ≤ p.2) → headOf (tailOf ps k) m = tailOf (headOf ps (k + m)) k
  | [], _, _, _, _, _ => rfl
  | (t, g) :: r, k, m, h0, h1, hg => by
    have hr : ∀ p ∈ r, 1 ≤ p.2 := fun x hx => hg x (by simp [hx])
    have e : headOf ((t, g) :: r) (k + m) = (t, if k + m < g then k + m else g) :: headOf r (k + m - g) := by
      show (if 0 < k + m then _ else []) ++ headOf r (k + m - g) = _
      rw [if_pos (by omega)]
      rfl
    rw [e]
    by_cases h : k < g
    · rw [tail_lt h0 h hr, tail_lt h0 (by split <;> omega) (head_pos hr)]
      show (if 0 < m then [(t, if m < g - k then m else g - k)] else []) ++ headOf r (m - (g - k)) = _
      rw [if_pos (by omega), show m - (g - k) = k + m - g by omega]
      by_cases h2 : k + m < g
      · rw [if_pos h2, if_pos (by omega), show k + m - k = m by omega]
        rfl
      · rw [if_neg h2, if_neg (by omega)]
        rfl
    · rw [tail_ge (by omega), tail_ge (by split <;> omega), if_neg (by omega), tail_head r (k - g) m (by omega) h1 hr, show k - g + m = k + m - g by omega]
theorem tail_len : ∀ (ps : List (Int × Int)) (k : Int), (tailOf ps k).length ≤ ps.length
  | [], _ => Nat.le_refl _
  | (t, g) :: r, k => by
    show ((if k < g then [(t, g - (if 0 > k then 0 else k))] else []) ++ tailOf r (k - g)).length ≤ r.length + 1
    rw [List.length_append]
    have := tail_len r (k - g)
    split
    · show 1 + _ ≤ _
      omega
    · show 0 + _ ≤ _
      omega
theorem tail_mem : ∀ {ps : List (Int × Int)} {k : Int} {p : Int × Int}, p ∈ tailOf ps k → ∃ g, (p.1, g) ∈ ps ∧ (1 ≤ g → 1 ≤ p.2) ∧ p.2 ≤ g
  | [], _, _, h => by cases h
  | (t, g) :: r, k, p, h => by
    have h : p ∈ (if k < g then [(t, g - (if 0 > k then 0 else k))] else []) ++ tailOf r (k - g) := h
    rcases List.mem_append.mp h with h | h
    · by_cases hk : k < g
      · rw [if_pos hk] at h
        simp only [List.mem_cons, List.not_mem_nil, or_false] at h
        subst h
        refine ⟨g, by simp, fun h => ?_, ?_⟩
        · show 1 ≤ g - (if 0 > k then 0 else k)
          split <;> omega
        · show g - (if 0 > k then 0 else k) ≤ g
          split <;> omega
      · rw [if_neg hk] at h
        cases h
    · obtain ⟨g', h1, h2⟩ := tail_mem h
      exact ⟨g', by simp [h1], h2⟩
theorem tail_good {ps : List (Int × Int)} {k : Int} (g : Good ps) (h0 : 0 ≤ k) (h : k < longs ps) : Good (tailOf ps k) := by
  have hg : ∀ p ∈ ps, 1 ≤ p.2 := fun x hx => (g.2.2 x hx).2.2.1
  refine ⟨?_, Nat.le_trans (tail_len ps k) g.2.1, fun p hp => ?_⟩
  · have h1 := tail_longs ps k h0 (by omega) hg
    cases q : tailOf ps k with
    | nil =>
      rw [q] at h1
      have : longs [] = 0 := rfl
      omega
    | cons _ _ => exact Nat.succ_le_succ (Nat.zero_le _)
  · obtain ⟨g', h1, h2, h3⟩ := tail_mem hp
    have h4 := g.2.2 _ h1
    exact ⟨h4.1, h4.2.1, h2 h4.2.2.1, Int.lt_of_le_of_lt h3 h4.2.2.2⟩
abbrev tailStep (k : Int) (t : Int × Int × Int) : Int × Int := (t.2.2, t.2.1 - (if k > t.1 then k else t.1))
theorem tail_table : ∀ (ps : List (Int × Int)) (b k : Int), ((tableOf b ps).filter fun t => decide (k < t.2.1)).map (tailStep k) = tailOf ps (k - b)
  | [], _, _ => rfl
  | (t, g) :: r, b, k => by
    have ih := tail_table r (b + g) k
    show (((b, b + g, t) :: tableOf (b + g) r).filter fun t => decide (k < t.2.1)).map (tailStep k) = (if k - b < g then [(t, g - (if 0 > k - b then 0 else k - b))] else []) ++ tailOf r (k - b - g)
    rw [List.filter_cons, show k - b - g = k - (b + g) by omega, ← ih]
    by_cases h : k < b + g
    · rw [if_pos (decide_eq_true h), if_pos (show k - b < g by omega), List.map_cons]
      have e : tailStep k (b, b + g, t) = (t, g - (if 0 > k - b then 0 else k - b)) := by
        show (t, b + g - (if k > b then k else b)) = _
        refine congrArg (Prod.mk t) ?_
        split <;> split <;> omega
      rw [e]
      rfl
    · rw [if_neg (fun z => h (of_decide_eq_true z)), if_neg (show ¬ k - b < g by omega)]
      rfl
def spTail : Sp := fun vs H Q _ => ∃ (a : Addr) (s : Int) (ps : List (Int × Int)) (k : Int), vs = [.ref a, .int k] ∧ WispAt H a s ps ∧ ps.length ≤ 10 ∧ ∀ H' b, Same H H' → H b = none → WispAt H' b s (tailOf ps k) → Q (.ref b) H'
/-! ### max(numbers, default=d) -/
section
variable {prog : Program} {w : World} {A : Around} {R : Result → Shared → Prop} {I : Addr} {fp wr : List Addr} {n : Nat} {P : Nat → Value → Prop} {St : Nat → Heap → Prop}
theorem maxLoopD (W : Walks prog w A.in1 I fp wr n P St) (bt : Nat → Nat → Bool) (cm : CmpOf prog w A.in1 .Gt P bt) (S : Addr) (nS : S ∉ fp) (dv : Value) : ∀ (k j : Nat) (t : Shared) (vb : Value) (c : Nat), n - (j + 1) = k → j + 1 ≤ n → St (j + 1) t.heap → P (argBest bt j) vb →
    t.heap.get? S = some { cls := .type "list", dict := none, data := .seq #[vb, vb] c, slots := #[] } → (∀ v h' tk, P (argBest bt (n - 1)) v → (∀ b o, b ∉ wr → b ≠ S → t.heap.get? b = some o → h'.get? b = some o) → R (.ok (.ret v)) { t with heap := h', toks := tk }) →
    codeAny (model prog w) A (.builtin "max.loop" ⟨[.ref I, .none, .ref S], [("default", dv)]⟩) R t := by
  have nW : S ∉ wr := fun h => nS (W.sub _ h)
  have nm : (toString "max" ++ toString ".loop" : String) = "max.loop" := by decide
  intro k
  induction k with
  | zero =>
    intro j t vb c ek hj st pb eS r
    have en : j + 1 = n := by omega
    refine codeAny_builtin F.entry_max_loop ?_
    rw [Around.under_plainId F.plain_max_loop _]
    refine wpAny_bind (wpAny_seqItems eS rfl (wpAny_bind (wpAny_tryCatch (W.done t _ _ (en ▸ st) fun h' tk ke => ?_))))
    refine wpAny_bind (wpAny_updateSeq (ke S _ nW eS) rfl (wpAny_bind (wpAny_letGo (wpAny_pure ?_))))
    exact r vb _ tk (by rw [← en]; exact pb) fun b o nb nb2 e => (Heap.get?_update_other _ _ (Ne.symm nb2)).trans (ke b o nb e)
  | succ k ih =>
    intro j t vb c ek hj st pb eS r
    have hj2 : j + 1 < n := by omega
    refine codeAny_builtin F.entry_max_loop ?_
    rw [Around.under_plainId F.plain_max_loop _]
    refine wpAny_bind (wpAny_seqItems eS rfl (wpAny_bind (wpAny_tryCatch (W.item (j + 1) t _ _ hj2 st fun v h' tk pv st' ke => ?_))))
    have eS' := ke S _ nW eS
    show wpAny _ A.in1 (tryCatch (holding [v, v] (richCompare .Gt v vb >>= _)) _ >>= _) _ _ _
    refine wpAny_bind (wpAny_tryCatch (wpAny_holding (wpAny_bind (cm (j + 1) (argBest bt j) v vb _ _ _ pv pb (wpAny_bind (wpAny_holding (wpAny_truthy_bool (wpAny_bind (wpAny_letGo (wpAny_pure ?_))))))))))
    cases hb : bt (j + 1) (argBest bt j) with
    | true =>
      simp only [if_true]
      refine wpAny_bind (wpAny_updateSeq eS' rfl (wpAny_bind (wpAny_letGo ?_)))
      rw [nm]
      refine wpAny_pure ⟨plainId_quiet F.plain_max_loop _, ih (j + 1) _ v _ (by omega) hj2 (W.frame _ _ _ st' fun b fb o e => ?_) (by simp only [argBest, hb, if_true]; exact pv) (Heap.get?_update_self _ eS' rfl) fun v2 h2 tk2 p2 ke2 => ?_⟩
      · exact (Heap.get?_update_other _ _ (fun z : S = b => nS (by rw [z]; exact fb))).trans e
      · exact r v2 h2 tk2 p2 fun b o nb nb2 e => ke2 b o nb nb2 ((Heap.get?_update_other _ _ (Ne.symm nb2)).trans (ke b o nb e))
    | false =>
      simp only [Bool.false_eq_true, if_false]
      refine wpAny_bind (wpAny_letGo ?_)
      rw [nm]
      refine wpAny_pure ⟨plainId_quiet F.plain_max_loop _, ih (j + 1) _ vb c (by omega) hj2 st' (by simp only [argBest, hb, Bool.false_eq_true, if_false]; exact pb) eS' fun v2 h2 tk2 p2 ke2 => ?_⟩
      exact r v2 h2 tk2 p2 fun b o nb nb2 e => ke2 b o nb nb2 (ke b o nb e)
theorem maxFirstD (W : Walks prog w A.in1 I fp wr n P St) (bt : Nat → Nat → Bool) (cm : CmpOf prog w A.in1 .Gt P bt) (S : Addr) (nS : S ∉ fp) (dv : Value) {t : Shared} {c : Nat} (st : St 0 t.heap) (eS : t.heap.get? S = some { cls := .type "list", dict := none, data := .seq #[] c, slots := #[] })
    (r : ∀ v h' tk, (n = 0 ∧ v = dv ∨ 0 < n ∧ P (argBest bt (n - 1)) v) → (∀ b o, b ∉ wr → b ≠ S → t.heap.get? b = some o → h'.get? b = some o) → R (.ok (.ret v)) { t with heap := h', toks := tk }) :
    codeAny (model prog w) A (.builtin "max.loop" ⟨[.ref I, .none, .ref S], [("default", dv)]⟩) R t := by
  have nW : S ∉ wr := fun h => nS (W.sub _ h)
  have nm : (toString "max" ++ toString ".loop" : String) = "max.loop" := by decide
  refine codeAny_builtin F.entry_max_loop ?_
  rw [Around.under_plainId F.plain_max_loop _]
  by_cases hn : 0 < n
  · refine wpAny_bind (wpAny_seqItems eS rfl (wpAny_bind (wpAny_tryCatch (W.item 0 t _ _ hn st fun v h' tk pv st' ke => ?_))))
    have eS' := ke S _ nW eS
    show wpAny _ A.in1 (updateSeq S (fun _ => #[v, v]) >>= _) _ _ _
    refine wpAny_bind (wpAny_updateSeq eS' rfl ?_)
    rw [nm]
    refine wpAny_pure ⟨plainId_quiet F.plain_max_loop _, maxLoopD W bt cm S nS dv _ 0 _ v _ rfl hn (W.frame _ _ _ st' fun b fb o e => ?_) pv (Heap.get?_update_self _ eS' rfl) fun v2 h2 tk2 p2 ke2 => ?_⟩
    · exact (Heap.get?_update_other _ _ (fun z : S = b => nS (by rw [z]; exact fb))).trans e
    · exact r v2 h2 tk2 (.inr ⟨hn, p2⟩) fun b o nb nb2 e => ke2 b o nb nb2 ((Heap.get?_update_other _ _ (Ne.symm nb2)).trans (ke b o nb e))
  · have n0 : n = 0 := by omega
    refine wpAny_bind (wpAny_seqItems eS rfl (wpAny_bind (wpAny_tryCatch (W.done t _ _ (n0 ▸ st) fun h' tk ke => ?_))))
    refine wpAny_bind (wpAny_rule (wpAny_pure ?_))
    exact r dv h' tk (.inl ⟨n0, rfl⟩) fun b o nb _ e => ke b o nb e
end
theorem args_maxD (a d : Value) : argsOk "max" ⟨[a], [("default", d)]⟩ := by unfold argsOk; kernel_rfl
theorem maxD_walk {prog : Program} {w : World} {A : Around} {E : Value → Shared → Prop} {t : Shared} {x dv : Value} {Q : Value → Shared → Prop} (h : wpAny (model prog w) A.in1 (pyIter x) (fun it t2 => ∃ I fp wr n P St bt, it = .ref I ∧ Walks prog w A.in1 I fp wr n P St ∧ St 0 t2.heap ∧ (∀ b ∈ fp, b < t2.heap.objs.size) ∧ CmpOf prog w A.in1 .Gt P bt ∧
      ∀ v h' tk, (n = 0 ∧ v = dv ∨ 0 < n ∧ P (argBest bt (n - 1)) v) → (∀ b o, b ∉ wr → t2.heap.get? b = some o → h'.get? b = some o) → Q v { t2 with heap := h', toks := tk }) E t) : wpAny (model prog w) A (call (.builtin "max") [x] [("default", dv)]) Q E t := by
  have nm : (toString "max" ++ toString ".loop" : String) = "max.loop" := by decide
  refine PyProof.Rows.kmk_tree PySem.F.kind_max PySem.F.plain_max PySem.F.entry_max (args_maxD _ _) ?_
  refine wpAny_bind (wpAny_of_eq (show Builtin.Builtins.bindParams "max" ["key", "default"] 0 ⟨[], [(Str.ofString "default", dv)]⟩ = pure [none, some dv] from rfl) ?_)
  refine wpAny_bind (wpAny_pure (wpAny_bind (wpAny_mono h (fun it t2 h2 => ?_) fun _ _ e => e)))
  obtain ⟨I, fp, wr, n, P, St, bt, rfl, W, st, hfp, cm, r⟩ := h2
  refine wpAny_bind (wpAny_newObj_type ?_)
  have nS : t2.heap.objs.size ∉ fp := fun hm => Nat.lt_irrefl _ (hfp _ hm)
  rw [nm]
  refine wpAny_pure ⟨plainId_quiet F.plain_max_loop _, maxFirstD W bt cm t2.heap.objs.size nS dv (W.frame _ _ _ st fun b _ o e => Heap.get?_push_of_some _ e) (Heap.get?_push_size _ rfl) fun v h' tk hv hk => ?_⟩
  exact r v h' tk hv fun b o nb e => hk b o nb (Nat.ne_of_lt (Heap.lt_size e)) (Heap.get?_push_of_some _ e)
theorem maxD_raw {prog : Program} {w : World} {A : Around} {E : Value → Shared → Prop} {t : Shared} {l : Addr} {its : List Value} {ns : List Int} {dv : Value} {Q : Value → Shared → Prop} (hh : A.handled = none) (hl : t.heap.IsList l its.toArray) (hi : IntsAre its ns)
    (r : ∀ v h' tk, (∀ b o, t.heap.get? b = some o → h'.get? b = some o) → (ns = [] ∧ v = dv ∨ ∃ M u, v = .int M u ∧ M ∈ ns ∧ ∀ y, y ∈ ns → y ≤ M) → Q v { t with heap := h', toks := tk }) : wpAny (model prog w) A (call (.builtin "max") [.ref l] [("default", dv)]) Q E t := by
  obtain ⟨xs, e⟩ := hi.allInts.items
  have hn : numsOf (intItems xs).toList = ns := by rw [← e]; exact hi.numsOf
  rw [nums_intItems] at hn
  subst hn
  rw [e] at hl
  refine maxD_walk (iter_intList hl fun t2 e2 st hfp hlI => ?_)
  subst e2
  refine ⟨_, _, _, _, _, _, _, rfl, Walks.list (A := A.in1) hh _ l hlI (intItems xs), st, hfp, CmpOf.ints_gt (numAt xs) (fun _ _ => intItems_at), fun v h' tk hv hk => ?_⟩
  refine r v h' tk (old_kept hk) ?_
  rcases hv with ⟨h0, rfl⟩ | ⟨h0, hv⟩
  · refine .inl ⟨?_, rfl⟩
    have : xs.size = 0 := by simpa [intItems] using h0
    have : xs.toList = [] := List.eq_nil_of_length_eq_zero (by simpa using this)
    rw [this]
    rfl
  · have hs : 0 < xs.size := by simpa [intItems] using h0
    have hv : (intItems xs)[argBest (fun i j => decide (numAt xs i > numAt xs j)) (xs.size - 1)]? = some v := by simpa [intItems] using hv
    obtain ⟨u, rfl⟩ := intItems_at hv
    obtain ⟨h1, h2⟩ := argBest_gt (numAt xs) (xs.size - 1)
    refine .inr ⟨_, u, rfl, ?_, fun y hy => ?_⟩
    · rw [numAt_eq]
      exact PySem.getD_mem (by rw [List.length_map, Array.length_toList]; omega)
    · obtain ⟨j, hj, rfl⟩ := mem_getD hy
      rw [List.length_map, Array.length_toList] at hj
      rw [← numAt_eq]
      exact h2 j (by omega)
def rMaxD (K : PySem.W.Frag) : List V → List V → Hp → VK → Prop := fun xs zs H Q => ∃ (a : Addr) (ns : List Int) (d : Int), xs = [.ref a] ∧ zs = [.int d] ∧ SqL K H a (ns.map V.int) ∧ ∀ m, (ns = [] ∧ m = d ∨ m ∈ ns ∧ ∀ y, y ∈ ns → y ≤ m) → Q (.int m) H
theorem call_maxD {X : Cx} (hc : X.calm = true) : CallRK X (.builtin "max") ["default"] (rMaxD X.K) := by
  intro pins s σ H xs zs us ws Q I va vz h
  obtain ⟨a, ns, d, rfl, rfl, hs, q⟩ := h
  obtain ⟨its, rv, hl, _⟩ := I.list hs
  rw [Vals.ref1 va]
  cases vz with
  | cons r1 r2 =>
  cases r2
  obtain ⟨u, rfl⟩ := r1
  refine maxD_raw (I.ok.hd hc) hl.isList rv.ints fun v h' tk hk hv => ?_
  rcases hv with ⟨h0, rfl⟩ | ⟨M, u2, rfl, h1, h2⟩
  · exact ⟨.int d, H, I.kept hk, ⟨_, rfl⟩, q d (.inl ⟨h0, rfl⟩)⟩
  · exact ⟨.int M, H, I.kept hk, ⟨_, rfl⟩, q M (.inr ⟨h1, h2⟩)⟩
/-! ### laid wisps and strands -/
structure Lw where
  so : Int
  ps : List (Int × Int)
  pl : Int
  le : Option Int
def letV : Option Int → V
  | none => .non
  | some n => .int n
def LaidAt (H : Hp) (a : Addr) (L : Lw) : Prop := ∃ wa, H a = some (.tup [.ref wa, .int L.pl, letV L.le]) ∧ WispAt H wa L.so L.ps
theorem LaidAt.mono {H H' : Hp} {a : Addr} {L : Lw} (h : LaidAt H a L) (t : Tups H H') : LaidAt H' a L := by
  obtain ⟨wa, h1, h2⟩ := h
  exact ⟨wa, t _ _ h1, h2.mono t⟩
def LaidsAt (H : Hp) (as : List Addr) (Ls : List Lw) : Prop := as.length = Ls.length ∧ ∀ (i : Nat) (a : Addr), as[i]? = some a → ∃ L, Ls[i]? = some L ∧ LaidAt H a L
theorem LaidsAt.mono {H H' : Hp} {as : List Addr} {Ls : List Lw} (h : LaidsAt H as Ls) (t : Tups H H') : LaidsAt H' as Ls := ⟨h.1, fun i a e => by
  obtain ⟨L, h1, h2⟩ := h.2 i a e
  exact ⟨L, h1, h2.mono t⟩⟩
theorem LaidsAt.nil {H : Hp} : LaidsAt H [] [] := ⟨rfl, fun i a h => by simp at h⟩
theorem LaidsAt.snoc {H : Hp} {as : List Addr} {Ls : List Lw} {a : Addr} {L : Lw} (h : LaidsAt H as Ls) (e : LaidAt H a L) : LaidsAt H (as ++ [a]) (Ls ++ [L]) := by
  refine ⟨by simp [h.1], fun i b hb => ?_⟩
  by_cases hi : i < as.length
  · rw [List.getElem?_append_left hi] at hb
    obtain ⟨M, h1, h2⟩ := h.2 i b hb
    exact ⟨M, by rw [List.getElem?_append_left (by rw [← h.1]; exact hi)]; exact h1, h2⟩
  · rw [List.getElem?_append_right (by omega)] at hb
    have hz : i - as.length = 0 := by
      cases hk : i - as.length with
      | zero => rfl
      | succ n =>
        rw [hk] at hb
        simp at hb
    rw [hz] at hb
    have : a = b := Option.some.inj hb
    subst this
    refine ⟨L, ?_, e⟩
    rw [List.getElem?_append_right (by rw [← h.1]; omega), ← h.1, hz]
    rfl
theorem LaidsAt.take {H : Hp} {as : List Addr} {Ls : List Lw} (h : LaidsAt H as Ls) (n : Nat) : LaidsAt H (as.take n) (Ls.take n) := by
  refine ⟨by simp [h.1], fun i a e => ?_⟩
  rw [List.getElem?_take] at e
  by_cases hi : i < n
  · rw [if_pos hi] at e
    obtain ⟨L, h1, h2⟩ := h.2 i a e
    exact ⟨L, by rw [List.getElem?_take, if_pos hi]; exact h1, h2⟩
  · rw [if_neg hi] at e
    cases e
theorem LaidsAt.set {H : Hp} {as : List Addr} {Ls : List Lw} {a : Addr} {L : Lw} (h : LaidsAt H as Ls) (e : LaidAt H a L) (n : Nat) : LaidsAt H (as.set n a) (Ls.set n L) := by
  refine ⟨by simp [h.1], fun i b hb => ?_⟩
  have hi : i < as.length := by
    have := (List.getElem?_eq_some_iff.mp hb).1
    rw [List.length_set] at this
    exact this
  by_cases hn : n = i
  · subst hn
    rw [List.getElem?_set_self hi] at hb
    have : a = b := Option.some.inj hb
    subst this
    exact ⟨L, List.getElem?_set_self (by rw [← h.1]; exact hi), e⟩
  · rw [List.getElem?_set_ne hn] at hb
    obtain ⟨M, h1, h2⟩ := h.2 i b hb
    exact ⟨M, by rw [List.getElem?_set_ne hn]; exact h1, h2⟩
def StrandAt (H : Hp) (a : Addr) (Ls : List Lw) : Prop := ∃ as, H a = some (.tup (as.map V.ref)) ∧ LaidsAt H as Ls
theorem StrandAt.mono {H H' : Hp} {a : Addr} {Ls : List Lw} (h : StrandAt H a Ls) (t : Tups H H') : StrandAt H' a Ls := by
  obtain ⟨as, h1, h2⟩ := h
  exact ⟨as, t _ _ h1, h2.mono t⟩
theorem StrandAt.keep {p l : Addr} {H H' : Hp} {T : Nat} {a : Addr} {Ls : List Lw} (h : StrandAt H a Ls) (k : Keep p l H H') (hp : Pot H p l T) : StrandAt H' a Ls := h.mono (k.tups hp)
theorem laid_get {H : Hp} {as : List Addr} {Ls : List Lw} (h : LaidsAt H as Ls) {i : Nat} {v : V} (e : (as.map V.ref)[i]? = some v) : ∃ a L, v = .ref a ∧ as[i]? = some a ∧ Ls[i]? = some L ∧ LaidAt H a L := by
  rw [List.getElem?_map] at e
  cases q : as[i]? with
  | none =>
    rw [q] at e
    cases e
  | some a =>
    rw [q] at e
    obtain ⟨L, h1, h2⟩ := h.2 i a q
    exact ⟨a, L, (Option.some.inj e).symm, rfl, h1, h2⟩
def GoodL (L : Lw) : Prop := Good L.ps ∧ 0 ≤ L.so ∧ L.so ≤ 1 ∧ 0 ≤ L.pl ∧ L.pl < 2 ^ 130 ∧ ∀ n, L.le = some n → L.pl < n ∧ n < 2 ^ 206
/-- where a laid wisp is over -/
def clip (le : Option Int) (e : Int) : Int := match le with
  | none => e
  | some n => if n < e then n else e
def lastOf (L : Lw) : Int := clip L.le (L.pl + longs L.ps)
def partsOf (le : Option Int) : List (Int × Int) → Int → List (Int × Int × Int)
  | [], _ => []
  | (t, g) :: r, st => (if st < clip le (st + g) then [(st, clip le (st + g), t)] else []) ++ partsOf le r (clip le (st + g))
def lawParts (le : Option Int) : List (Int × Int) → Int → List (Int × Int × Int)
  | [], _ => []
  | (t, g) :: r, st => (if st < clip le (st + g) then [(st, clip le (st + g), t)] else []) ++ lawParts le r (st + g)
theorem clip_le {le : Option Int} {e : Int} : clip le e ≤ e := by
  cases le with
  | none => exact Int.le_refl _
  | some n =>
    show (if n < e then n else e) ≤ e
    split <;> omega
theorem clip_mono {le : Option Int} {e f : Int} (h : e ≤ f) : clip le e ≤ clip le f := by
  cases le with
  | none => exact h
  | some n =>
    show (if n < e then n else e) ≤ (if n < f then n else f)
    split <;> split <;> omega
theorem clip_clip {le : Option Int} {e g : Int} (hg : 0 ≤ g) : clip le (clip le e + g) = clip le (e + g) := by
  cases le with
  | none => rfl
  | some n =>
    show (if n < (if n < e then n else e) + g then n else (if n < e then n else e) + g) = if n < e + g then n else e + g
    (repeat' split) <;> omega
theorem clip_idem {le : Option Int} {e : Int} : clip le (clip le e) = clip le e := by
  cases le with
  | none => rfl
  | some n =>
    show (if n < (if n < e then n else e) then n else (if n < e then n else e)) = if n < e then n else e
    (repeat' split) <;> omega
/-- all parts end at or ahead of where the wisp is over -/
theorem parts_le {le : Option Int} : ∀ (ps : List (Int × Int)) (st : Int), (∀ p ∈ ps, 1 ≤ p.2) → ∀ x ∈ partsOf le ps st, x.2.1 ≤ clip le (st + longs ps)
  | [], _, _, x, h => by cases h
  | (t, g) :: r, st, hg, x, h => by
    have hg1 : 1 ≤ g := hg (t, g) (by simp)
    have hr : ∀ p ∈ r, 1 ≤ p.2 := fun x hx => hg x (by simp [hx])
    have h0 := longs_nonneg hr
    have h : x ∈ (if st < clip le (st + g) then [(st, clip le (st + g), t)] else []) ++ partsOf le r (clip le (st + g)) := h
    rw [longs_cons]
    show x.2.1 ≤ clip le (st + (g + longs r))
    rcases List.mem_append.mp h with h | h
    · by_cases hc : st < clip le (st + g)
      · rw [if_pos hc] at h
        simp only [List.mem_cons, List.not_mem_nil, or_false] at h
        subst h
        exact clip_mono (by omega)
      · rw [if_neg hc] at h
        cases h
    · have ih := parts_le r (clip le (st + g)) hr x h
      rw [clip_clip h0] at ih
      rw [← Int.add_assoc]
      exact ih
/-- one of them ends there -/
theorem parts_has {le : Option Int} : ∀ (ps : List (Int × Int)) (st : Int), (∀ p ∈ ps, 1 ≤ p.2) → st < clip le (st + longs ps) → ∃ x ∈ partsOf le ps st, x.2.1 = clip le (st + longs ps)
  | [], st, _, h => by
    have e : longs [] = 0 := rfl
    rw [e, Int.add_zero] at h
    have := clip_le (le := le) (e := st)
    omega
  | (t, g) :: r, st, hg, h => by
    have hg1 : 1 ≤ g := hg (t, g) (by simp)
    have hr : ∀ p ∈ r, 1 ≤ p.2 := fun x hx => hg x (by simp [hx])
    have h0 := longs_nonneg hr
    rw [longs_cons] at h ⊢
    have e1 : st + ((t, g).2 + longs r) = st + g + longs r := by
      show st + (g + longs r) = _
      omega
    rw [e1] at h ⊢
    have e2 : clip le (clip le (st + g) + longs r) = clip le (st + g + longs r) := clip_clip h0
    by_cases hc : clip le (st + g) < clip le (st + g + longs r)
    · obtain ⟨x, h1, h2⟩ := parts_has r (clip le (st + g)) hr (by rw [e2]; exact hc)
      refine ⟨x, List.mem_append_right _ h1, ?_⟩
      rw [h2, e2]
    · have e3 : clip le (st + g) = clip le (st + g + longs r) := by
        have := clip_mono (le := le) (e := st + g) (f := st + g + longs r) (by omega)
        omega
      refine ⟨(st, clip le (st + g), t), List.mem_append_left _ ?_, e3⟩
      rw [if_pos (by omega)]
      simp
/-- the law's own parts: the last one ends there -/
theorem law_nil {le : Option Int} : ∀ (ps : List (Int × Int)) (st : Int), (∀ p ∈ ps, 1 ≤ p.2) → clip le st < st ∨ (∃ n, le = some n ∧ n ≤ st) → lawParts le ps st = []
  | [], _, _, _ => rfl
  | (t, g) :: r, st, hg, h => by
    have hg1 : 1 ≤ g := hg (t, g) (by simp)
    have hr : ∀ p ∈ r, 1 ≤ p.2 := fun x hx => hg x (by simp [hx])
    have hn : ∃ n, le = some n ∧ n ≤ st := by
      rcases h with h | h
      · cases le with
        | none => exact absurd h (Int.lt_irrefl _)
        | some n =>
          refine ⟨n, rfl, ?_⟩
          have h : (if n < st then n else st) < st := h
          split at h <;> omega
      · exact h
    obtain ⟨n, rfl, hn⟩ := hn
    show (if st < clip (some n) (st + g) then _ else []) ++ lawParts (some n) r (st + g) = []
    rw [law_nil r (st + g) hr (.inr ⟨n, rfl, by omega⟩), if_neg]
    · rfl
    · show ¬ st < (if n < st + g then n else st + g)
      split <;> omega
theorem law_last {le : Option Int} : ∀ (ps : List (Int × Int)) (st : Int), ps ≠ [] → (∀ p ∈ ps, 1 ≤ p.2) → (∀ n, le = some n → st < n) → ∃ ys b t, lawParts le ps st = ys ++ [(b, clip le (st + longs ps), t)]
  | [], _, h, _, _ => absurd rfl h
  | (t, g) :: r, st, _, hg, hn => by
    have hg1 : 1 ≤ g := hg (t, g) (by simp)
    have hr : ∀ p ∈ r, 1 ≤ p.2 := fun x hx => hg x (by simp [hx])
    have h0 := longs_nonneg hr
    have hc : st < clip le (st + g) := by
      cases le with
      | none => show st < st + g; omega
      | some n =>
        have := hn n rfl
        show st < (if n < st + g then n else st + g)
        split <;> omega
    have e : lawParts le ((t, g) :: r) st = (st, clip le (st + g), t) :: lawParts le r (st + g) := by
      show (if st < clip le (st + g) then _ else []) ++ lawParts le r (st + g) = _
      rw [if_pos hc]
      rfl
    rw [e, longs_cons]
    have e1 : st + ((t, g).2 + longs r) = st + g + longs r := by
      show st + (g + longs r) = _
      omega
    rw [e1]
    by_cases hz : r = [] ∨ ∃ n, le = some n ∧ n ≤ st + g
    · have e2 : lawParts le r (st + g) = [] := by
        rcases hz with rfl | hz
        · rfl
        · exact law_nil r (st + g) hr (.inr hz)
      refine ⟨[], st, t, ?_⟩
      rw [e2]
      have e3 : clip le (st + g) = clip le (st + g + longs r) := by
        rcases hz with rfl | ⟨n, rfl, hz⟩
        · show clip le (st + g) = clip le (st + g + 0)
          rw [Int.add_zero]
        · show (if n < st + g then n else st + g) = if n < st + g + longs r then n else st + g + longs r
          split <;> split <;> omega
      rw [e3]
      rfl
    · have hr0 : r ≠ [] := fun z => hz (.inl z)
      have hn2 : ∀ n, le = some n → st + g < n := fun n e => by
        by_cases h : st + g < n
        · exact h
        · exact absurd (.inr ⟨n, e, by omega⟩) hz
      obtain ⟨ys, b, t', h⟩ := law_last r (st + g) hr0 hr hn2
      exact ⟨_ :: ys, b, t', by rw [h]; rfl⟩
theorem law_len {le : Option Int} : ∀ (ps : List (Int × Int)) (st : Int), (lawParts le ps st).length ≤ ps.length
  | [], _ => Nat.le_refl _
  | (t, g) :: r, st => by
    show ((if st < clip le (st + g) then [(st, clip le (st + g), t)] else []) ++ lawParts le r (st + g)).length ≤ r.length + 1
    rw [List.length_append]
    have := law_len (le := le) r (st + g)
    split
    · show 1 + _ ≤ _
      omega
    · show 0 + _ ≤ _
      omega
theorem part_len {le : Option Int} : ∀ (ps : List (Int × Int)) (st : Int), (partsOf le ps st).length ≤ ps.length
  | [], _ => Nat.le_refl _
  | (t, g) :: r, st => by
    show ((if st < clip le (st + g) then [(st, clip le (st + g), t)] else []) ++ partsOf le r (clip le (st + g))).length ≤ r.length + 1
    rw [List.length_append]
    have := part_len (le := le) r (clip le (st + g))
    split
    · show 1 + _ ≤ _
      omega
    · show 0 + _ ≤ _
      omega
/-- how thick a laid wisp is at a place -/
def thickL (L : Lw) (p : Int) : Int := if p < L.pl then 0 else match L.le with
  | none => thickAt L.ps (p - L.pl)
  | some n => if n ≤ p then 0 else thickAt L.ps (p - L.pl)
theorem thick_pos : ∀ (ps : List (Int × Int)) (k : Int), 0 ≤ k → (∀ p ∈ ps, 1 ≤ p.1 ∧ 1 ≤ p.2) → (0 < thickAt ps k ↔ k < longs ps)
  | [], k, h, _ => by
    have e : longs [] = 0 := rfl
    show (0 : Int) < 0 ↔ k < longs []
    omega
  | (t, g) :: r, k, h, hg => by
    have hg1 := hg (t, g) (by simp)
    have ht : 1 ≤ t := hg1.1
    have hgg : 1 ≤ g := hg1.2
    have hr : ∀ p ∈ r, 1 ≤ p.1 ∧ 1 ≤ p.2 := fun x hx => hg x (by simp [hx])
    have h0 := longs_nonneg fun x hx => (hr x hx).2
    rw [longs_cons]
    show 0 < (if k < g then t else thickAt r (k - g)) ↔ k < g + longs r
    by_cases hk : k < g
    · rw [if_pos hk]
      constructor <;> intro _ <;> omega
    · rw [if_neg hk, thick_pos r (k - g) (by omega) hr]
      omega
theorem thick_runs {L : Lw} (g : GoodL L) (p : Int) : 0 < thickL L p ↔ L.pl ≤ p ∧ p < lastOf L := by
  have hp : ∀ x ∈ L.ps, 1 ≤ x.1 ∧ 1 ≤ x.2 := fun x hx => ⟨(g.1.2.2 x hx).1, (g.1.2.2 x hx).2.2.1⟩
  unfold thickL lastOf clip
  by_cases h : p < L.pl
  · rw [if_pos h]
    omega
  · rw [if_neg h]
    have tp := thick_pos L.ps (p - L.pl) (by omega) hp
    cases q : L.le with
    | none =>
      show 0 < thickAt L.ps (p - L.pl) ↔ L.pl ≤ p ∧ p < L.pl + longs L.ps
      rw [tp]
      omega
    | some n =>
      show 0 < (if n ≤ p then 0 else thickAt L.ps (p - L.pl)) ↔ L.pl ≤ p ∧ p < (if n < L.pl + longs L.ps then n else L.pl + longs L.ps)
      by_cases h2 : n ≤ p
      · rw [if_pos h2]
        split <;> omega
      · rw [if_neg h2, tp]
        split <;> omega
theorem last_gt {L : Lw} (g : GoodL L) : L.pl < lastOf L := by
  have hp : ∀ x ∈ L.ps, 1 ≤ x.2 := fun x hx => (g.1.2.2 x hx).2.2.1
  have hl : 1 ≤ longs L.ps := by
    cases q : L.ps with
    | nil =>
      have := g.1.1
      rw [q] at this
      exact absurd this (by decide)
    | cons p r =>
      rw [q] at hp
      have h1 := hp p (by simp)
      have h2 := longs_nonneg (ps := r) fun x hx => hp x (by simp [hx])
      rw [longs_cons]
      omega
  unfold lastOf clip
  cases q : L.le with
  | none => show L.pl < L.pl + longs L.ps; omega
  | some n =>
    have := (g.2.2.2.2.2 n q).1
    show L.pl < (if n < L.pl + longs L.ps then n else L.pl + longs L.ps)
    split <;> omega
def spThickOf : Sp := fun vs H Q _ => ∃ (a : Addr) (L : Lw) (p : Int), vs = [.ref a, .int p] ∧ LaidAt H a L ∧ Q (.int (thickL L p)) H
def spPartsOf : Sp := fun vs H Q _ => ∃ (a : Addr) (L : Lw), vs = [.ref a] ∧ LaidAt H a L ∧ L.ps.length ≤ 10 ∧ ∀ H' o, Same H H' → H o = none → TableAt H' o (partsOf L.le L.ps L.pl) → Q (.ref o) H'
def spThicks : Sp := fun vs H Q _ => ∃ (a : Addr) (Ls : List Lw) (p : Int), vs = [.ref a, .int p] ∧ StrandAt H a Ls ∧ Ls.length ≤ 60 ∧ ∀ H' o, Same H H' → H o = none → H' o = some (.lst ((Ls.map fun L => thickL L p).map V.int)) → Q (.ref o) H'
def numsFrom : Nat → List Int → List Int
  | _, [] => []
  | k, x :: r => (if 0 < x then [(k : Int)] else []) ++ numsFrom (k + 1) r
theorem nums_snoc : ∀ (xs : List Int) (k : Nat) (x : Int), numsFrom k (xs ++ [x]) = numsFrom k xs ++ (if 0 < x then [((k + xs.length : Nat) : Int)] else [])
  | [], k, x => by
    show (if 0 < x then [(k : Int)] else []) ++ [] = [] ++ _
    rw [List.append_nil]
    rfl
  | y :: r, k, x => by
    show (if 0 < y then [(k : Int)] else []) ++ numsFrom (k + 1) (r ++ [x]) = (if 0 < y then [(k : Int)] else []) ++ numsFrom (k + 1) r ++ _
    rw [nums_snoc r (k + 1) x, List.append_assoc, show k + 1 + r.length = k + (y :: r).length by rw [List.length_cons]; omega]
theorem nums_nil : ∀ (xs : List Int) (k : Nat), (∀ x ∈ xs, ¬ 0 < x) → numsFrom k xs = []
  | [], _, _ => rfl
  | y :: r, k, h => by
    show (if 0 < y then [(k : Int)] else []) ++ numsFrom (k + 1) r = []
    rw [if_neg (h y (by simp)), nums_nil r (k + 1) fun x hx => h x (by simp [hx])]
    rfl
theorem nums_ne : ∀ (xs : List Int) (k : Nat) (x : Int), x ∈ xs → 0 < x → numsFrom k xs ≠ []
  | y :: r, k, x, h, hx => by
    show (if 0 < y then [(k : Int)] else []) ++ numsFrom (k + 1) r ≠ []
    rcases List.mem_cons.mp h with rfl | h
    · rw [if_pos hx]
      exact fun z => by cases z
    · intro z
      exact nums_ne r (k + 1) x h hx (List.append_eq_nil_iff.mp z).2
theorem nums_len : ∀ (xs : List Int) (k : Nat), (numsFrom k xs).length ≤ xs.length
  | [], _ => Nat.le_refl _
  | y :: r, k => by
    show ((if 0 < y then [(k : Int)] else []) ++ numsFrom (k + 1) r).length ≤ r.length + 1
    rw [List.length_append]
    have := nums_len r (k + 1)
    split
    · show 1 + _ ≤ _
      omega
    · show 0 + _ ≤ _
      omega
def spNumbers : Sp := fun vs H Q _ => ∃ (a : Addr) (ns : List Int), vs = [.ref a] ∧ H a = some (.lst (ns.map V.int)) ∧ ns.length ≤ 60 ∧ ∀ H' o, Same H H' → H o = none → H' o = some (.tup ((numsFrom 0 ns).map V.int)) → Q (.ref o) H'
def spRunning : Sp := fun vs H Q _ => ∃ (a : Addr) (Ls : List Lw) (p : Int), vs = [.ref a, .int p] ∧ StrandAt H a Ls ∧ Ls.length ≤ 60 ∧ ∀ H' o, Same H H' → H o = none → H' o = some (.tup ((numsFrom 0 (Ls.map fun L => thickL L p)).map V.int)) → Q (.ref o) H'
def IsEnd (Ls : List Lw) (m : Int) : Prop := (Ls = [] → m = 0) ∧ (Ls ≠ [] → ∃ L ∈ Ls, m = lastOf L) ∧ ∀ L ∈ Ls, lastOf L ≤ m
def spEnd : Sp := fun vs H Q _ => ∃ (a : Addr) (Ls : List Lw), vs = [.ref a] ∧ StrandAt H a Ls ∧ Ls.length ≤ 60 ∧ (∀ L ∈ Ls, GoodL L) ∧ ∀ H' m, Same H H' → IsEnd Ls m → Q (.int m) H'
theorem letV_none : (!decide (letV none = V.non)) = false := by decide
theorem letV_some (n : Int) : (!decide (letV (some n) = V.non)) = true := by
  rw [decide_eq_false (fun z : letV (some n) = V.non => by cases z)]
  rfl
theorem letV_some' (n : Int) : decide (letV (some n) = V.non) = false := decide_eq_false (fun z : letV (some n) = V.non => by cases z)
theorem iteEqT {b : Bool} {A B : Prop} (e : b = true) (h : A) : if b = true then A else B := by
  rw [if_pos e]
  exact h
theorem iteEqF {b : Bool} {A B : Prop} (e : b = false) (h : B) : if b = true then A else B := by
  rw [e, if_neg Bool.false_ne_true]
  exact h
def endsOf (L : Lw) : List Int := (partsOf L.le L.ps L.pl).map fun t => t.2.1
theorem ends_ok {Ls : List Lw} (g : ∀ L ∈ Ls, GoodL L) {m : Int} (h : (Ls.map endsOf).flatten = [] ∧ m = 0 ∨ m ∈ (Ls.map endsOf).flatten ∧ ∀ y, y ∈ (Ls.map endsOf).flatten → y ≤ m) : IsEnd Ls m := by
  have has : ∀ L ∈ Ls, lastOf L ∈ (Ls.map endsOf).flatten := fun L hL => by
    have gL := g L hL
    have hp : ∀ x ∈ L.ps, 1 ≤ x.2 := fun x hx => (gL.1.2.2 x hx).2.2.1
    obtain ⟨x, h1, h2⟩ := parts_has (le := L.le) L.ps L.pl hp (last_gt gL)
    refine List.mem_flatten.mpr ⟨endsOf L, List.mem_map.mpr ⟨L, hL, rfl⟩, List.mem_map.mpr ⟨x, h1, h2⟩⟩
  have at_ : ∀ y ∈ (Ls.map endsOf).flatten, ∃ L ∈ Ls, y ≤ lastOf L := fun y hy => by
    obtain ⟨l, h1, h2⟩ := List.mem_flatten.mp hy
    obtain ⟨L, hL, rfl⟩ := List.mem_map.mp h1
    obtain ⟨x, h3, rfl⟩ := List.mem_map.mp h2
    have gL := g L hL
    exact ⟨L, hL, parts_le L.ps L.pl (fun x hx => (gL.1.2.2 x hx).2.2.1) x h3⟩
  rcases h with ⟨h0, rfl⟩ | ⟨h1, h2⟩
  · have hn : Ls = [] := by
      cases Ls with
      | nil => rfl
      | cons L r =>
        have := has L (by simp)
        rw [h0] at this
        cases this
    exact ⟨fun _ => rfl, fun z => absurd hn z, fun L hL => by rw [hn] at hL; cases hL⟩
  · have hn : Ls ≠ [] := fun z => by
      rw [z] at h1
      cases h1
    obtain ⟨L, hL, hle⟩ := at_ m h1
    have := h2 _ (has L hL)
    exact ⟨fun z => absurd z hn, fun _ => ⟨L, hL, by omega⟩, fun L' hL' => h2 _ (has L' hL')⟩
theorem LaidAt.same {H H' : Hp} {a : Addr} {L : Lw} (e : Same H H') (h : LaidAt H a L) : LaidAt H' a L := h.mono (Tups.same e)
def spPick : Sp := fun vs H Q _ => ∃ (p l : Addr) (T : Nat) (a : Addr) (xs : List V), vs = [.ref p, .ref a] ∧ Pot H p l T ∧ T < 2 ^ 39 ∧ H a = some (.lst xs) ∧ a ≠ p ∧ a ≠ l ∧ 1 ≤ xs.length ∧ xs.length ≤ 2000 ∧
  ∀ H' (j : Nat) x, xs[j]? = some x → Pot H' p l (T + 1) → Keep p l H H' → Q x H'
def LPartsAt (H : Hp) (bs : List Addr) (Ls : List Lw) : Prop := bs.length = Ls.length ∧ ∀ (i : Nat) (b : Addr), bs[i]? = some b → ∃ L, Ls[i]? = some L ∧ TableAt H b (lawParts L.le L.ps L.pl)
theorem TableAt.same {H H' : Hp} {o : Addr} {ts : List (Int × Int × Int)} (e : Same H H') (h : TableAt H o ts) : TableAt H' o ts := by
  obtain ⟨as, h1, h2⟩ := h
  exact ⟨as, e _ _ h1, h2.mono (Tups.same e)⟩
theorem LPartsAt.same {H H' : Hp} {bs : List Addr} {Ls : List Lw} (e : Same H H') (h : LPartsAt H bs Ls) : LPartsAt H' bs Ls := ⟨h.1, fun i b hb => by
  obtain ⟨L, h1, h2⟩ := h.2 i b hb
  exact ⟨L, h1, TableAt.same e h2⟩⟩
theorem LPartsAt.nil {H : Hp} : LPartsAt H [] [] := ⟨rfl, fun i a h => by simp at h⟩
theorem LPartsAt.snoc {H : Hp} {as : List Addr} {Ls : List Lw} {a : Addr} {L : Lw} (h : LPartsAt H as Ls) (e : TableAt H a (lawParts L.le L.ps L.pl)) : LPartsAt H (as ++ [a]) (Ls ++ [L]) := by
  refine ⟨by simp [h.1], fun i b hb => ?_⟩
  by_cases hi : i < as.length
  · rw [List.getElem?_append_left hi] at hb
    obtain ⟨M, h1, h2⟩ := h.2 i b hb
    exact ⟨M, by rw [List.getElem?_append_left (by rw [← h.1]; exact hi)]; exact h1, h2⟩
  · rw [List.getElem?_append_right (by omega)] at hb
    have hz : i - as.length = 0 := by
      cases hk : i - as.length with
      | zero => rfl
      | succ n =>
        rw [hk] at hb
        simp at hb
    rw [hz] at hb
    have : a = b := Option.some.inj hb
    subst this
    refine ⟨L, ?_, e⟩
    rw [List.getElem?_append_right (by rw [← h.1]; omega), ← h.1, hz]
    rfl
def spLawParts : Sp := fun vs H Q _ => ∃ (a : Addr) (Ls : List Lw), vs = [.ref a] ∧ StrandAt H a Ls ∧ Ls.length ≤ 60 ∧ (∀ L ∈ Ls, GoodL L) ∧ ∀ (H' : Hp) (o : Addr) (bs : List Addr), Same H H' → H o = none → H' o = some (.lst (bs.map V.ref)) → LPartsAt H' bs Ls → Q (.ref o) H'
/-- the last part of the law's own -/
theorem lp_last {H : Hp} {b : Addr} {L : Lw} (g : GoodL L) (h : TableAt H b (lawParts L.le L.ps L.pl)) : ∃ (as : List Addr) (z : Addr) (t b' : Int), H b = some (.lst (as.map V.ref)) ∧ atI (as.map V.ref) (-1) = some (.ref z) ∧ H z = some (.tup [.int b', .int (lastOf L), .int t]) := by
  obtain ⟨as, h1, h2⟩ := h
  have hp : ∀ x ∈ L.ps, 1 ≤ x.2 := fun x hx => (g.1.2.2 x hx).2.2.1
  have hne : L.ps ≠ [] := fun e => by
    have := g.1.1
    rw [e] at this
    exact absurd this (by decide)
  obtain ⟨ys, b', t, e⟩ := law_last (le := L.le) L.ps L.pl hne hp fun n hn => (g.2.2.2.2.2 n hn).1
  rw [e] at h2
  have hl : as.length = ys.length + 1 := by
    have := h2.1
    simpa using this
  have hi : ys.length < as.length := by omega
  have e1 : (as.map V.ref)[ys.length]? = some (.ref as[ys.length]) := by
    rw [List.getElem?_map, List.getElem?_eq_getElem hi]
    rfl
  obtain ⟨z, b2, c2, d2, e2, e3, e4⟩ := row_get h2 e1
  rw [List.getElem?_append_right (Nat.le_refl _), Nat.sub_self] at e3
  have e5 := Option.some.inj e3
  obtain ⟨e6, e7⟩ := Prod.mk.inj e5
  obtain ⟨e8, e9⟩ := Prod.mk.inj e7
  refine ⟨as, z, t, b', h1, ?_, ?_⟩
  · have h0 : as.map V.ref ≠ [] := fun q => by
      have := congrArg List.length q
      rw [List.length_map, hl] at this
      exact absurd this (by simp)
    have h3 : (as.map V.ref).getLast h0 = .ref z := by
      have := List.getLast?_eq_getLast h0
      rw [List.getLast?_eq_getElem?, List.length_map, hl, Nat.add_sub_cancel, e1] at this
      exact (Option.some.inj this).symm.trans e2
    have h4 := List.dropLast_concat_getLast h0
    rw [h3] at h4
    rw [← h4]
    exact atI_last _ _
  · rw [e4, ← e6, ← e8, ← e9]
    rfl
theorem LPartsAt.other {H : Hp} {bs : List Addr} {Ls : List Lw} {o : Addr} {xs : List V} {u : HO} (h : LPartsAt H bs Ls) (hne : ∀ b ∈ bs, b ≠ o) (eo : H o = some (.lst xs)) : LPartsAt (upd H o u) bs Ls := ⟨h.1, fun i b hb => by
  obtain ⟨L, h1, as, h2, h3⟩ := h.2 i b hb
  exact ⟨L, h1, as, by rw [upd_ne (hne b (List.mem_of_getElem? hb))]; exact h2, h3.mono (Tups.ls eo)⟩⟩
def Sf (p l S : Addr) (as : List Addr) (Ls : List Lw) (H H' : Hp) (T : Nat) : Prop := H' S = some (.lst (as.map V.ref)) ∧ LaidsAt H' as Ls ∧ Pot H' p l T ∧ Keep p l H H'
theorem Sf.keep {p l S : Addr} {as : List Addr} {Ls : List Lw} {H H' H2 : Hp} {T U : Nat} (h : Sf p l S as Ls H H' T) (n1 : S ≠ p) (n2 : S ≠ l) (k : Keep p l H' H2) (hp : Pot H2 p l U) : Sf p l S as Ls H H2 U := ⟨k _ _ n1 n2 h.1, h.2.1.mono (k.tups h.2.2.1), hp, h.2.2.2.trans k⟩
theorem Sf.new {p l S a : Addr} {as : List Addr} {Ls : List Lw} {H H' : Hp} {T : Nat} {o : HO} (h : Sf p l S as Ls H H' T) (n : H' a = none) : Sf p l S as Ls H (upd H' a o) T := ⟨by rw [upd_ne (ne_of_none h.1 n)]; exact h.1, h.2.1.mono (Tups.new n), h.2.2.1.new n, h.2.2.2.new n⟩
theorem Sf.up {p l S : Addr} {as : List Addr} {Ls : List Lw} {H H' : Hp} {T U : Nat} (h : Sf p l S as Ls H H' T) (e : T ≤ U) : Sf p l S as Ls H H' U := ⟨h.1, h.2.1, h.2.2.1.mono e, h.2.2.2⟩
theorem cut_take (xs : List V) (n : Nat) : cutV xs none (some (n : Int)) = xs.take n := by
  unfold cutV
  rw [HT.sIx_none, HT.sIx_nat]
  show (xs.drop 0).take (min n xs.length - 0) = xs.take n
  rw [List.drop_zero, Nat.sub_zero]
  by_cases h : n ≤ xs.length
  · rw [Nat.min_eq_left h]
  · rw [Nat.min_eq_right (by omega), List.take_length, List.take_of_length_le (by omega)]
def spStrand : Sp := fun vs H Q _ => ∃ (p l : Addr) (T : Nat) (most : Int) (small : Bool), vs = [.ref p, .int most, .bl small] ∧ Pot H p l T ∧ T < 2 ^ 37 ∧ (most = 8 ∨ most = 60) ∧
  ∀ H' a Ls, Pot H' p l (T + 20000) → Keep p l H H' → StrandAt H' a Ls → Ls.length ≤ 60 → (∀ L ∈ Ls, GoodL L) → Q (.ref a) H'
theorem first_of {ns : List Int} {M : Int} (h : M ∈ ns) : ∃ j : Nat, ns[j]? = some M ∧ ∀ m z, m < j → ns[m]? = some z → z ≠ M := by
  induction ns with
  | nil => cases h
  | cons y r ih =>
    by_cases e : y = M
    · exact ⟨0, by rw [e]; rfl, fun m z hm _ => absurd hm (Nat.not_lt_zero _)⟩
    · have hr : M ∈ r := by
        rcases List.mem_cons.mp h with h | h
        · exact absurd h.symm e
        · exact h
      obtain ⟨j, h1, h2⟩ := ih hr
      refine ⟨j + 1, h1, fun m z hm hz => ?_⟩
      cases m with
      | zero =>
        have : y = z := Option.some.inj hz
        rw [← this]
        exact e
      | succ m => exact h2 m z (by omega) hz
theorem cut_drop (xs : List V) (n : Nat) (h : n ≤ xs.length) : cutV xs (some (n : Int)) none = xs.drop n := by
  unfold cutV
  rw [HT.sIx_none, HT.sIx_nat, Nat.min_eq_left h]
  exact List.take_of_length_le (by rw [List.length_drop]; exact Nat.le_refl _)
theorem LaidsAt.parts {H : Hp} {as : List Addr} {Ls : List Lw} {n : Nat} {b : Addr} {L : Lw} (h : LaidsAt H as Ls) (hn : n < as.length) (e : LaidAt H b L) : LaidsAt H (as.take n ++ [b] ++ as.drop (n + 1)) (Ls.set n L) := by
  have e1 : as.take n ++ [b] ++ as.drop (n + 1) = as.set n b := by
    rw [List.set_eq_take_append_cons_drop, if_pos hn, List.append_assoc]
    rfl
  rw [e1]
  exact h.set e n
def lasts (Ls : List Lw) : List Int := Ls.map lastOf
def spLetLast : Sp := fun vs H Q _ => ∃ (p l : Addr) (T : Nat) (a : Addr) (Ls : List Lw), vs = [.ref p, .ref a] ∧ Pot H p l T ∧ T < 2 ^ 38 ∧ StrandAt H a Ls ∧ Ls ≠ [] ∧ Ls.length ≤ 60 ∧ (∀ L ∈ Ls, GoodL L) ∧
  ∀ (H' : Hp) (b : Addr) (Ms : List Lw), Pot H' p l (T + 1) → Keep p l H H' → StrandAt H' b Ms → Ms.length = Ls.length → (∀ L ∈ Ms, GoodL L) → Q (.ref b) H'
theorem last_lt {L : Lw} (g : GoodL L) : lastOf L < 2 ^ 205 := by
  have h1 := longs_lt g.1
  have h2 := g.2.2.2.2.1
  have h3 : (2 : Int) ^ 204 + 2 ^ 130 < 2 ^ 205 := by decide
  have h4 := clip_le (le := L.le) (e := L.pl + longs L.ps)
  unfold lastOf
  omega
theorem slA {K : PySem.W.Frag} {H : Hp} {a : Addr} {xs : List V} {lo hi : Option Int} {Q : VK} (h : H a = some (.tup xs)) (q : ∀ H' p, Same H H' → H' p = some (.tup (cutV xs lo hi)) → Q (.ref p) H') : rSlA K (.ref a) lo hi H Q := by
  refine ⟨a, xs, rfl, SqT.of h, fun e => ?_, fun _ p np => q _ p (same_new (Same.refl H) np) upd_same⟩
  refine q H a (Same.refl H) ?_
  rw [h]
  unfold cutV
  rw [e.1, e.2, List.drop_zero, Nat.sub_zero, List.take_length]
theorem catA {K : PySem.W.Frag} {H : Hp} {a b : Addr} {xs ys : List V} {Q : VK} (ha : H a = some (.tup xs)) (hb : H b = some (.tup ys)) (hz : xs.length + ys.length ≤ sizeLine) (q : ∀ H' p, Same H H' → H' p = some (.tup (xs ++ ys)) → Q (.ref p) H') : rCatA K (.ref a) (.ref b) H Q := by
  refine ⟨a, b, xs, ys, rfl, rfl, SqT.of ha, SqT.of hb, hz, fun e => ?_, fun _ e => ?_, fun _ _ p np => q _ p (same_new (Same.refl H) np) upd_same⟩
  · refine q H b (Same.refl H) ?_
    rw [hb, e]
    rfl
  · refine q H a (Same.refl H) ?_
    rw [ha, e, List.append_nil]
theorem can_all {xs : List PyData} (h : ∀ x ∈ xs, x.canLay0 = true) : PyData.canLayAll0 xs = true := by
  induction xs with
  | nil => rfl
  | cons x r ih =>
    show (x.canLay0 && PyData.canLayAll0 r) = true
    rw [h x (by simp), ih fun y hy => h y (by simp [hy])]
    rfl
theorem Sh.can {d : PyData} (h : Sh d) : d.canLay0 = true := by
  induction h with
  | non => rfl
  | bl b => rfl
  | int h => rfl
  | lst _ ih => exact can_all ih
  | tup _ ih => exact can_all ih
theorem depth_all {xs : List PyData} {n : Nat} (h : ∀ x ∈ xs, x.depth ≤ n) : PyData.depthAll xs ≤ n := by
  induction xs with
  | nil => exact Nat.zero_le _
  | cons x r ih => exact Nat.max_le.mpr ⟨h x (by simp), ih fun y hy => h y (by simp [hy])⟩
def letD : Option Int → PyData
  | none => .none
  | some n => .int n
def laidD (L : Lw) : PyData := .tuple [wispD L.so L.ps, .int L.pl, letD L.le]
def strandD (Ls : List Lw) : PyData := .tuple (Ls.map laidD)
theorem laid_sh {L : Lw} (g : GoodL L) : Sh (laidD L) := by
  refine .tup fun x hx => ?_
  simp only [List.mem_cons, List.not_mem_nil, or_false] at hx
  rcases hx with rfl | rfl | rfl
  · exact wisp_sh g.2.1 g.2.2.1 g.1
  · exact sh_nat g.2.2.2.1 (Int.lt_trans g.2.2.2.2.1 (by decide))
  · cases h : L.le with
    | none => exact .non
    | some n =>
      have := g.2.2.2.2.2 n h
      have h0 := g.2.2.2.1
      exact .int (log_lt (by omega) (Int.lt_trans this.2 (by decide)))
theorem laid_depth (L : Lw) : (laidD L).depth ≤ 4 := by
  have := wisp_depth L.so L.ps
  refine Nat.succ_le_succ (depth_all fun x hx => ?_)
  simp only [List.mem_cons, List.not_mem_nil, or_false] at hx
  rcases hx with rfl | rfl | rfl
  · exact this
  · exact Nat.zero_le _
  · cases L.le with
    | none => exact Nat.zero_le _
    | some n => exact Nat.zero_le _
theorem strand_sh {Ls : List Lw} (g : ∀ L ∈ Ls, GoodL L) : Sh (strandD Ls) := .tup fun x hx => by
  obtain ⟨L, hL, rfl⟩ := List.mem_map.mp hx
  exact laid_sh (g L hL)
theorem strand_depth (Ls : List Lw) : (strandD Ls).depth ≤ 5 := Nat.succ_le_succ (depth_all fun x hx => by
  obtain ⟨L, hL, rfl⟩ := List.mem_map.mp hx
  exact laid_depth L)
theorem Sh.shaped {d : PyData} (h : Sh d) (hd : d.depth ≤ 64) : SeqAt.shaped d = true := Bool.and_eq_true_iff.mpr ⟨h.can, decide_eq_true hd⟩
theorem LaidAt.dp {K : PySem.W.Frag} {H : Hp} {a : Addr} {L : Lw} (h : LaidAt H a L) : Dp K H (.ref a) (laidD L) := by
  obtain ⟨wa, h1, h2⟩ := h
  refine .tup (SqT.of h1) (.cons h2.dp (.cons (.int _) (.cons ?_ .nil)))
  cases L.le with
  | none => exact .non
  | some n => exact .int n
theorem laids_dp {K : PySem.W.Frag} {H : Hp} : ∀ {as : List Addr} {Ls : List Lw}, LaidsAt H as Ls → DpAll K H (as.map V.ref) (Ls.map laidD)
  | [], [], _ => .nil
  | [], L :: r, h => absurd h.1 (by simp)
  | a :: r, [], h => absurd h.1 (by simp)
  | a :: as, L :: Ls, h => by
    obtain ⟨M, h1, h2⟩ := h.2 0 a rfl
    have e : L = M := Option.some.inj h1
    subst e
    exact .cons h2.dp (laids_dp ⟨Nat.succ.inj (by simpa using h.1), fun i b hb => h.2 (i + 1) b hb⟩)
theorem StrandAt.dp {K : PySem.W.Frag} {H : Hp} {a : Addr} {Ls : List Lw} (h : StrandAt H a Ls) : Dp K H (.ref a) (strandD Ls) := by
  obtain ⟨as, h1, h2⟩ := h
  exact .tup (SqT.of h1) (laids_dp h2)
theorem eq_nil (ds : List PyData) : PyData.eqv (.tuple ds) (.tuple []) = ds.isEmpty := by
  cases ds with
  | nil => rfl
  | cons x r => rfl
theorem ints_dp {K : PySem.W.Frag} {H : Hp} : ∀ ns : List Int, DpAll K H (ns.map V.int) (ns.map PyData.int)
  | [] => .nil
  | n :: r => .cons (.int n) (ints_dp r)
theorem ints_shaped (ns : List Int) : SeqAt.shaped (.tuple (ns.map PyData.int)) = true := by
  refine Bool.and_eq_true_iff.mpr ⟨can_all fun x hx => ?_, decide_eq_true (Nat.le_trans (Nat.succ_le_succ (depth_all (n := 0) fun x hx => ?_)) (by decide))⟩
  · obtain ⟨n, _, rfl⟩ := List.mem_map.mp hx
    rfl
  · obtain ⟨n, _, rfl⟩ := List.mem_map.mp hx
    exact Nat.le_refl _
def spRight7 : Sp := fun vs H Q _ => ∃ (p l : Addr) (T : Nat) (a : Addr) (Ls : List Lw), vs = [.ref p, .ref a] ∧ Pot H p l T ∧ T < 2 ^ 38 ∧ StrandAt H a Ls ∧ Ls.length ≤ 60 ∧ (∀ L ∈ Ls, GoodL L) ∧
  ∀ (H' : Hp), Pot H' p l (T + 5) → Keep p l H H' → Q (.bl true) H'
theorem end_is {Ls : List Lw} (g : ∀ L ∈ Ls, GoodL L) {m M : Int} (h : IsEnd Ls m) (h1 : M ∈ 0 :: lasts Ls) (h2 : ∀ y, y ∈ 0 :: lasts Ls → y ≤ M) : m = M := by
  obtain ⟨a1, a2, a3⟩ := h
  have h0 := h2 0 (by simp)
  by_cases hn : Ls = []
  · have e := a1 hn
    rw [hn] at h1
    have : M = 0 := by simpa [lasts] using h1
    omega
  · obtain ⟨L, hL, e⟩ := a2 hn
    have h3 := h2 m (List.mem_cons_of_mem _ (List.mem_map.mpr ⟨L, hL, e.symm⟩))
    have h4 := last_gt (g L hL)
    have h5 := (g L hL).2.2.2.1
    rcases List.mem_cons.mp h1 with h | h
    · omega
    · obtain ⟨L', hL', e'⟩ := List.mem_map.mp h
      have := a3 L' hL'
      omega
def Strs (H : Hp) (cs : List Addr) : Prop := ∀ c ∈ cs, ∃ Ls, StrandAt H c Ls ∧ Ls.length ≤ 60 ∧ ∀ L ∈ Ls, GoodL L
theorem Strs.mono {H H' : Hp} {cs : List Addr} (h : Strs H cs) (t : Tups H H') : Strs H' cs := fun c hc => by
  obtain ⟨Ls, h1, h2⟩ := h c hc
  exact ⟨Ls, h1.mono t, h2⟩
theorem ref_get {bs : List Addr} {i : Nat} {x : V} (h : (bs.map V.ref)[i]? = some x) : ∃ b, x = .ref b ∧ bs[i]? = some b := by
  rw [List.getElem?_map] at h
  cases q : bs[i]? with
  | none =>
    rw [q] at h
    cases h
  | some b =>
    rw [q] at h
    exact ⟨b, (Option.some.inj h).symm, rfl⟩
/-! ### dicts of numbers: update, sorted -/
section
variable {X : Cx}
def rUpd : V → List V → Hp → VK → Prop := fun x vs H Q => ∃ (a b : Addr) (kvs more : List (Key × V)), x = .ref a ∧ vs = [.ref b] ∧ H a = some (.dK kvs) ∧ H b = some (.dK more) ∧ a ≠ b ∧ kvs.length + more.length ≤ sizeLine ∧ Q .non (upd H a (.dK (mergeK kvs more)))
theorem mt_dupdate : MtR X "dict.update" rUpd := by
  intro pins s σ H x vs v us Q I rx rv h
  obtain ⟨a, b, kvs, more, rfl, rfl, ea, eb, ne, hz, q⟩ := h
  cases (show v = Value.ref a from rx)
  rw [Vals.ref1 rv]
  obtain ⟨z1, y1, vs1, rel1, dd1⟩ := dk_of I.hok ea
  obtain ⟨z2, y2, vs2, rel2, dd2⟩ := dk_of I.hok eb
  refine call_meetsIn PySem.F.slot_dict_update dd1.typeIs PySem.F.entry_dict_update (PySem.F.args_dict_update_2 _ _) (meets_dict_update (mixKind X.prog X.w) a b ne y2) ⟨vs1, vs2, dd1, dd2, by rw [← rel1.length, ← rel2.length]; exact hz, fun h' dd' _ hs => ?_⟩
  have he : ∃ o, h'.get? a = some o := dd'.elim fun o z => z.elim fun _ z => z.elim fun _ z => ⟨o, z.1⟩
  exact ⟨.non, _, d_write I (by rw [ea]; exact True.intro) hs he (dk_new (Nat.le_trans (length_mergeK more kvs) hz) y1 (KV.merge rel2 rel1) dd'), rfl, q⟩
def rSortD : List V → Hp → VK → Prop := fun xs H Q => ∃ (a : Addr) (kvs : List (Key × V)) (ks : List Int), xs = [.ref a] ∧ H a = some (.dK kvs) ∧ kvs.map (·.1) = ks.map Sum.inl ∧ ∀ (ys : List Int) (p : Addr), ys.Perm ks → ys.Pairwise (· ≤ ·) → H p = none → Q (.ref p) (upd H p (.lst (ys.map V.int)))
theorem call_sortD (hc : X.calm = true) : CallR X (.builtin "sorted") rSortD := by
  intro pins s σ H xs us Q I va h
  obtain ⟨a, kvs, ks, rfl, ea, hks, q⟩ := h
  rw [Vals.ref1 va]
  obtain ⟨z, lo, vs, rel, dd⟩ := dk_of I.hok ea
  obtain ⟨ep, hat⟩ := dd.dictAt
  have ek : vs.map (·.1) = ks.map Sum.inl := rel.keys.symm.trans hks
  have hl : vs.length = ks.length := by
    have e := congrArg List.length ek
    rw [List.length_map, List.length_map] at e
    exact e
  have hz : vs.length ≤ sizeLine := by rw [← rel.length]; exact z
  refine Calls.call_function_entry PyProof.Rows.kind_sorted PyProof.Rows.plain_sorted PyProof.Rows.entry_sorted (PyProof.Rows.args_sorted1 _) ?_
  unfold Builtin.«sorted»
  refine wpAny_bind (m := checkCount "sorted" 1 1 _) (wpAny_pure (wpAny_bind (PySem.W.kdu_collect (A := X.A.in1) (PySem.W.kdl_dict (knd := mixKind X.prog X.w) (kvs := vs) (ep := ep) lo) (I.ok.hd hc) hat hz fun h1 tk acc hk hacc => ?_)))
  have hal : acc.toList.length = ks.length := by rw [Array.length_toList, hacc.1, hl]
  have hS : IntsAre acc.toList ks := ints_each hal fun j v e => by
    obtain ⟨k, x, e1, e2⟩ := hacc.2 j v (by rw [← Array.getElem?_toList]; exact e)
    have e3 : (vs.map (·.1))[j]? = some k := by rw [List.getElem?_map, e1]; rfl
    rw [ek, List.getElem?_map] at e3
    cases e4 : ks[j]? with
    | none => rw [e4] at e3; cases e3
    | some y =>
      rw [e4] at e3
      cases (show Sum.inl y = k from Option.some.inj e3)
      rcases keyIs_shape (show keyIs (Sum.inl y) v = true from e2) with ⟨i, t, q1, q2⟩ | ⟨i, t, q1, q2⟩
      · cases q1
        exact ⟨y, t, rfl, q2⟩
      · cases q1
  have J : Inv X pins σ H { s with heap := h1, toks := tk } := I.kept hk
  have hz2 : acc.toList.length ≤ sizeLine := by rw [hal, ← hl]; exact hz
  refine wpAny_bind (wpAny_newList ?_ hz2)
  have hoL : (h1.push (seqObj "list" acc.toList.toArray 0)).get? h1.objs.size = some (seqObj "list" acc.toList.toArray 0) := Heap.get?_push_size _ rfl
  show wpAny _ _ _ _ _ { s with heap := h1.push (seqObj "list" acc.toList.toArray 0), toks := tk }
  refine wpAny_bind (wpAny_holding (wpAny_call_entry PyProof.Rows.slot_list_sort ⟨_, hoL, rfl⟩ PyProof.Rows.entry_list_sort (SrtO.list_sort_ord SrtO.swo_int hoL hz2 (fun h2 => SrtO.ints_sortable hS h2) fun out g1 g2 => ⟨_, rfl, ?_⟩) (PyProof.Rows.args_list_sort _)))
  obtain ⟨k1, k2, k3⟩ := SrtO.ints_out hS g1 g2
  obtain ⟨ep2, he2⟩ := PyProof.Rows.sortedHeap_at (vs := acc.toList) (out := out.toArray) hoL
  have hz3 : ((out.map SrtO.iv).map V.int).length ≤ sizeLine := by rw [List.length_map, k2.length_eq, ← hal]; exact hz2
  refine wpAny_pure ⟨_, rfl, .ref h1.objs.size, upd H h1.objs.size (.lst ((out.map SrtO.iv).map V.int)), J.laid (t' := tk) (fun b u e => ?_) (Nat.le_refl _) (show ObjOk X.prog X.w _ _ _ (.lst ((out.map SrtO.iv).map V.int)) from ⟨hz3, out, ep2, vals_of_ints k1, he2⟩), rfl, q _ _ k2 k3 (J.hok.fresh (Nat.le_refl _))⟩
  have hb : b < h1.objs.size := Heap.lt_size e
  rw [PyProof.Rows.sortedHeap_old (Nat.ne_of_lt hb) (by rw [size_push']; exact Nat.lt_succ_of_lt hb)]
  exact Heap.get?_push_of_some _ e
end
/-! ### zip of a tuple and a list -/
section
open PySem
variable {prog : Program} {w : World} {A : Around} {E : Value → Shared → Prop} {s : Shared}
theorem mixItem {z tI tO j1 j2 m1 m2 : Addr} {k : Nat} {us vs : Array Value} {u v a b : Value} {Q : Value → Shared → Prop} (D : ZipApart z tI tO j1 j2 m1 m2)
    (gz : IsZip s.heap z tI tO .none) (gI : IsPair s.heap tI (.ref j1) (.ref j2)) (gO : IsPair s.heap tO a b) (g1 : s.heap.IsTupleIter j1 m1 k) (g2 : s.heap.IsListIter j2 m2 k) (t1 : s.heap.IsTuple m1 us) (t2 : s.heap.IsList m2 vs) (e1 : us[k]? = some u) (e2 : vs[k]? = some v)
    (q : ∀ h', IsZip h' z tI tO (rawInt s.heap.objs.size) → IsPair h' tO u v → h'.IsTupleIter j1 m1 (k + 1) → h'.IsListIter j2 m2 (k + 1) → IsPair h' s.heap.objs.size u v → h'.objs.size = s.heap.objs.size + 1 →
      (∀ c o, ¬ c ∈ [z, tI, tO, j1, j2] ∨ c = tI → s.heap.get? c = some o → h'.get? c = some o) → Q (.ref s.heap.objs.size) { s with heap := h' }) :
    wpAny (model prog w) A (Builtin.«zip.__next__» ⟨[.ref z], []⟩) (fun r s' => ∃ x, r = .done (.ret x) ∧ Q x s') E s := by
  show wpAny _ _ (field (.ref z) 2 >>= _) _ _ _
  refine wpAny_bind (wpAny_field gz rfl (x := .bool false) rfl ?_)
  show wpAny _ _ (field (.ref z) 3 >>= _) _ _ _
  refine wpAny_bind (wpAny_field gz rfl (x := .ref tI) rfl (wpAny_bind (wpAny_seqItems gI rfl ?_)))
  show wpAny _ _ (Builtin.SmallTypes.ownedTupleIsFree (.ref z) >>= _) _ _ s
  refine wpAny_bind ?_; unfold Builtin.SmallTypes.ownedTupleIsFree
  refine wpAny_bind (wpAny_field gz rfl (x := .none) rfl (wpAny_pure ?_)); simp only [if_true]
  refine wpAny_bind (wpAny_rule (wpAny_bind (wpAny_field gz rfl (x := .ref tO) rfl (wpAny_bind (wpAny_setField_rec gz (by simp) fun p1 gz1 b1 => ?_)))))
  have gz1 : IsZip p1 z tI tO .ellipsis := gz1
  refine wpAny_bind ?_; simp only [List.forIn_cons, List.zipIdx_cons, List.forIn_nil, List.zipIdx_nil]
  -- the tuple's next one
  refine wpAny_bind (wpAny_bind (wpAny_onRaise ?_))
  show wpAny _ _ (Builtin.SmallTypes.nextOf (.ref j1) >>= _) _ _ _
  refine wpAny_bind (RZ.nextOf_tuple_item (g1.extBut b1.extBut D.i1z) (t1.extBut b1.extBut D.l1z) e1 fun p2 g12 b2 => wpAny_pure ?_)
  have gO2 : IsPair p2 tO a b := b2.extBut _ _ D.TOi1 (b1.extBut _ _ D.TOz gO)
  refine wpAny_bind (wpAny_seqItems gO2 rfl (wpAny_bind (wpAny_updateSeq_pair gO2 fun p3 gO3 b3 => wpAny_bind (wpAny_letGo (wpAny_pure ?_)))))
  have gO3 : IsPair p3 tO u b := gO3
  -- the list's next one
  refine wpAny_bind (wpAny_bind (wpAny_onRaise ?_))
  show wpAny _ _ (Builtin.SmallTypes.nextOf (.ref j2) >>= _) _ _ _
  have g23 := ((g2.extBut b1.extBut D.i2z).extBut b2.extBut D.i12.symm).extBut b3.extBut D.TOi2.symm
  have t23 := ((t2.extBut b1.extBut D.l2z).extBut b2.extBut D.l2i1).extBut b3.extBut D.l2TO
  refine wpAny_bind (wpAny_nextOf_list_item g23 t23 e2 fun p4 g24 b4 => wpAny_pure ?_)
  have gO4 : IsPair p4 tO u b := b4.extBut _ _ D.TOi2 gO3
  refine wpAny_bind (wpAny_seqItems gO4 rfl (wpAny_bind (wpAny_updateSeq_pair gO4 fun p5 gO5 b5 => wpAny_bind (wpAny_letGo (wpAny_pure (wpAny_pure ?_))))))
  have gO5 : IsPair p5 tO u v := gO5
  refine wpAny_bind (wpAny_seqItems gO5 rfl (wpAny_bind (wpAny_newTuple ?_)))
  have zs : p5.objs.size = s.heap.objs.size := by rw [b5.1, b4.1, b3.1, b2.1, b1.1]
  have gz5 : IsZip p5 z tI tO .ellipsis := b5.extBut _ _ D.TOz.symm (b4.extBut _ _ D.i2z.symm (b3.extBut _ _ D.TOz.symm (b2.extBut _ _ D.i1z.symm gz1)))
  have kp : ∀ c o, c ≠ z → c ≠ tO → c ≠ j1 → c ≠ j2 → s.heap.get? c = some o → p5.get? c = some o := fun c o n1 n2 n3 n4 e => by
    rw [b5.2 c n2, b4.2 c n4, b3.2 c n2, b2.2 c n3, b1.2 c n1]
    exact e
  have g15 : p5.IsTupleIter j1 m1 (k + 1) := g12.at fun o e => by
    rw [b5.2 _ D.TOi1.symm, b4.2 _ D.i12, b3.2 _ D.TOi1.symm]
    exact e
  have g25 : p5.IsListIter j2 m2 (k + 1) := g24.at fun o e => (b5.2 _ D.TOi2.symm).trans e
  have lz : z < p5.objs.size := Heap.lt_size gz5
  show wpAny _ _ (Builtin.SmallTypes.ownedTupleHandOut (.ref z) (.ref p5.objs.size) >>= _) _ _ _
  refine wpAny_bind ?_; unfold Builtin.SmallTypes.ownedTupleHandOut
  have gz6 : IsZip (p5.push { cls := .type "tuple", data := .seq #[u, v] }) z tI tO .ellipsis := Heap.get?_push_of_some _ gz5
  refine wpAny_bind (wpAny_setField_rec gz6 (by simp) fun p7 gz7 b7 => ?_)
  have gz7 : IsZip p7 z tI tO (rawInt p5.objs.size) := gz7
  refine wpAny_setField_rec gz7 (by simp) fun p8 gz8 b8 => wpAny_pure ⟨_, rfl, ?_⟩
  have gz8 : IsZip p8 z tI tO (rawInt p5.objs.size) := gz8
  have up : ∀ c o, c ≠ z → p5.get? c = some o → p8.get? c = some o := fun c o n e => by
    rw [b8.2 c n, b7.2 c n]
    exact Heap.get?_push_of_some _ e
  have gT : IsPair p8 p5.objs.size u v := by
    show p8.get? _ = _
    rw [b8.2 _ (Nat.ne_of_gt lz), b7.2 _ (Nat.ne_of_gt lz)]
    exact Heap.get?_push_size _ rfl
  have z8 : p8.objs.size = p5.objs.size + 1 := by rw [b8.1, b7.1, Heap.size_push]
  rw [zs] at gz8 gT z8
  show Q (.ref p5.objs.size) _
  rw [zs]
  refine q p8 gz8 (up _ _ D.TOz gO5) (g15.at fun o e => up _ o D.i1z e) (g25.at fun o e => up _ o D.i2z e) gT z8 fun c o n e => ?_
  have n4 : c ≠ z ∧ c ≠ tO ∧ c ≠ j1 ∧ c ≠ j2 := by
    rcases n with n | n
    · simp only [List.mem_cons, List.not_mem_nil, or_false, not_or] at n
      exact ⟨n.1, n.2.2.1, n.2.2.2.1, n.2.2.2.2⟩
    · subst n
      exact ⟨D.TIz, D.TITO, D.TIi1, D.TIi2⟩
  exact up c o n4.1 (kp c o n4.1 n4.2.1 n4.2.2.1 n4.2.2.2 e)
theorem mixEnd {z tI tO j1 j2 m1 m2 : Addr} {k : Nat} {us vs : Array Value} {a b : Value} {Q : Fin → Shared → Prop} (hh : A.handled = none) (D : ZipApart z tI tO j1 j2 m1 m2)
    (gz : IsZip s.heap z tI tO .none) (gI : IsPair s.heap tI (.ref j1) (.ref j2)) (gO : IsPair s.heap tO a b) (g1 : s.heap.IsTupleIter j1 m1 k) (g2 : s.heap.IsListIter j2 m2 k) (t1 : s.heap.IsTuple m1 us) (t2 : s.heap.IsList m2 vs) (hend : us[k]? = none ∨ vs[k]? = none)
    (q : ∀ h' x, (∀ c o, ¬ c ∈ [z, tI, tO, j1, j2] → s.heap.get? c = some o → h'.get? c = some o) → (∃ o, h'.get? x = some o ∧ o.cls = .type "StopIteration") → E (.ref x) { s with heap := h' }) :
    wpAny (model prog w) A (Builtin.«zip.__next__» ⟨[.ref z], []⟩) Q E s := by
  have four : ∀ c, ¬ c ∈ [z, tI, tO, j1, j2] → c ≠ z ∧ c ≠ tO ∧ c ≠ j1 ∧ c ≠ j2 := fun c n => by
    simp only [List.mem_cons, List.not_mem_nil, or_false, not_or] at n
    exact ⟨n.1, n.2.2.1, n.2.2.2.1, n.2.2.2.2⟩
  show wpAny _ _ (field (.ref z) 2 >>= _) _ _ _
  refine wpAny_bind (wpAny_field gz rfl (x := .bool false) rfl ?_)
  show wpAny _ _ (field (.ref z) 3 >>= _) _ _ _
  refine wpAny_bind (wpAny_field gz rfl (x := .ref tI) rfl (wpAny_bind (wpAny_seqItems gI rfl ?_)))
  show wpAny _ _ (Builtin.SmallTypes.ownedTupleIsFree (.ref z) >>= _) _ _ s
  refine wpAny_bind ?_; unfold Builtin.SmallTypes.ownedTupleIsFree
  refine wpAny_bind (wpAny_field gz rfl (x := .none) rfl (wpAny_pure ?_)); simp only [if_true]
  refine wpAny_bind (wpAny_rule (wpAny_bind (wpAny_field gz rfl (x := .ref tO) rfl (wpAny_bind (wpAny_setField_rec gz (by simp) fun p1 gz1 b1 => ?_)))))
  have gz1 : IsZip p1 z tI tO .ellipsis := gz1
  refine wpAny_bind ?_; simp only [List.forIn_cons, List.zipIdx_cons, List.forIn_nil, List.zipIdx_nil]
  refine wpAny_bind (wpAny_bind (wpAny_onRaise ?_))
  show wpAny _ _ (Builtin.SmallTypes.nextOf (.ref j1) >>= _) _ _ _
  have last : ∀ (h : Heap) (x : Addr), IsZip h z tI tO .ellipsis → (∃ o, h.get? x = some o ∧ o.cls = .type "StopIteration") → x ≠ z := fun h x gz ⟨o, e, ec⟩ n => by
    subst n
    rw [gz] at e
    cases e
    simp at ec
  cases e1 : us[k]? with
  | none =>
    refine wpAny_bind (RZ.nextOf_tuple_end hh (g1.extBut b1.extBut D.i1z) (t1.extBut b1.extBut D.l1z) e1 fun p2 x b2 ex => ?_)
    have gz2 : IsZip p2 z tI tO .ellipsis := b2 _ _ D.i1z.symm gz1
    have nz := last p2 x gz2 ex
    obtain ⟨o, eo, ec⟩ := ex
    refine wpAny_setField_rec gz2 (by simp) fun p3 _ b3 => q p3 x (fun c o n e => ?_) ⟨o, (b3.2 _ nz).trans eo, ec⟩
    have n4 := four c n
    rw [b3.2 c n4.1]
    exact b2 _ _ n4.2.2.1 ((b1.2 c n4.1).trans e)
  | some u =>
    have e2 : vs[k]? = none := by
      rcases hend with h | h
      · rw [e1] at h
        cases h
      · exact h
    refine wpAny_bind (RZ.nextOf_tuple_item (g1.extBut b1.extBut D.i1z) (t1.extBut b1.extBut D.l1z) e1 fun p2 g12 b2 => wpAny_pure ?_)
    have gO2 : IsPair p2 tO a b := b2.extBut _ _ D.TOi1 (b1.extBut _ _ D.TOz gO)
    refine wpAny_bind (wpAny_seqItems gO2 rfl (wpAny_bind (wpAny_updateSeq_pair gO2 fun p3 gO3 b3 => wpAny_bind (wpAny_letGo (wpAny_pure ?_)))))
    refine wpAny_bind (wpAny_bind (wpAny_onRaise ?_))
    show wpAny _ _ (Builtin.SmallTypes.nextOf (.ref j2) >>= _) _ _ _
    have g23 := ((g2.extBut b1.extBut D.i2z).extBut b2.extBut D.i12.symm).extBut b3.extBut D.TOi2.symm
    have t23 := ((t2.extBut b1.extBut D.l2z).extBut b2.extBut D.l2i1).extBut b3.extBut D.l2TO
    refine wpAny_bind (wpAny_nextOf_list_end hh g23 t23 e2 fun p4 x b4 ex => ?_)
    have gz4 : IsZip p4 z tI tO .ellipsis := b4 _ _ D.i2z.symm (b3.extBut _ _ D.TOz.symm (b2.extBut _ _ D.i1z.symm gz1))
    have nz := last p4 x gz4 ex
    obtain ⟨o, eo, ec⟩ := ex
    refine wpAny_setField_rec gz4 (by simp) fun p5 _ b5 => q p5 x (fun c o n e => ?_) ⟨o, (b5.2 _ nz).trans eo, ec⟩
    have n4 := four c n
    rw [b5.2 c n4.1]
    refine b4 _ _ n4.2.2.2 ?_
    rw [b3.2 c n4.2.1, b2.2 c n4.2.2.1, b1.2 c n4.1]
    exact e
theorem mixNextItem {z tI tO j1 j2 m1 m2 : Addr} {k : Nat} {us vs : Array Value} {u v a b : Value} {Q : Option Value → Shared → Prop} (D : ZipApart z tI tO j1 j2 m1 m2)
    (gz : IsZip s.heap z tI tO .none) (gI : IsPair s.heap tI (.ref j1) (.ref j2)) (gO : IsPair s.heap tO a b) (g1 : s.heap.IsTupleIter j1 m1 k) (g2 : s.heap.IsListIter j2 m2 k) (t1 : s.heap.IsTuple m1 us) (t2 : s.heap.IsList m2 vs) (e1 : us[k]? = some u) (e2 : vs[k]? = some v)
    (q : ∀ h', IsZip h' z tI tO (rawInt s.heap.objs.size) → IsPair h' tO u v → h'.IsTupleIter j1 m1 (k + 1) → h'.IsListIter j2 m2 (k + 1) → IsPair h' s.heap.objs.size u v → h'.objs.size = s.heap.objs.size + 1 →
      (∀ c o, ¬ c ∈ [z, tI, tO, j1, j2] ∨ c = tI → s.heap.get? c = some o → h'.get? c = some o) → Q (some (.ref s.heap.objs.size)) { s with heap := h' }) :
    wpAny (model prog w) A (pyNext (.ref z)) Q E s := by
  have ty : s.TypeIs (.ref z) "zip" := ⟨_, gz, rfl⟩
  unfold pyNext; refine wpAny_bind (wpAny_attempt (wpAny_callSpecial?_slot (name := Str.ofString "__next__") ty F.slot_zip_next ?_))
  exact wpAny_call_entry F.slot_zip_next ty F.entry_zip_next (mixItem D gz gI gO g1 g2 t1 t2 e1 e2 fun h' r1 r2 r3 r4 r5 r6 r7 => wpAny_pure (q h' r1 r2 r3 r4 r5 r6 r7)) (F.args_zip_next_1 _)
theorem mixNextEnd {z tI tO j1 j2 m1 m2 : Addr} {k : Nat} {us vs : Array Value} {a b : Value} {Q : Option Value → Shared → Prop} (hh : A.handled = none) (D : ZipApart z tI tO j1 j2 m1 m2)
    (gz : IsZip s.heap z tI tO .none) (gI : IsPair s.heap tI (.ref j1) (.ref j2)) (gO : IsPair s.heap tO a b) (g1 : s.heap.IsTupleIter j1 m1 k) (g2 : s.heap.IsListIter j2 m2 k) (t1 : s.heap.IsTuple m1 us) (t2 : s.heap.IsList m2 vs) (hend : us[k]? = none ∨ vs[k]? = none)
    (q : ∀ h', (∀ c o, ¬ c ∈ [z, tI, tO, j1, j2] → s.heap.get? c = some o → h'.get? c = some o) → Q none { s with heap := h' }) : wpAny (model prog w) A (pyNext (.ref z)) Q E s := by
  have ty : s.TypeIs (.ref z) "zip" := ⟨_, gz, rfl⟩
  unfold pyNext; refine wpAny_bind (wpAny_attempt (wpAny_callSpecial?_slot (name := Str.ofString "__next__") ty F.slot_zip_next ?_))
  refine wpAny_call_entry F.slot_zip_next ty F.entry_zip_next (mixEnd hh D gz gI gO g1 g2 t1 t2 hend fun h' x kp ⟨o, eo, ec⟩ => ?_) (F.args_zip_next_1 _)
  exact wpAny_bind (wpAny_isInstance (T := "StopIteration") (b := true) ⟨o, eo, ec⟩ isSubtype_stop (wpAny_pure (q _ kp)))
end
section
open PySem
/-- the tuple at a and the list at b as they stand at each turn -/
def ItzM (K : PySem.W.Frag) (a b : Addr) : It where
  go i H := ∃ (us vs : List V) (x y : V), SqT K H a us ∧ SqL K H b vs ∧ us[i]? = some x ∧ vs[i]? = some y
  yld i H v H' := ∃ c x y, v = .ref c ∧ H c = none ∧ H' = upd H c (.tup [x, y]) ∧ (∀ us, SqT K H a us → us[i]? = some x) ∧ ∀ vs, SqL K H b vs → vs[i]? = some y
  stop i H := ∃ us vs : List V, SqT K H a us ∧ SqL K H b vs ∧ (us.length ≤ i ∨ vs.length ≤ i)
theorem turnMix {P : Program} {w : World} {K : PySem.W.Frag} {el : List Expr} {n : Nat} {tp : Pos} {a b z tI tO j1 j2 : Addr} (D : ZipApart z tI tO j1 j2 a b) :
    Turn P w K (.Tuple el n tp) (ItzM K a b) [z, tI, tO, j1, j2] z (fun i h => IsZip h z tI tO .none ∧ IsPair h tI (.ref j1) (.ref j2) ∧ (∃ x y, IsPair h tO x y) ∧ h.IsTupleIter j1 a i ∧ h.IsListIter j2 b i) where
  mem := by simp
  obj := fun i h st c hc => by
    obtain ⟨gz, gI, ⟨x, y, gO⟩, ⟨o1, e1, _, d1⟩, o2, e2, _, d2⟩ := st
    simp only [List.mem_cons, List.not_mem_nil, or_false] at hc
    rcases hc with rfl | rfl | rfl | rfl | rfl
    · exact ⟨_, gz, fun v e => nomatch e⟩
    · exact ⟨_, gI, fun v e => nomatch e⟩
    · exact ⟨_, gO, fun v e => nomatch e⟩
    · exact ⟨o1, e1, fun v e => by rw [d1] at e; cases e⟩
    · exact ⟨o2, e2, fun v e => by rw [d2] at e; cases e⟩
  keep := fun i h h' st k => by
    obtain ⟨gz, gI, ⟨x, y, gO⟩, g1, g2⟩ := st
    exact ⟨k _ (by simp) _ gz, k _ (by simp) _ gI, ⟨x, y, k _ (by simp) _ gO⟩, g1.at fun o e => k _ (by simp) o e, g2.at fun o e => k _ (by simp) o e⟩
  item := by
    intro X eP ew eK hc i pins s σ H E I hf st hg
    subst eP ew eK
    obtain ⟨gz, gI, ⟨x0, y0, gO⟩, g1, g2⟩ := st
    obtain ⟨us, vs, x, y, s1, s2, e1, e2⟩ := hg
    obtain ⟨as, r1, t1, _⟩ := I.tuple s1
    obtain ⟨bs, r2, t2, _⟩ := I.list s2
    obtain ⟨u, eu, ru⟩ := r1.get e1
    obtain ⟨v, ev, rv⟩ := r2.get e2
    have lz : z < s.heap.objs.size := Heap.lt_size gz
    refine mixNextItem D gz gI gO g1 g2 t1 t2.isList (u := u) (v := v) (by simpa using eu) (by simpa using ev) fun h' k1 k2 k3 k4 k5 k6 k7 => ⟨_, rfl, ?_⟩
    refine wpAny_letOwnedTupleGo_zip (s := { s with heap := h' }) k1 fun h2 l1 sb => ?_
    have pr : h2.get? s.heap.objs.size = some { cls := .type "tuple", data := .seq #[u, v] } := (sb.2 _ (Nat.ne_of_gt lz)).trans k5
    have ok : ObjOk X.prog X.w (upd H s.heap.objs.size (.tup [x, y])) h2 s.heap.objs.size (.tup [x, y]) := ⟨by show 2 ≤ sizeLine; decide, [u, v], .cons ru (.cons rv .nil), _, pr, rfl, _, rfl⟩
    have J : Inv X pins σ (upd H s.heap.objs.size (.tup [x, y])) { s with heap := h2 } := I.turnedNew (t' := s.toks) (ch := [z, tI, tO, j1, j2]) (fun c o n e => by
      have nz : c ≠ z := fun e => n (by simp [e])
      exact (sb.2 c nz).trans (k7 c o (.inl n) e)) hf (Nat.le_refl _) ok
    refine ⟨.ref s.heap.objs.size, _, J, rfl, ⟨_, x, y, rfl, I.hok.fresh (Nat.le_refl _), rfl, fun l hl => ?_, fun l hl => ?_⟩, ⟨l1, ?_, ⟨u, v, ?_⟩, ?_, ?_⟩, fun c hcm => ?_⟩
    · rw [I.tuple_inj hl s1]
      exact e1
    · rw [I.list_inj hl s2]
      exact e2
    · exact (sb.2 _ D.TIz).trans (k7 _ _ (.inr rfl) gI)
    · exact (sb.2 _ D.TOz).trans k2
    · exact k3.at fun o e => (sb.2 _ D.i1z).trans e
    · exact k4.at fun o e => (sb.2 _ D.i2z).trans e
    · have lt : c < s.heap.objs.size := by
        have hc' := hcm
        simp only [List.mem_cons, List.not_mem_nil, or_false] at hc'
        rcases hc' with rfl | rfl | rfl | rfl | rfl
        · exact lz
        · exact Heap.lt_size gI
        · exact Heap.lt_size gO
        · exact g1.elim fun _ e => Heap.lt_size e.1
        · exact g2.elim fun _ e => Heap.lt_size e.1
      rw [upd_ne (Nat.ne_of_lt lt)]
      exact (hf c hcm).1
  done := by
    intro X eP ew eK hc i pins s σ H E I hf st hg
    subst eP ew eK
    obtain ⟨gz, gI, ⟨x0, y0, gO⟩, g1, g2⟩ := st
    obtain ⟨us, vs, s1, s2, he⟩ := hg
    obtain ⟨as, r1, t1, _⟩ := I.tuple s1
    obtain ⟨bs, r2, t2, _⟩ := I.list s2
    have l1 := r1.length
    have l2 := r2.length
    refine mixNextEnd (I.ok.hd hc) D gz gI gO g1 g2 t1 t2.isList ?_ fun h' kp => ⟨rfl, I.turnedL (t' := s.toks) (ch := [z, tI, tO, j1, j2]) (fun c o n e => kp c o n e) hf⟩
    rcases he with h | h
    · exact .inl (by simp; omega)
    · exact .inr (by simp; omega)
  self := fun A i s Q E st h => wpAny_pyIter_zip st.1 h
abbrev mx1 (h : Heap) (a : Addr) : Heap := h.push { cls := .type "tuple_iterator", data := .fields #[.ref a, .int 0 0] }
abbrev mx2 (h : Heap) (a b : Addr) : Heap := (mx1 h a).push { cls := .type "list_iterator", data := .fields #[.ref b, .int 0 0] }
abbrev mx3 (h : Heap) (a b : Addr) : Heap := (mx2 h a b).push { cls := .type "tuple", data := .seq #[.ref h.objs.size, .ref (mx1 h a).objs.size] }
abbrev mx4 (h : Heap) (a b : Addr) : Heap := (mx3 h a b).push { cls := .type "tuple", data := .seq #[.none, .none] }
abbrev mx5 (h : Heap) (a b : Addr) : Heap := (mx4 h a b).push { cls := .type "zip", data := .fields #[.none, .bool false, .bool false, .ref (mx2 h a b).objs.size, .ref (mx3 h a b).objs.size] }
theorem mixMade (a b : Addr) (us vs : Array Value) : Meets (Builtin.«zip.__new__» ⟨[.type "zip", .ref a, .ref b], []⟩) (fun _ R s => s.heap.IsTuple a us ∧ s.heap.IsList b vs ∧ R (.ok (.ret (.ref (mx4 s.heap a b).objs.size))) { s with heap := mx5 s.heap a b }) :=
  .of_wp fun prog w A R s h => by
    obtain ⟨hp, g, d, tk, os⟩ := s
    obtain ⟨t1, t2, q⟩ := h
    have sz := sub_zip
    have T1 : Heap.IsTuple (Shared.heap ⟨hp, g, d, tk, os⟩) a us := t1
    have T2 : Heap.IsList (Shared.heap ⟨hp.push { cls := .type "tuple_iterator", data := .fields #[.ref a, .int 0 0] }, g, d, tk, os⟩) b vs := Heap.IsList.push t2 _
    wp_walk using wpAny_pyIter_tuple T1, wpAny_pyIter_list T2
    exact ⟨_, rfl, q⟩
theorem mixCall {prog : Program} {w : World} {A : Around} {E : Value → Shared → Prop} {s : Shared} {a b : Addr} {us vs : Array Value} {Q : Value → Shared → Prop} (t1 : s.heap.IsTuple a us) (t2 : s.heap.IsList b vs)
    (q : ∀ h', IsZip h' (s.heap.objs.size + 4) (s.heap.objs.size + 2) (s.heap.objs.size + 3) .none ∧ IsPair h' (s.heap.objs.size + 2) (.ref s.heap.objs.size) (.ref (s.heap.objs.size + 1)) ∧ IsPair h' (s.heap.objs.size + 3) .none .none ∧ h'.IsTupleIter s.heap.objs.size a 0 ∧ h'.IsListIter (s.heap.objs.size + 1) b 0 →
      (∀ c o, s.heap.get? c = some o → h'.get? c = some o) → Q (.ref (s.heap.objs.size + 4)) { s with heap := h' }) : wpAny (model prog w) A (call (.type "zip") [.ref a, .ref b]) Q E s := by
  refine callType_new F.called_zip (by decide) (F.typeCall_zip_2 _ _) (F.newCall_zip_2 _ _) (fun ob => F.args_object_init_3 ob _ _) F.entry_zip_new (mixMade a b us vs) ⟨t1, t2, ?_⟩
  have n1 : (mx1 s.heap a).objs.size = s.heap.objs.size + 1 := Heap.size_push ..
  have n2 : (mx2 s.heap a b).objs.size = s.heap.objs.size + 2 := by rw [Heap.size_push, n1]
  have n3 : (mx3 s.heap a b).objs.size = s.heap.objs.size + 3 := by rw [Heap.size_push, n2]
  have n4 : (mx4 s.heap a b).objs.size = s.heap.objs.size + 4 := by rw [Heap.size_push, n3]
  have on : ∀ {h : Heap} {c : Addr} {o p : Obj}, h.get? c = some o → (h.push p).get? c = some o := fun e => Heap.get?_push_of_some _ e
  have f5 : (mx5 s.heap a b).get? (mx4 s.heap a b).objs.size = some _ := Heap.get?_push_size _ rfl
  have f4 : (mx5 s.heap a b).get? (mx3 s.heap a b).objs.size = some _ := on (Heap.get?_push_size _ rfl)
  have f3 : (mx5 s.heap a b).get? (mx2 s.heap a b).objs.size = some _ := on (on (Heap.get?_push_size _ rfl))
  have f2 : (mx5 s.heap a b).get? (mx1 s.heap a).objs.size = some _ := on (on (on (Heap.get?_push_size _ rfl)))
  have f1 : (mx5 s.heap a b).get? s.heap.objs.size = some _ := on (on (on (on (Heap.get?_push_size _ rfl))))
  rw [n2, n3, n4] at f5
  rw [n1, n2] at f3
  rw [n3] at f4
  rw [n1] at f2
  show _ ∧ _
  rw [n4]
  exact ⟨⟨_, f5, rfl⟩, q _ ⟨f5, f3, f4, ⟨_, f1, rfl, rfl⟩, _, f2, rfl, rfl⟩ fun c o e => on (on (on (on (on e))))⟩
def iMix (K : PySem.W.Frag) (ta : TA) : L2.TI := fun σ H R => ta σ H fun vs H1 => ∃ a b xs ys, vs = [.ref a, .ref b] ∧ SqT K H1 a xs ∧ SqL K H1 b ys ∧ R (ItzM K a b) H1
theorem pi_mix {X : Cx} {e e2 : Expr} {ta : TA} {p pos tp : Pos} {el : List Expr} {n : Nat} (hg : Gl X "zip") (hm : X.mg "zip" = none) (ha : PA X [e, e2] ta)
    (h1 : starEach [e, e2] X.env = (false, eval e X.env) :: starEach [e2] X.env := by rfl) (h2 : (backTo pos (starEach [e2] X.env)).any (·.1) = false := by rfl) : PI X (.Tuple el n tp) (.Call (.Name "zip" p) [e, e2] [] pos) (iMix X.K ta) := by
  constructor
  intro pins s σ H R I h
  refine Call_ (ld_blt I hg hm PyProof.Rows.boot_zip (PyProof.Rows.callWith_type1 (thn (ha.run pos pins s σ H _ I h) fun us s1 hz => ?_) h1 h2))
  obtain ⟨vs, H1, J, va, a, b, xs, ys, rfl, hx, hy, q⟩ := hz
  match us, va with
  | [_, _], .cons r1 (.cons r2 .nil) =>
    cases r1
    cases r2
    obtain ⟨as, rv1, t1, _⟩ := J.tuple hx
    obtain ⟨bs, rv2, t2, _⟩ := J.list hy
    have la : a < s1.heap.objs.size := t1.elim fun _ z => Heap.lt_size z.1
    refine mixCall t1 t2.isList fun h' st kp => wpAny_pyIter_zip st.1 ?_
    refine ⟨s1.heap.objs.size + 4, [s1.heap.objs.size + 4, s1.heap.objs.size + 2, s1.heap.objs.size + 3, s1.heap.objs.size, s1.heap.objs.size + 1], _, _, H1, rfl, J.kept (t' := s1.toks) kp, turnMix (PySem.W.ktu_apart s1.heap.objs.size a b la t2.lt), ⟨st.1, st.2.1, ⟨_, _, st.2.2.1⟩, st.2.2.2.1, st.2.2.2.2⟩, fun c hc => ?_, q⟩
    have le : s1.heap.objs.size ≤ c := by
      simp only [List.mem_cons, List.not_mem_nil, or_false] at hc
      rcases hc with rfl | rfl | rfl | rfl | rfl
      · exact Nat.le_add_right _ _
      · exact Nat.le_add_right _ _
      · exact Nat.le_add_right _ _
      · exact Nat.le_refl _
      · exact Nat.le_add_right _ _
    exact J.fpOk le (J.hok.fresh le)
theorem walk_mix {K : PySem.W.Frag} {a b : Addr} {xs ys : List V} (hl : xs.length = ys.length) : Walk (ItzM K a b) xs.length (fun H => SqT K H a xs ∧ SqL K H b ys) (YPair (fun i => xs[i]?) (fun i => ys[i]?)) where
  goes i H hi q := ⟨xs, ys, xs[i], ys[i]'(hl ▸ hi), q.1, q.2, List.getElem?_eq_getElem hi, List.getElem?_eq_getElem (hl ▸ hi)⟩
  stops H q := ⟨xs, ys, q.1, q.2, .inl (Nat.le_refl _)⟩
  yields i H v H' _ q y := by
    obtain ⟨c, x, z, k1, k2, k3, k4, k5⟩ := y
    exact ⟨c, x, z, k1, k2, k3, k4 xs q.1, k5 ys q.2⟩
end
/-! ### enumerate of a tuple -/
section
open PySem
theorem enuMade (a : Addr) (us : Array Value) (n : Nat) (dc : Option Addr) (sl : Array (Option Value)) : Meets (Builtin.«enumerate.__new__» ⟨[.type "enumerate", .ref a], []⟩) (fun _ R s => s.heap.get? a = some { cls := .type "tuple", dict := dc, data := .seq us n, slots := sl } ∧
      R (.ok (.ret (.ref (s.heap.push { cls := .type "tuple_iterator", data := .fields #[.ref a, .int 0 0] }).objs.size)))
        { s with heap := (s.heap.push { cls := .type "tuple_iterator", data := .fields #[.ref a, .int 0 0] }).push { cls := .type "enumerate", data := .fields #[.none, .bool false, .ref s.heap.objs.size, rawInt 0, .none, .none] } }) :=
  .of_wp fun prog w A R s h => by
    obtain ⟨hp, g, d, tk, os⟩ := s
    obtain ⟨e, q⟩ := h
    have su := sub_enumerate
    have T : Heap.IsTuple (Shared.heap ⟨hp, g, d, tk, os⟩) a us := ⟨_, e, rfl, n, rfl⟩
    wp_walk using PySem.AutoSeq1.wpAny_loadPart' e
    refine wpAny_stack_any fun st => wpAny_pure ?_
    split
    · rename_i c _ _ _ _ _
      cases (c == Value.type "enumerate")
      · wp_walk using PySem.AutoSeq1.wpAny_loadPart' e, wpAny_pyIter_tuple T
        exact ⟨_, rfl, q⟩
      · wp_walk using PySem.AutoSeq1.wpAny_loadPart' e, wpAny_pyIter_tuple T
        exact ⟨_, rfl, q⟩
    · wp_walk using PySem.AutoSeq1.wpAny_loadPart' e, wpAny_pyIter_tuple T
      exact ⟨_, rfl, q⟩
variable {prog : Program} {w : World} {A : Around} {E : Value → Shared → Prop} {s : Shared}
theorem enuCall {a : Addr} {us : Array Value} {Q : Value → Shared → Prop} (t : s.heap.IsTuple a us)
    (q : ∀ h', IsEnum h' (s.heap.objs.size + 1) s.heap.objs.size 0 .none → h'.IsTupleIter s.heap.objs.size a 0 → (∀ b o, s.heap.get? b = some o → h'.get? b = some o) → Q (.ref (s.heap.objs.size + 1)) { s with heap := h' }) :
    wpAny (model prog w) A (call (.type "enumerate") [.ref a]) Q E s := by
  obtain ⟨⟨c, dc, dt, sl⟩, e, ec, n, ed⟩ := t
  have ec : c = .type "tuple" := ec
  have ed : dt = .seq us n := ed
  subst ec ed
  refine callType_new F.called_enumerate (by decide) (F.typeCall_enumerate_1 _) (F.newCall_enumerate_1 _) (fun ob => F.args_object_init_2 ob _) F.entry_enumerate_new (enuMade a us n dc sl) ⟨e, ?_⟩
  have z : (s.heap.push { cls := .type "tuple_iterator", data := .fields #[.ref a, .int 0 0] }).objs.size = s.heap.objs.size + 1 := Heap.size_push ..
  have g2 : ((s.heap.push { cls := .type "tuple_iterator", data := .fields #[.ref a, .int 0 0] }).push { cls := .type "enumerate", data := .fields #[.none, .bool false, .ref s.heap.objs.size, rawInt 0, .none, .none] }).get? (s.heap.push { cls := .type "tuple_iterator", data := .fields #[.ref a, .int 0 0] }).objs.size = some _ := Heap.get?_push_size _ rfl
  show _ ∧ _
  rw [z] at g2 ⊢
  exact ⟨⟨_, g2, rfl⟩, q _ g2 ⟨_, Heap.get?_push_of_some _ (Heap.get?_push_size _ rfl), rfl, rfl⟩ fun b o x => Heap.get?_push_of_some _ (Heap.get?_push_of_some _ x)⟩
theorem enuItem {e j a : Addr} {i : Nat} {us : Array Value} {x old : Value} {Q : Value → Shared → Prop} (g : IsEnum s.heap e j i old) (gj : s.heap.IsTupleIter j a i) (t : s.heap.IsTuple a us) (ex : us[i]? = some x) (ne : e ≠ j)
    (q : ∀ h', IsEnumOut h' e j ((i : Int) + 1) x s.heap.objs.size → h'.IsTupleIter j a (i + 1) → h'.get? s.heap.objs.size = some { cls := .type "tuple", data := .seq #[.int i s.toks, x] } →
      (∀ b o, b ≠ e → b ≠ j → s.heap.get? b = some o → h'.get? b = some o) → Q (.ref s.heap.objs.size) { s with heap := h', toks := s.toks + 1 }) :
    wpAny (model prog w) A (Builtin.«enumerate.__next__» ⟨[.ref e], []⟩) (fun r s' => ∃ v, r = .done (.ret v) ∧ Q v s') E s := by
  obtain ⟨hp, gg, dd, tk, os⟩ := s
  show wpAny _ _ (field (.ref e) 2 >>= _) _ _ _
  refine wpAny_bind (wpAny_field g rfl (x := .ref j) rfl (wpAny_bind (RZ.nextOf_tuple_item gj t ex fun p1 gj1 b1 => ?_)))
  have b1 : Heap.SameBut j hp p1 := b1
  have g1 : IsEnum p1 e j i old := (b1.2 e ne).trans g
  show wpAny _ _ (field (.ref e) 3 >>= _) _ _ ⟨p1, gg, dd, tk, os⟩
  refine wpAny_bind (wpAny_field g1 rfl (x := rawInt i) rfl ?_)
  show wpAny _ _ (field (.ref e) 4 >>= _) _ _ ⟨p1, gg, dd, tk, os⟩
  refine wpAny_bind (wpAny_field g1 rfl (x := .none) rfl ?_)
  show wpAny _ _ (mkInt i >>= _) _ _ ⟨p1, gg, dd, tk, os⟩
  refine wpAny_bind (wpAny_mkInt ?_)
  show wpAny _ _ (setField (.ref e) 3 (rawInt ((i : Int) + 1)) >>= _) _ _ ⟨p1, gg, dd, tk + 1, os⟩
  refine wpAny_bind (wpAny_setField_rec g1 (by simp) fun p2 g2 b2 => ?_)
  have b2 : Heap.SameBut e p1 p2 := b2
  have g2 : IsEnum p2 e j ((i : Int) + 1) old := g2
  show wpAny _ _ (setField (.ref e) 4 .none >>= _) _ _ ⟨p2, gg, dd, tk + 1, os⟩
  refine wpAny_bind (wpAny_setField_rec g2 (by simp) fun p3 g3 b3 => ?_)
  have b3 : Heap.SameBut e p2 p3 := b3
  have g3 : IsEnum p3 e j ((i : Int) + 1) old := g3
  show wpAny _ _ (newTuple [.int i tk, x] >>= _) _ _ ⟨p3, gg, dd, tk + 1, os⟩
  refine wpAny_bind (wpAny_newTuple ?_)
  have zs : p3.objs.size = hp.objs.size := by rw [b3.1, b2.1, b1.1]
  have g4 : IsEnum (p3.push { cls := .type "tuple", data := .seq #[.int i tk, x] }) e j ((i : Int) + 1) old := Heap.get?_push_of_some _ g3
  have t4 : (p3.push { cls := .type "tuple", data := .seq #[.int i tk, x] }).get? hp.objs.size = some { cls := .type "tuple", data := .seq #[.int i tk, x] } := by
    rw [← zs]
    exact Heap.get?_push_size _ rfl
  have k4 : ∀ b o, b ≠ e → b ≠ j → hp.get? b = some o → (p3.push { cls := .type "tuple", data := .seq #[.int i tk, x] }).get? b = some o := fun b o n1 n2 h => Heap.get?_push_of_some _ (by
    rw [b3.2 b n1, b2.2 b n1, b1.2 b n2]
    exact h)
  have j4 : (p3.push { cls := .type "tuple", data := .seq #[.int i tk, x] }).IsTupleIter j a (i + 1) := gj1.at fun o h => Heap.get?_push_of_some _ (by
    rw [b3.2 j ne.symm, b2.2 j ne.symm]
    exact h)
  have el : e < hp.objs.size := Heap.lt_size g
  show wpAny _ _ (Builtin.SmallTypes.ownedTupleIsFree (.ref e) >>= _) _ _ ⟨p3.push { cls := .type "tuple", data := .seq #[.int i tk, x] }, gg, dd, tk + 1, os⟩
  rw [zs]
  generalize p3.push { cls := .type "tuple", data := .seq #[.int i tk, x] } = p4 at g4 t4 k4 j4
  refine wpAny_bind ?_; unfold Builtin.SmallTypes.ownedTupleIsFree
  refine wpAny_bind (wpAny_field g4 rfl (x := .none) rfl (wpAny_pure ?_)); simp only [if_true]
  refine wpAny_bind (wpAny_rule (wpAny_bind (wpAny_field g4 rfl (x := old) rfl (wpAny_bind (wpAny_setField_rec g4 (by simp) fun p5 g5 b5 => ?_)))))
  have b5 : Heap.SameBut e p4 p5 := b5
  have g5 : IsEnum p5 e j ((i : Int) + 1) x := g5
  show wpAny _ _ (Builtin.SmallTypes.ownedTupleHandOut (.ref e) (.ref hp.objs.size) >>= _) _ _ ⟨p5, gg, dd, tk + 1, os⟩
  refine wpAny_bind ?_; unfold Builtin.SmallTypes.ownedTupleHandOut
  refine wpAny_bind (wpAny_setField_rec g5 (by simp) fun p6 g6 b6 => ?_)
  have b6 : Heap.SameBut e p5 p6 := b6
  have g6 : IsEnumOut p6 e j ((i : Int) + 1) x hp.objs.size := g6
  refine wpAny_setField_rec g6 (by simp) fun p7 g7 b7 => ?_
  have b7 : Heap.SameBut e p6 p7 := b7
  have up : ∀ b o, b ≠ e → p4.get? b = some o → p7.get? b = some o := fun b o n h => by
    rw [b7.2 b n, b6.2 b n, b5.2 b n]
    exact h
  exact wpAny_bind (wpAny_letGo (wpAny_pure ⟨_, rfl, q p7 g7 (j4.at fun o h => up _ o ne.symm h) (up _ _ (Nat.ne_of_gt el) t4) fun b o n1 n2 h => up b o n1 (k4 b o n1 n2 h)⟩))
theorem enuNextItem {e j a : Addr} {i : Nat} {us : Array Value} {x old : Value} {Q : Option Value → Shared → Prop} (g : IsEnum s.heap e j i old) (gj : s.heap.IsTupleIter j a i) (t : s.heap.IsTuple a us) (ex : us[i]? = some x) (ne : e ≠ j)
    (q : ∀ h', IsEnumOut h' e j ((i : Int) + 1) x s.heap.objs.size → h'.IsTupleIter j a (i + 1) → h'.get? s.heap.objs.size = some { cls := .type "tuple", data := .seq #[.int i s.toks, x] } →
      (∀ b o, b ≠ e → b ≠ j → s.heap.get? b = some o → h'.get? b = some o) → Q (some (.ref s.heap.objs.size)) { s with heap := h', toks := s.toks + 1 }) : wpAny (model prog w) A (pyNext (.ref e)) Q E s := by
  have ty : s.TypeIs (.ref e) "enumerate" := ⟨_, g, rfl⟩
  unfold pyNext; refine wpAny_bind (wpAny_attempt (wpAny_callSpecial?_slot (name := Str.ofString "__next__") ty F.slot_enumerate_next ?_))
  exact wpAny_call_entry F.slot_enumerate_next ty F.entry_enumerate_next (enuItem g gj t ex ne fun h' r1 r2 r3 r4 => wpAny_pure (q h' r1 r2 r3 r4)) (F.args_enumerate_next_1 _)
theorem enuNextEnd {e j a : Addr} {i : Nat} {us : Array Value} {old : Value} {Q : Option Value → Shared → Prop} (hh : A.handled = none) (g : IsEnum s.heap e j i old) (gj : s.heap.IsTupleIter j a i) (t : s.heap.IsTuple a us) (ex : us[i]? = none)
    (q : ∀ h', Heap.ExtBut j s.heap h' → Q none { s with heap := h' }) : wpAny (model prog w) A (pyNext (.ref e)) Q E s := by
  have ty : s.TypeIs (.ref e) "enumerate" := ⟨_, g, rfl⟩
  unfold pyNext; refine wpAny_bind (wpAny_attempt (wpAny_callSpecial?_slot (name := Str.ofString "__next__") ty F.slot_enumerate_next ?_))
  refine wpAny_call_entry F.slot_enumerate_next ty F.entry_enumerate_next ?_ (F.args_enumerate_next_1 _)
  show wpAny _ _ (field (.ref e) 2 >>= _) _ _ _
  refine wpAny_bind (wpAny_field g rfl (x := .ref j) rfl (wpAny_bind (RZ.nextOf_tuple_end hh gj t ex fun h' x b ⟨o, eo, ec⟩ => ?_)))
  exact wpAny_bind (wpAny_isInstance (T := "StopIteration") (b := true) ⟨o, eo, ec⟩ isSubtype_stop (wpAny_pure (q _ b)))
/-- the tuple at a, each item in a new pair -/
def IteT (K : PySem.W.Frag) (a : Addr) : It where
  go i H := ∃ (us : List V) (x : V), SqT K H a us ∧ us[i]? = some x
  yld i H v H' := ∃ c x, v = .ref c ∧ H c = none ∧ H' = upd H c (.tup [.int (i : Nat), x]) ∧ ∀ us, SqT K H a us → us[i]? = some x
  stop i H := ∃ us : List V, SqT K H a us ∧ us.length ≤ i
theorem turnEnuT {P : Program} {w : World} {K : PySem.W.Frag} {el : List Expr} {n : Nat} {tp : Pos} (a e j : Addr) :
    Turn P w K (.Tuple el n tp) (IteT K a) [e, j] e (fun i h => (∃ old, IsEnum h e j ((i : Nat) : Int) old) ∧ h.IsTupleIter j a i ∧ e ≠ j) where
  mem := by simp
  obj := fun i h st b hb => by
    obtain ⟨⟨old, g⟩, ⟨o, eo, _, ed⟩, _⟩ := st
    simp only [List.mem_cons, List.not_mem_nil, or_false] at hb
    rcases hb with rfl | rfl
    · exact ⟨_, g, fun v q => nomatch q⟩
    · exact ⟨o, eo, fun v q => by rw [ed] at q; cases q⟩
  keep := fun i h h' st k => by
    obtain ⟨⟨old, g⟩, gj, ne⟩ := st
    exact ⟨⟨old, k _ (by simp) _ g⟩, gj.at fun o q => k _ (by simp) o q, ne⟩
  item := by
    intro X eP ew eK hc i pins s σ H E I hf st hg
    subst eP ew eK
    obtain ⟨⟨old, g⟩, gj, ne⟩ := st
    obtain ⟨us, x, hq, ex⟩ := hg
    obtain ⟨as, r1, t1, _⟩ := I.tuple hq
    obtain ⟨u, eu, ru⟩ := r1.get ex
    have el : e < s.heap.objs.size := Heap.lt_size g
    have jl : j < s.heap.objs.size := gj.elim fun _ q => Heap.lt_size q.1
    refine enuNextItem g gj t1 (x := u) (by simpa using eu) ne fun h' k1 k2 k3 k4 => ⟨_, rfl, ?_⟩
    refine wpAny_letOwnedTupleGo_enum (s := { s with heap := h', toks := s.toks + 1 }) k1 fun h2 l1 sb => ?_
    have pr : h2.get? s.heap.objs.size = some { cls := .type "tuple", data := .seq #[.int i s.toks, u] } := (sb.2 _ (Nat.ne_of_gt el)).trans k3
    have ok : ObjOk X.prog X.w (upd H s.heap.objs.size (.tup [.int (i : Nat), x])) h2 s.heap.objs.size (.tup [.int (i : Nat), x]) := ⟨by show 2 ≤ sizeLine; decide, [.int i s.toks, u], .cons ⟨_, rfl⟩ (.cons ru .nil), _, pr, rfl, _, rfl⟩
    have J : Inv X pins σ (upd H s.heap.objs.size (.tup [.int (i : Nat), x])) { s with heap := h2, toks := s.toks + 1 } := I.turnedNew (ch := [e, j]) (fun b o n q => by
      have n1 : b ≠ e := fun z => n (by simp [z])
      have n2 : b ≠ j := fun z => n (by simp [z])
      exact (sb.2 b n1).trans (k4 b o n1 n2 q)) hf (Nat.le_refl _) ok
    refine ⟨.ref s.heap.objs.size, _, J, rfl, ⟨_, x, rfl, I.hok.fresh (Nat.le_refl _), rfl, fun ys hy => ?_⟩, ⟨⟨u, ?_⟩, k2.at fun o q => (sb.2 j ne.symm).trans q, ne⟩, fun b hb => ?_⟩
    · rw [I.tuple_inj hy hq]
      exact ex
    · rw [show ((i + 1 : Nat) : Int) = (i : Int) + 1 by omega]
      exact l1
    · have lt : b < s.heap.objs.size := by
        have hb' := hb
        simp only [List.mem_cons, List.not_mem_nil, or_false] at hb'
        rcases hb' with rfl | rfl
        · exact el
        · exact jl
      rw [upd_ne (Nat.ne_of_lt lt)]
      exact (hf b hb).1
  done := by
    intro X eP ew eK hc i pins s σ H E I hf st hg
    subst eP ew eK
    obtain ⟨⟨old, g⟩, gj, ne⟩ := st
    obtain ⟨us, hq, hx⟩ := hg
    obtain ⟨as, r1, t1, _⟩ := I.tuple hq
    obtain ⟨f0, f1, f2, f3, f4, f5⟩ := hf j (by simp)
    have l1 := r1.length
    exact enuNextEnd (I.ok.hd hc) g gj t1 (by simp; omega) fun h' b => ⟨rfl, I.turned (t' := s.toks) (fun c o n q => b c o n q) f0 f1 f3 f4 f5⟩
  self := fun A i s Q E st h => st.1.elim fun _ g => wpAny_pyIter_enum g h
def iEnuT (K : PySem.W.Frag) (ta : TA) : L2.TI := fun σ H R => ta σ H fun vs H1 => ∃ a xs, vs = [.ref a] ∧ SqT K H1 a xs ∧ R (IteT K a) H1
theorem pi_enuT {X : Cx} {e : Expr} {ta : TA} {p pos tp : Pos} {el : List Expr} {n : Nat} (hg : Gl X "enumerate") (hm : X.mg "enumerate" = none) (ha : PA X [e] ta) (h1 : starEach [e] X.env = [(false, eval e X.env)] := by rfl) :
    PI X (.Tuple el n tp) (.Call (.Name "enumerate" p) [e] [] pos) (iEnuT X.K ta) := by
  constructor
  intro pins s σ H R I h
  refine Call_ (ld_blt I hg hm boot_enumerate (PyProof.Rows.callWith_type1 (thn (ha.run pos pins s σ H _ I h) fun us s1 hz => ?_) h1 rfl))
  obtain ⟨vs, H1, J, va, a, xs, rfl, hx, q⟩ := hz
  match us, va with
  | [_], .cons r1 .nil =>
    cases r1
    obtain ⟨as, rv, t1, _⟩ := J.tuple hx
    refine enuCall t1 fun h' g gj kp => wpAny_pyIter_enum g ?_
    refine ⟨s1.heap.objs.size + 1, [s1.heap.objs.size + 1, s1.heap.objs.size], _, _, H1, rfl, J.kept (t' := s1.toks) kp, turnEnuT a (s1.heap.objs.size + 1) s1.heap.objs.size, ⟨⟨.none, g⟩, gj, Nat.succ_ne_self _⟩, fun b hb => ?_, q⟩
    have le : s1.heap.objs.size ≤ b := by
      simp only [List.mem_cons, List.not_mem_nil, or_false] at hb
      rcases hb with rfl | rfl
      · exact Nat.le_add_right _ _
      · exact Nat.le_refl _
    exact J.fpOk le (J.hok.fresh le)
theorem walk_enuT {K : PySem.W.Frag} {a : Addr} {xs : List V} : Walk (IteT K a) xs.length (fun H => SqT K H a xs) (YPair (fun i => some (.int (i : Nat))) (fun i => xs[i]?)) where
  goes i H hi q := ⟨xs, xs[i], q, List.getElem?_eq_getElem hi⟩
  stops H q := ⟨xs, q, Nat.le_refl _⟩
  yields i H v H' _ q y := by
    obtain ⟨c, x, k1, k2, k3, k4⟩ := y
    exact ⟨c, .int (i : Nat), x, k1, k2, k3, rfl, k4 xs q⟩
end
/-! ### weights between two places -/
abbrev mnI (x y : Int) : Int := if y < x then y else x
abbrev mxI (x y : Int) : Int := if y > x then y else x
def ovl (a b : Int) (t : Int × Int × Int) : Int := mxI 0 (mnI t.2.1 b - mxI t.1 a)
def wsum (a b : Int) (ts : List (Int × Int × Int)) : Int := (ts.map fun t => t.2.2 * ovl a b t).sum
def WL (a b : Int) (Ls : List Lw) : Int := (Ls.map fun L => wsum a b (partsOf L.le L.ps L.pl)).sum
def thickS (Ls : List Lw) (p : Int) : Int := (Ls.map fun L => thickL L p).sum
theorem ovl_add {a b c : Int} (h1 : a ≤ b) (h2 : b ≤ c) (t : Int × Int × Int) : ovl a b t + ovl b c t = ovl a c t := by
  unfold ovl mxI mnI
  (repeat' split) <;> omega
theorem ovl_same (c : Int) (t : Int × Int × Int) : ovl c c t = 0 := by
  unfold ovl mxI mnI
  (repeat' split) <;> omega
theorem wsum_cons (a b : Int) (t : Int × Int × Int) (r : List (Int × Int × Int)) : wsum a b (t :: r) = t.2.2 * ovl a b t + wsum a b r := by
  unfold wsum
  rw [List.map_cons, List.sum_cons]
theorem wsum_app (a b : Int) (r s : List (Int × Int × Int)) : wsum a b (r ++ s) = wsum a b r + wsum a b s := by
  unfold wsum
  rw [List.map_append, List.sum_append]
theorem wsum_add {a b c : Int} (h1 : a ≤ b) (h2 : b ≤ c) : ∀ ts, wsum a b ts + wsum b c ts = wsum a c ts
  | [] => rfl
  | t :: r => by
    rw [wsum_cons, wsum_cons, wsum_cons, ← wsum_add h1 h2 r, ← ovl_add h1 h2 t, Int.mul_add]
    omega
theorem wsum_same (c : Int) : ∀ ts, wsum c c ts = 0
  | [] => rfl
  | t :: r => by rw [wsum_cons, wsum_same c r, ovl_same, Int.mul_zero]; rfl
theorem WL_cons (a b : Int) (L : Lw) (r : List Lw) : WL a b (L :: r) = wsum a b (partsOf L.le L.ps L.pl) + WL a b r := by
  unfold WL
  rw [List.map_cons, List.sum_cons]
theorem WL_add {a b c : Int} (h1 : a ≤ b) (h2 : b ≤ c) : ∀ Ls, WL a b Ls + WL b c Ls = WL a c Ls
  | [] => rfl
  | L :: r => by
    have := wsum_add h1 h2 (partsOf L.le L.ps L.pl)
    have := WL_add h1 h2 r
    rw [WL_cons, WL_cons, WL_cons]
    omega
theorem WL_same (c : Int) : ∀ Ls, WL c c Ls = 0
  | [] => rfl
  | L :: r => by rw [WL_cons, wsum_same, WL_same c r]; rfl
theorem WL_snoc (a b : Int) (Ls : List Lw) (L : Lw) : WL a b (Ls ++ [L]) = WL a b Ls + wsum a b (partsOf L.le L.ps L.pl) := by
  unfold WL
  rw [List.map_append, List.sum_append]
  simp
/-- both ways of parting are one -/
theorem parts_none {n : Int} : ∀ (ps : List (Int × Int)) (st : Int), (∀ p ∈ ps, 1 ≤ p.2) → n ≤ st → partsOf (some n) ps st = []
  | [], _, _, _ => rfl
  | (t, g) :: r, st, hg, h => by
    have hg1 : 1 ≤ g := hg (t, g) (by simp)
    have hc : clip (some n) (st + g) = n := by
      show (if n < st + g then n else st + g) = n
      rw [if_pos (by omega)]
    show (if st < clip (some n) (st + g) then [(st, clip (some n) (st + g), t)] else []) ++ partsOf (some n) r (clip (some n) (st + g)) = []
    rw [hc, if_neg (by omega), parts_none r n (fun x hx => hg x (by simp [hx])) (Int.le_refl _)]
    rfl
theorem parts_eq {le : Option Int} : ∀ (ps : List (Int × Int)) (st : Int), (∀ p ∈ ps, 1 ≤ p.2) → lawParts le ps st = partsOf le ps st
  | [], _, _ => rfl
  | (t, g) :: r, st, hg => by
    have hg1 : 1 ≤ g := hg (t, g) (by simp)
    have hr : ∀ p ∈ r, 1 ≤ p.2 := fun x hx => hg x (by simp [hx])
    show (if st < clip le (st + g) then [(st, clip le (st + g), t)] else []) ++ lawParts le r (st + g) = (if st < clip le (st + g) then [(st, clip le (st + g), t)] else []) ++ partsOf le r (clip le (st + g))
    cases le with
    | none => rw [parts_eq r (st + g) hr]; rfl
    | some n =>
      by_cases h : n < st + g
      · have hc : clip (some n) (st + g) = n := by
          show (if n < st + g then n else st + g) = n
          rw [if_pos h]
        rw [hc, law_nil r (st + g) hr (.inr ⟨n, rfl, by omega⟩), parts_none r n hr (Int.le_refl _)]
      · have hc : clip (some n) (st + g) = st + g := by
          show (if n < st + g then n else st + g) = st + g
          rw [if_neg h]
        rw [hc, parts_eq r (st + g) hr]
theorem law_mem {le : Option Int} : ∀ (ps : List (Int × Int)) (st : Int), (∀ p ∈ ps, 1 ≤ p.2) → ∀ x ∈ lawParts le ps st, st ≤ x.1 ∧ x.1 < x.2.1 ∧ x.2.1 ≤ st + longs ps ∧ ∃ g, (x.2.2, g) ∈ ps
  | [], _, _, x, h => by cases h
  | (t, g) :: r, st, hg, x, h => by
    have hg1 : 1 ≤ g := hg (t, g) (by simp)
    have hr : ∀ p ∈ r, 1 ≤ p.2 := fun x hx => hg x (by simp [hx])
    have h0 := longs_nonneg hr
    have h : x ∈ (if st < clip le (st + g) then [(st, clip le (st + g), t)] else []) ++ lawParts le r (st + g) := h
    rw [longs_cons]
    show _ ∧ _ ∧ x.2.1 ≤ st + (g + longs r) ∧ _
    rcases List.mem_append.mp h with h | h
    · by_cases hc : st < clip le (st + g)
      · rw [if_pos hc] at h
        simp only [List.mem_cons, List.not_mem_nil, or_false] at h
        subst h
        have := clip_le (le := le) (e := st + g)
        exact ⟨Int.le_refl _, hc, by show clip le (st + g) ≤ _; omega, g, by simp⟩
      · rw [if_neg hc] at h
        cases h
    · obtain ⟨h1, h2, h3, g', h4⟩ := law_mem r (st + g) hr x h
      exact ⟨by omega, h2, by omega, g', by simp [h4]⟩
theorem part_ok {L : Lw} (g : GoodL L) {x : Int × Int × Int} (h : x ∈ partsOf L.le L.ps L.pl) : x.1 < x.2.1 ∧ 0 ≤ x.2.2 ∧ x.2.2 < 2 ^ 200 ∧ x.2.1 - x.1 < 2 ^ 210 := by
  have hp : ∀ p ∈ L.ps, 1 ≤ p.2 := fun p hp => (g.1.2.2 p hp).2.2.1
  rw [← parts_eq L.ps L.pl hp] at h
  obtain ⟨h1, h2, h3, g', h4⟩ := law_mem L.ps L.pl hp x h
  have h5 := g.1.2.2 _ h4
  have h6 := longs_lt g.1
  have h7 : (2 : Int) ^ 204 < 2 ^ 210 := by decide
  exact ⟨h2, by have := h5.1; show 0 ≤ x.2.2; have h8 : 1 ≤ x.2.2 := this; omega, h5.2.1, by omega⟩
theorem mulW_of {i j : Int} (h0 : 0 ≤ i) (h1 : i < 2 ^ 250) (h2 : 0 ≤ j) (h3 : j < 2 ^ 250) : CMulW i j := by
  have a := log_lt h0 h1
  have b := log_lt h2 h3
  unfold CMulW
  omega
theorem ovl_le {a b : Int} {t : Int × Int × Int} (h : t.1 < t.2.1) : 0 ≤ ovl a b t ∧ ovl a b t ≤ t.2.1 - t.1 := by
  unfold ovl mxI mnI
  (repeat' split) <;> omega
theorem ovl_mul {L : Lw} (g : GoodL L) {x : Int × Int × Int} (h : x ∈ partsOf L.le L.ps L.pl) (a b : Int) : CMulW x.2.2 (ovl a b x) := by
  obtain ⟨h1, h2, h3, h4⟩ := part_ok g h
  obtain ⟨h5, h6⟩ := ovl_le (a := a) (b := b) h1
  have h7 : (2 : Int) ^ 210 < 2 ^ 250 := by decide
  have h8 : (2 : Int) ^ 200 < 2 ^ 250 := by decide
  exact mulW_of h2 (by omega) h5 (by omega)
theorem ovl_in {a b : Int} {t : Int × Int × Int} (h : t.1 < t.2.1) (hab : a ≤ b) (h1 : t.1 < b) (h2 : t.2.1 > a) : mnI t.2.1 b - mxI t.1 a = ovl a b t := by
  unfold ovl mxI mnI
  (repeat' split) <;> omega
theorem ovl_out {a b : Int} {t : Int × Int × Int} (h : ¬ (t.1 < b ∧ t.2.1 > a)) : ovl a b t = 0 := by
  unfold ovl mxI mnI
  (repeat' split) <;> omega
/-- at one place -/
theorem ovl_one (p s e t : Int) : ovl p (p + 1) (s, e, t) = if s ≤ p ∧ p < e then 1 else 0 := by
  show (if mnI e (p + 1) - mxI s p > 0 then mnI e (p + 1) - mxI s p else 0) = _
  unfold mxI mnI
  (repeat' split) <;> omega
theorem one_none : ∀ (ps : List (Int × Int)) (st p : Int), (∀ x ∈ ps, 1 ≤ x.2) → wsum p (p + 1) (lawParts none ps st) = if p < st then 0 else thickAt ps (p - st)
  | [], st, p, _ => by
    show 0 = if p < st then 0 else 0
    split <;> rfl
  | (t, g) :: r, st, p, hg => by
    have hg1 : 1 ≤ g := hg (t, g) (by simp)
    have hr : ∀ p ∈ r, 1 ≤ p.2 := fun x hx => hg x (by simp [hx])
    have e : lawParts none ((t, g) :: r) st = (st, st + g, t) :: lawParts none r (st + g) := by
      show (if st < st + g then [(st, st + g, t)] else []) ++ lawParts none r (st + g) = _
      rw [if_pos (by omega)]
      rfl
    rw [e, wsum_cons, one_none r (st + g) p hr, ovl_one]
    show t * (if st ≤ p ∧ p < st + g then 1 else 0) + _ = if p < st then 0 else (if p - st < g then t else thickAt r (p - st - g))
    rw [show p - (st + g) = p - st - g by omega]
    by_cases h1 : p < st
    · rw [if_pos h1, if_neg (by omega), if_pos (by omega)]
      omega
    · by_cases h2 : p < st + g
      · rw [if_neg h1, if_pos (by omega), if_pos (by omega), if_pos (by omega)]
        omega
      · rw [if_neg h1, if_neg (by omega), if_neg (by omega), if_neg (by omega)]
        omega
theorem one_some (n : Int) : ∀ (ps : List (Int × Int)) (st p : Int), (∀ x ∈ ps, 1 ≤ x.2) → wsum p (p + 1) (lawParts (some n) ps st) = if p < st ∨ n ≤ p then 0 else thickAt ps (p - st)
  | [], st, p, _ => by
    show 0 = if p < st ∨ n ≤ p then 0 else 0
    split <;> rfl
  | (t, g) :: r, st, p, hg => by
    have hg1 : 1 ≤ g := hg (t, g) (by simp)
    have hr : ∀ p ∈ r, 1 ≤ p.2 := fun x hx => hg x (by simp [hx])
    have e : wsum p (p + 1) (lawParts (some n) ((t, g) :: r) st) = t * (if st ≤ p ∧ p < st + g ∧ p < n then 1 else 0) + wsum p (p + 1) (lawParts (some n) r (st + g)) := by
      show wsum p (p + 1) ((if st < clip (some n) (st + g) then [(st, clip (some n) (st + g), t)] else []) ++ lawParts (some n) r (st + g)) = _
      rw [wsum_app]
      congr 1
      show wsum p (p + 1) (if st < (if n < st + g then n else st + g) then [(st, (if n < st + g then n else st + g), t)] else []) = _
      by_cases h : st < (if n < st + g then n else st + g)
      · rw [if_pos h, wsum_cons, ovl_one]
        show t * _ + 0 = t * _
        rw [Int.add_zero]
        congr 1
        by_cases h3 : n < st + g
        · rw [if_pos h3] at h ⊢
          by_cases h4 : st ≤ p ∧ p < n
          · rw [if_pos h4, if_pos (by omega)]
          · rw [if_neg h4, if_neg (by omega)]
        · rw [if_neg h3] at h ⊢
          by_cases h4 : st ≤ p ∧ p < st + g
          · rw [if_pos h4, if_pos (by omega)]
          · rw [if_neg h4, if_neg (by omega)]
      · rw [if_neg h]
        show 0 = _
        have : ¬ (st ≤ p ∧ p < st + g ∧ p < n) := by
          split at h <;> omega
        rw [if_neg this, Int.mul_zero]
    rw [e, one_some n r (st + g) p hr]
    show _ = if p < st ∨ n ≤ p then 0 else (if p - st < g then t else thickAt r (p - st - g))
    rw [show p - (st + g) = p - st - g by omega]
    by_cases h1 : p < st ∨ n ≤ p
    · rw [if_pos h1, if_neg (by omega), if_pos (by omega)]
      omega
    · by_cases h2 : p < st + g
      · rw [if_neg h1, if_pos (by omega), if_pos (by omega), if_pos (by omega)]
        omega
      · rw [if_neg h1, if_neg (by omega), if_neg (by omega), if_neg (by omega)]
        omega
theorem one_thick {L : Lw} (g : GoodL L) (p : Int) : wsum p (p + 1) (partsOf L.le L.ps L.pl) = thickL L p := by
  have hp : ∀ p ∈ L.ps, 1 ≤ p.2 := fun p hp => (g.1.2.2 p hp).2.2.1
  rw [← parts_eq L.ps L.pl hp]
  unfold thickL
  cases L.le with
  | none => exact one_none L.ps L.pl p hp
  | some n =>
    rw [one_some n L.ps L.pl p hp]
    show _ = if p < L.pl then 0 else if n ≤ p then 0 else _
    by_cases h1 : p < L.pl
    · rw [if_pos h1, if_pos (.inl h1)]
    · by_cases h2 : n ≤ p
      · rw [if_neg h1, if_pos h2, if_pos (.inr h2)]
      · rw [if_neg h1, if_neg h2, if_neg (by omega)]
theorem WL_one (p : Int) : ∀ (Ls : List Lw), (∀ L ∈ Ls, GoodL L) → WL p (p + 1) Ls = thickS Ls p
  | [], _ => rfl
  | L :: r, g => by
    rw [WL_cons, WL_one p r fun L' h => g L' (by simp [h]), one_thick (g L (by simp))]
    unfold thickS
    rw [List.map_cons, List.sum_cons]
theorem WL_sum {Ls : List Lw} (g : ∀ L ∈ Ls, GoodL L) (a : Int) : ∀ n : Nat, ((List.range n).map fun (i : Nat) => thickS Ls (a + i)).sum = WL a (a + n) Ls
  | 0 => by
    show 0 = WL a (a + 0) Ls
    rw [Int.add_zero, WL_same]
  | n + 1 => by
    rw [List.range_succ, List.map_append, List.sum_append, WL_sum g a n]
    show _ + (thickS Ls (a + n) + 0) = _
    rw [Int.add_zero, ← WL_one _ Ls g, WL_add (by omega) (by omega)]
    congr 1
    omega
/-- keys that are numbers -/
def IK (kvs : List (Key × V)) : Prop := ∀ x ∈ kvs, ∃ i : Int, x.1 = Sum.inl i
theorem IK.put {kvs : List (Key × V)} (h : IK kvs) (i : Int) (v : V) : IK (putK kvs (Sum.inl i) v) := by
  unfold putK
  intro x hx
  split at hx
  · obtain ⟨y, hy, rfl⟩ := List.mem_map.mp hx
    split
    · exact h y hy
    · exact h y hy
  · rcases List.mem_append.mp hx with hx | hx
    · exact h x hx
    · simp only [List.mem_cons, List.not_mem_nil, or_false] at hx
      rw [hx]
      exact ⟨i, rfl⟩
theorem IK.merge : ∀ {more kvs : List (Key × V)}, IK kvs → IK more → IK (mergeK kvs more)
  | [], _, h, _ => h
  | (k, v) :: r, kvs, h, hm => by
    obtain ⟨i, e⟩ := hm (k, v) (by simp)
    have e : k = Sum.inl i := e
    subst e
    exact IK.merge (more := r) (h.put i v) fun x hx => hm x (by simp [hx])
theorem IK.keys : ∀ {kvs : List (Key × V)}, IK kvs → ∃ ks : List Int, kvs.map (·.1) = ks.map Sum.inl ∧ ks.length = kvs.length
  | [], _ => ⟨[], rfl, rfl⟩
  | x :: r, h => by
    obtain ⟨i, e⟩ := h x (by simp)
    obtain ⟨ks, e2, e3⟩ := IK.keys (kvs := r) fun y hy => h y (by simp [hy])
    exact ⟨i :: ks, by rw [List.map_cons, List.map_cons, e, e2], by rw [List.length_cons, List.length_cons, e3]⟩
theorem small2000 {n : Nat} (h : n ≤ 5000) : n < sizeLine := Nat.lt_of_le_of_lt h (by decide)
def spThickS : Sp := fun vs H Q _ => ∃ (a : Addr) (Ls : List Lw) (p : Int), vs = [.ref a, .int p] ∧ StrandAt H a Ls ∧ Ls.length ≤ 60 ∧ ∀ H', Same H H' → Q (.int (thickS Ls p)) H'
def spBetween : Sp := fun vs H Q _ => ∃ (a : Addr) (Ls : List Lw) (x y : Int), vs = [.ref a, .int x, .int y] ∧ StrandAt H a Ls ∧ Ls.length ≤ 60 ∧ (∀ L ∈ Ls, GoodL L) ∧ ∀ H', Same H H' → Q (.int (WL x y Ls)) H'
def spDue8 : Sp := fun vs H Q _ => ∃ (o : Addr) (bs : List Addr) (Ls : List Lw) (x y : Int), vs = [.ref o, .int x, .int y] ∧ H o = some (.lst (bs.map V.ref)) ∧ LPartsAt H bs Ls ∧ (∀ L ∈ Ls, GoodL L) ∧ x ≤ y ∧ Q (.int (WL x y Ls)) H
def spEnds8 : Sp := fun vs H Q _ => ∃ (o : Addr) (bs : List Addr) (Ls : List Lw), vs = [.ref o] ∧ H o = some (.lst (bs.map V.ref)) ∧ LPartsAt H bs Ls ∧ Ls.length ≤ 60 ∧ (∀ L ∈ Ls, GoodL L) ∧
  ∀ (H' : Hp) (r : Addr) (ns : List Int), Same H H' → H r = none → H' r = some (.lst (ns.map V.int)) → ns.length ≤ 1200 → Q (.ref r) H'
def spRight8 : Sp := fun vs H Q _ => ∃ (p l : Addr) (T : Nat) (a : Addr) (Ls : List Lw) (small : Bool), vs = [.ref p, .ref a, .bl small] ∧ Pot H p l T ∧ T < 2 ^ 36 ∧ StrandAt H a Ls ∧ Ls.length ≤ 60 ∧ (∀ L ∈ Ls, GoodL L) ∧
  ∀ H', Pot H' p l (T + 1000) → Keep p l H H' → Q (.bl true) H'
theorem bulk_all {xs : List PyData} {n : Nat} (h : ∀ x ∈ xs, x.bulk + 1 ≤ n) : PyData.bulkAll xs ≤ n * xs.length := by
  induction xs with
  | nil => exact Nat.zero_le _
  | cons x r ih =>
    have h1 := h x (by simp)
    have h2 := ih fun y hy => h y (by simp [hy])
    show x.bulk + 1 + PyData.bulkAll r ≤ n * (r.length + 1)
    rw [Nat.mul_add]
    omega
theorem laid_bulk {L : Lw} (g : GoodL L) : (laidD L).bulk ≤ 40 := by
  have h1 := wisp_bulk L.so L.ps
  have h2 := g.1.2.1
  have h3 : (letD L.le).bulk = 0 := by
    cases L.le with
    | none => rfl
    | some n => rfl
  show (wispD L.so L.ps).bulk + 1 + (0 + 1 + ((letD L.le).bulk + 1 + 0)) ≤ 40
  omega
theorem strand_bulk {Ls : List Lw} (g : ∀ L ∈ Ls, GoodL L) (hl : Ls.length ≤ 60) : (strandD Ls).bulk ≤ 20000 := by
  have h := bulk_all (xs := Ls.map laidD) (n := 41) fun x hx => by
    obtain ⟨L, hL, rfl⟩ := List.mem_map.mp hx
    have := laid_bulk (g L hL)
    omega
  rw [List.length_map] at h
  show PyData.bulkAll (Ls.map laidD) ≤ 20000
  omega
theorem TableAt.keep {p l : Addr} {H H' : Hp} {T : Nat} {b : Addr} {ts : List (Int × Int × Int)} (h : TableAt H b ts) (hne : ts ≠ []) (k : Keep p l H H') (hp : Pot H p l T) : TableAt H' b ts := by
  obtain ⟨as, h1, h2⟩ := h
  have hp' := hp
  obtain ⟨ns, c, m, t, e1, e2, _⟩ := hp'
  have ha : as ≠ [] := fun e => by
    have := h2.1
    rw [e, List.length_map] at this
    exact hne (List.length_eq_zero_iff.mp this.symm)
  refine ⟨as, k _ _ (fun e => ?_) (fun e => ?_) h1, h2.mono (k.tups hp)⟩
  · subst e
    rw [h1] at e1
    cases as with
    | nil => exact ha rfl
    | cons x r => cases r with
      | nil => simp at e1
      | cons y r => simp at e1
  · subst e
    rw [h1] at e2
    cases as with
    | nil => exact ha rfl
    | cons x r => cases ns with
      | nil => simp at e2
      | cons y r => simp at e2
theorem law_ne {L : Lw} (g : GoodL L) : lawParts L.le L.ps L.pl ≠ [] := by
  have hp : ∀ x ∈ L.ps, 1 ≤ x.2 := fun x hx => (g.1.2.2 x hx).2.2.1
  have hne : L.ps ≠ [] := fun e => by
    have := g.1.1
    rw [e] at this
    exact absurd this (by decide)
  obtain ⟨ys, b', t, e⟩ := law_last (le := L.le) L.ps L.pl hne hp fun n hn => (g.2.2.2.2.2 n hn).1
  rw [e]
  simp
theorem LPartsAt.keep {p l : Addr} {H H' : Hp} {T : Nat} {bs : List Addr} {Ls : List Lw} (h : LPartsAt H bs Ls) (g : ∀ L ∈ Ls, GoodL L) (k : Keep p l H H') (hp : Pot H p l T) : LPartsAt H' bs Ls := ⟨h.1, fun i b hb => by
  obtain ⟨L, h1, h2⟩ := h.2 i b hb
  exact ⟨L, h1, h2.keep (law_ne (g L (List.mem_of_getElem? h1))) k hp⟩⟩
theorem ne_same (d : PyData) (h : d.canLay0 = true) : (!PyData.eqv d d) = false := by
  rw [PySem.SeqAt.eqv_refl d h]
  rfl
/-! ### what runs where -/
def s0 (Ls : List Lw) (p : Int) : Int := (Ls.map fun L => if L.so = 0 then thickL L p else 0).sum
def s1 (Ls : List Lw) (p : Int) : Int := (Ls.map fun L => if L.so = 0 then 0 else thickL L p).sum
theorem s01 (p : Int) : ∀ Ls : List Lw, s0 Ls p + s1 Ls p = thickS Ls p
  | [] => rfl
  | L :: r => by
    have ih := s01 p r
    unfold s0 s1 thickS at ih ⊢
    rw [List.map_cons, List.map_cons, List.map_cons, List.sum_cons, List.sum_cons, List.sum_cons]
    split <;> omega
theorem s0_snoc (Ls : List Lw) (L : Lw) (p : Int) : s0 (Ls ++ [L]) p = s0 Ls p + if L.so = 0 then thickL L p else 0 := by
  unfold s0
  rw [List.map_append, List.sum_append]
  simp
theorem s1_snoc (Ls : List Lw) (L : Lw) (p : Int) : s1 (Ls ++ [L]) p = s1 Ls p + if L.so = 0 then 0 else thickL L p := by
  unfold s1
  rw [List.map_append, List.sum_append]
  simp
theorem strong_w (p : Int) : ∀ ts : List (Int × Int × Int), strongOf p ts = wsum p (p + 1) ts
  | [] => rfl
  | (a, b, c) :: r => by
    rw [strong_cons, wsum_cons, strong_w p r, ovl_one]
    show (if (decide (a ≤ p) && decide (p < b)) = true then c else 0) + _ = c * (if a ≤ p ∧ p < b then 1 else 0) + _
    by_cases h : a ≤ p ∧ p < b
    · rw [if_pos h, if_pos (by simp [h.1, h.2]), Int.mul_one]
    · rw [if_neg h, if_neg (by simp only [Bool.and_eq_true, decide_eq_true_eq]; exact h), Int.mul_zero]
theorem strong_L {L : Lw} (g : GoodL L) (p : Int) : strongOf p (lawParts L.le L.ps L.pl) = thickL L p := by
  have hp : ∀ p ∈ L.ps, 1 ≤ p.2 := fun p hp => (g.1.2.2 p hp).2.2.1
  rw [strong_w, parts_eq L.ps L.pl hp, one_thick g]
theorem hits_none {le : Option Int} (ps : List (Int × Int)) (st p : Int) (hg : ∀ x ∈ ps, 1 ≤ x.2) (h : p < st) : (lawParts le ps st).filter (inRow p) = [] := by
  rw [List.filter_eq_nil_iff]
  intro x hx
  have := (law_mem ps st hg x hx).1
  unfold inRow
  simp only [Bool.and_eq_true, decide_eq_true_eq]
  omega
theorem hits_one {le : Option Int} : ∀ (ps : List (Int × Int)) (st p : Int), (∀ x ∈ ps, 1 ≤ x.2) → ((lawParts le ps st).filter (inRow p)).length ≤ 1
  | [], _, _, _ => Nat.zero_le _
  | (t, g) :: r, st, p, hg => by
    have hg1 : 1 ≤ g := hg (t, g) (by simp)
    have hr : ∀ p ∈ r, 1 ≤ p.2 := fun x hx => hg x (by simp [hx])
    show (((if st < clip le (st + g) then [(st, clip le (st + g), t)] else []) ++ lawParts le r (st + g)).filter (inRow p)).length ≤ 1
    rw [List.filter_append, List.length_append]
    by_cases h : p < st + g
    · rw [hits_none r (st + g) p hr h]
      have : ((if st < clip le (st + g) then [(st, clip le (st + g), t)] else []).filter (inRow p)).length ≤ 1 := by
        refine Nat.le_trans (List.length_filter_le _ _) ?_
        split
        · exact Nat.le_refl _
        · exact Nat.zero_le _
      exact this
    · have e : (if st < clip le (st + g) then [(st, clip le (st + g), t)] else []).filter (inRow p) = [] := by
        rw [List.filter_eq_nil_iff]
        intro x hx
        split at hx
        · simp only [List.mem_cons, List.not_mem_nil, or_false] at hx
          subst hx
          have := clip_le (le := le) (e := st + g)
          show ¬ (decide (st ≤ p) && decide (p < clip le (st + g))) = true
          simp only [Bool.and_eq_true, decide_eq_true_eq]
          omega
        · cases hx
      rw [e]
      have := hits_one (le := le) r (st + g) p hr
      show 0 + _ ≤ 1
      omega
theorem hits_L {L : Lw} (g : GoodL L) (p : Int) (k : Int) : ((lawParts L.le L.ps L.pl).filter (inRow p)).map (fun _ => k) = if 0 < thickL L p then [k] else [] := by
  have hp : ∀ p ∈ L.ps, 1 ≤ p.2 := fun p hp => (g.1.2.2 p hp).2.2.1
  have h1 := hits_one (le := L.le) L.ps L.pl p hp
  have h2 := strong_L g p
  unfold strongOf at h2
  cases q : (lawParts L.le L.ps L.pl).filter (inRow p) with
  | nil =>
    rw [q] at h2
    have h2 : (0 : Int) = thickL L p := h2
    rw [if_neg (by omega)]
    rfl
  | cons x r =>
    rw [q] at h1 h2
    have hr : r = [] := by
      cases r with
      | nil => rfl
      | cons y r => exact absurd h1 (by simp)
    subst hr
    have hx : x ∈ (lawParts L.le L.ps L.pl).filter (inRow p) := by rw [q]; simp
    have hx := (List.mem_filter.mp hx).1
    obtain ⟨_, _, _, g', h4⟩ := law_mem L.ps L.pl hp x hx
    have h5 : 1 ≤ x.2.2 := (g.1.2.2 _ h4).1
    have h2 : x.2.2 + 0 = thickL L p := h2
    rw [if_pos (by omega)]
    rfl
def spSorts : Sp := fun vs H Q _ => ∃ (a t : Addr) (Ls : List Lw) (p : Int), vs = [.ref a, .ref t] ∧ StrandAt H a Ls ∧ H t = some (.lst ((Ls.map fun L => thickL L p).map V.int)) ∧ (∀ L ∈ Ls, GoodL L) ∧ ∀ H' o, Same H H' → H o = none → H' o = some (.tup [.int (s0 Ls p), .int (s1 Ls p)]) → Q (.ref o) H'
def spBy : Sp := fun vs H Q _ => ∃ (a : Addr) (Ls : List Lw) (p : Int), vs = [.ref a, .int p] ∧ StrandAt H a Ls ∧ Ls.length ≤ 60 ∧ (∀ L ∈ Ls, GoodL L) ∧ ∀ H' o, Same H H' → H o = none → H' o = some (.tup [.int (s0 Ls p), .int (s1 Ls p)]) → Q (.ref o) H'
def spAt6 : Sp := fun vs H Q _ => ∃ (a o : Addr) (bs : List Addr) (Ls : List Lw) (p : Int), vs = [.ref a, .ref o, .int p] ∧ StrandAt H a Ls ∧ Ls.length ≤ 60 ∧ (∀ L ∈ Ls, GoodL L) ∧ H o = some (.lst (bs.map V.ref)) ∧ LPartsAt H bs Ls ∧
  ∀ (H' : Hp) (r t1 t2 : Addr), Same H H' → H' r = some (.tup [.ref t1, .ref t2]) → H' t1 = some (.tup ((numsFrom 0 (Ls.map fun L => thickL L p)).map V.int)) → H' t2 = some (.tup [.int (s0 Ls p), .int (s1 Ls p)]) → Q (.ref r) H'
def spSpots6 : Sp := fun vs H Q _ => ∃ (p l : Addr) (T : Nat) (o : Addr) (bs : List Addr) (Ls : List Lw), vs = [.ref p, .ref o] ∧ Pot H p l T ∧ T < 2 ^ 37 ∧ H o = some (.lst (bs.map V.ref)) ∧ LPartsAt H bs Ls ∧ Ls.length ≤ 60 ∧ (∀ L ∈ Ls, GoodL L) ∧
  ∀ (H' : Hp) (r : Addr) (ns : List Int), Pot H' p l (T + 100) → Keep p l H H' → H r = none → H' r = some (.lst (ns.map V.int)) → ns.length ≤ 100 → Q (.ref r) H'
def spRight6 : Sp := fun vs H Q _ => ∃ (p l : Addr) (T : Nat) (a : Addr) (Ls : List Lw), vs = [.ref p, .ref a] ∧ Pot H p l T ∧ T < 2 ^ 36 ∧ StrandAt H a Ls ∧ Ls.length ≤ 60 ∧ (∀ L ∈ Ls, GoodL L) ∧
  ∀ H', Pot H' p l (T + 1000) → Keep p l H H' → Q (.bl true) H'
theorem ints_ti (ns : List Int) (h : ns.length ≤ 5000) : TI (.tuple (ns.map PyData.int)) := by
  refine .tup (fun x hx => ?_) (by rw [List.length_map]; exact h)
  obtain ⟨n, _, rfl⟩ := List.mem_map.mp hx
  exact .int n
theorem ints_d (ns : List Int) : (PyData.tuple (ns.map PyData.int)).depth < 4 := by
  refine Nat.lt_of_le_of_lt (Nat.succ_le_succ (depth_all (n := 0) fun x hx => ?_)) (by decide)
  obtain ⟨n, _, rfl⟩ := List.mem_map.mp hx
  exact Nat.le_refl _
/-! ### what changes where -/
/-- what is written at the place k, from the parts in their order -/
def wr (k : Int) : List (Int × Int × Int) → List Int
  | [] => []
  | (s, e, t) :: r => (if s = k then [t] else []) ++ (if e = k then [0] else []) ++ wr k r
def lastD (xs : List Int) (d : Int) : Int := xs.getLast?.getD d
def Rise : List (Int × Int × Int) → Prop
  | [] => True
  | (s, e, _) :: r => s < e ∧ (∀ y ∈ r, e ≤ y.1 ∧ y.1 < y.2.1) ∧ Rise r
theorem rise_law {le : Option Int} : ∀ (ps : List (Int × Int)) (st : Int), (∀ p ∈ ps, 1 ≤ p.2) → Rise (lawParts le ps st)
  | [], _, _ => True.intro
  | (t, g) :: r, st, hg => by
    have hg1 : 1 ≤ g := hg (t, g) (by simp)
    have hr : ∀ p ∈ r, 1 ≤ p.2 := fun x hx => hg x (by simp [hx])
    have ih := rise_law (le := le) r (st + g) hr
    show Rise ((if st < clip le (st + g) then [(st, clip le (st + g), t)] else []) ++ lawParts le r (st + g))
    split
    · next h =>
      refine ⟨h, fun y hy => ?_, ih⟩
      have h1 := law_mem (le := le) r (st + g) hr y hy
      have h2 := clip_le (le := le) (e := st + g)
      exact ⟨by omega, h1.2.1⟩
    · exact ih
theorem wr_none {k b : Int} : ∀ {qs : List (Int × Int × Int)}, (∀ y ∈ qs, b ≤ y.1 ∧ y.1 < y.2.1) → k < b → wr k qs = []
  | [], _, _ => rfl
  | (s, e, t) :: r, h, hk => by
    have h1 := h (s, e, t) (by simp)
    have h1 : b ≤ s ∧ s < e := h1
    show (if s = k then [t] else []) ++ (if e = k then [0] else []) ++ wr k r = []
    rw [if_neg (by omega), if_neg (by omega), wr_none (fun y hy => h y (by simp [hy])) hk]
    rfl
theorem strong_none {k b : Int} : ∀ {qs : List (Int × Int × Int)}, (∀ y ∈ qs, b ≤ y.1 ∧ y.1 < y.2.1) → k < b → strongOf k qs = 0
  | [], _, _ => rfl
  | (s, e, t) :: r, h, hk => by
    have h1 : b ≤ s ∧ s < e := h (s, e, t) (by simp)
    rw [strong_cons, strong_none (fun y hy => h y (by simp [hy])) hk]
    show (if (decide (s ≤ k) && decide (k < e)) = true then t else 0) + 0 = 0
    rw [if_neg (by simp only [Bool.and_eq_true, decide_eq_true_eq]; omega)]
    rfl
theorem wr_ne {k : Int} : ∀ {qs : List (Int × Int × Int)}, wr k qs ≠ [] → ∃ y ∈ qs, y.1 = k ∨ y.2.1 = k
  | [], h => absurd rfl h
  | (s, e, t) :: r, h => by
    by_cases h1 : s = k
    · exact ⟨(s, e, t), by simp, .inl h1⟩
    · by_cases h2 : e = k
      · exact ⟨(s, e, t), by simp, .inr h2⟩
      · have h : (if s = k then [t] else []) ++ (if e = k then [0] else []) ++ wr k r ≠ [] := h
        rw [if_neg h1, if_neg h2] at h
        obtain ⟨y, hy, z⟩ := wr_ne (qs := r) h
        exact ⟨y, by simp [hy], z⟩
theorem lastD_app {xs ys : List Int} {d : Int} (h : ys ≠ []) : lastD (xs ++ ys) d = lastD ys d := by
  unfold lastD
  rw [List.getLast?_append]
  cases q : ys.getLast? with
  | none => exact absurd (List.getLast?_eq_none_iff.mp q) h
  | some y => rfl
/-- nothing begins or ends between j and k: at k it is as at j but for what is written there -/
theorem strong_step {j k : Int} (hjk : j < k) : ∀ (qs : List (Int × Int × Int)), Rise qs → (∀ y ∈ qs, (y.1 ≤ j ∨ k ≤ y.1) ∧ (y.2.1 ≤ j ∨ k ≤ y.2.1)) → strongOf k qs = lastD (wr k qs) (strongOf j qs)
  | [], _, _ => rfl
  | (s, e, t) :: r, hr, hn => by
    obtain ⟨hse, hlo, hrr⟩ := hr
    have h1 : (s ≤ j ∨ k ≤ s) ∧ (e ≤ j ∨ k ≤ e) := hn (s, e, t) (by simp)
    have ih := strong_step hjk r hrr fun y hy => hn y (by simp [hy])
    rw [strong_cons, strong_cons, ih]
    show (if (decide (s ≤ k) && decide (k < e)) = true then t else 0) + _ = lastD ((if s = k then [t] else []) ++ (if e = k then [0] else []) ++ wr k r) ((if (decide (s ≤ j) && decide (j < e)) = true then t else 0) + strongOf j r)
    have cond : ∀ x : Int, ((decide (s ≤ x) && decide (x < e)) = true) ↔ (s ≤ x ∧ x < e) := fun x => by simp only [Bool.and_eq_true, decide_eq_true_eq]
    by_cases hw : wr k r = []
    · rw [hw, List.append_nil]
      have e0 : lastD [] (strongOf j r) = strongOf j r := rfl
      rw [e0]
      by_cases he : e = k
      · have z : strongOf j r = 0 := strong_none (b := e) hlo (by omega)
        rw [if_pos he, if_neg (by rw [cond]; omega), z, lastD_app (by simp)]
        rfl
      · rw [if_neg he, List.append_nil]
        by_cases hs : s = k
        · have z : strongOf j r = 0 := strong_none (b := e) hlo (by omega)
          rw [if_pos hs, if_pos (by rw [cond]; omega), z]
          show t + 0 = t
          omega
        · rw [if_neg hs]
          show _ = (if (decide (s ≤ j) && decide (j < e)) = true then t else 0) + strongOf j r
          by_cases hc : s ≤ j ∧ j < e
          · rw [if_pos ((cond k).mpr (by omega)), if_pos ((cond j).mpr hc)]
          · rw [if_neg (fun z => hc (by have := (cond k).mp z; omega)), if_neg (fun z => hc ((cond j).mp z))]
    · obtain ⟨y, hy, hk⟩ := wr_ne hw
      have h2 := hlo y hy
      rw [lastD_app hw, if_neg (by rw [cond]; omega), Int.zero_add]
      unfold lastD
      cases q : (wr k r).getLast? with
      | none => exact absurd (List.getLast?_eq_none_iff.mp q) hw
      | some y => rfl
theorem thick_step {L : Lw} (g : GoodL L) {j k : Int} (hjk : j < k) (hn : ∀ y ∈ partsOf L.le L.ps L.pl, (y.1 ≤ j ∨ k ≤ y.1) ∧ (y.2.1 ≤ j ∨ k ≤ y.2.1)) : thickL L k = lastD (wr k (partsOf L.le L.ps L.pl)) (thickL L j) := by
  have hp : ∀ p ∈ L.ps, 1 ≤ p.2 := fun p hp => (g.1.2.2 p hp).2.2.1
  rw [← parts_eq L.ps L.pl hp] at hn ⊢
  rw [← strong_L g, ← strong_L g]
  exact strong_step hjk _ (rise_law L.ps L.pl hp) hn
/-! ### keys that are numbers, no two alike -/
def IKN (kvs : List (Key × V)) : Prop := IK kvs ∧ (kvs.map (·.1)).Nodup
theorem put_keys (kvs : List (Key × V)) (k : Key) (v : V) (h : (kvs.map (·.1)).Nodup) : ((putK kvs k v).map (·.1)).Nodup := by
  unfold putK
  split
  · have e : (kvs.map (fun kv => if kv.1 = k then (kv.1, v) else kv)).map (·.1) = kvs.map (·.1) := by
      rw [List.map_map]
      refine List.map_congr_left fun x _ => ?_
      show (if x.1 = k then (x.1, v) else x).1 = x.1
      split <;> rfl
    rw [e]
    exact h
  · next hn =>
    rw [List.map_append]
    refine List.nodup_append.mpr ⟨h, by simp, fun x hx y hy e => ?_⟩
    simp only [List.map_cons, List.map_nil, List.mem_cons, List.not_mem_nil, or_false] at hy
    obtain ⟨z, hz, ez⟩ := List.mem_map.mp hx
    exact hn (List.any_eq_true.mpr ⟨z, hz, decide_eq_true (by rw [ez, e, hy])⟩)
theorem IKN.put {kvs : List (Key × V)} (h : IKN kvs) (i : Int) (v : V) : IKN (putK kvs (Sum.inl i) v) := ⟨h.1.put i v, put_keys _ _ _ h.2⟩
theorem keys_of {kvs : List (Key × V)} (h : IKN kvs) : ∃ ks : List Int, kvs.map (·.1) = ks.map Sum.inl ∧ ks.length = kvs.length ∧ ks.Nodup ∧ ∀ k, k ∈ ks ↔ ∃ v, valV kvs (Sum.inl k) = some v := by
  obtain ⟨ks, e, hl⟩ := h.1.keys
  refine ⟨ks, e, hl, ?_, fun k => ?_⟩
  · have := h.2
    rw [e] at this
    exact (List.pairwise_map.mp this).imp fun h e => h (congrArg Sum.inl e)
  · have m : k ∈ ks ↔ (Sum.inl k : Key) ∈ kvs.map (·.1) := by
      rw [e]
      constructor
      · exact fun h => List.mem_map.mpr ⟨k, h, rfl⟩
      · intro h
        obtain ⟨x, hx, ex⟩ := List.mem_map.mp h
        cases ex
        exact hx
    rw [m]
    constructor
    · intro hm
      obtain ⟨z, hz, ez⟩ := List.mem_map.mp hm
      cases hv : valV kvs (Sum.inl k) with
      | some v => exact ⟨v, rfl⟩
      | none =>
        have := valV_any (Sum.inl k : Key) kvs
        rw [hv] at this
        have h2 : (kvs.any fun kv => decide (kv.1 = Sum.inl k)) = true := List.any_eq_true.mpr ⟨z, hz, decide_eq_true ez⟩
        rw [h2] at this
        cases this
    · rintro ⟨v, hv⟩
      have := valV_any (Sum.inl k : Key) kvs
      rw [hv] at this
      obtain ⟨z, hz, ez⟩ := List.any_eq_true.mp this
      exact List.mem_map.mpr ⟨z, hz, of_decide_eq_true ez⟩
theorem sorted_strict {ys ks : List Int} (hp : ys.Perm ks) (hs : ys.Pairwise (· ≤ ·)) (hn : ks.Nodup) : ys.Pairwise (· < ·) := by
  have hn' : ys.Nodup := hp.nodup_iff.mpr hn
  exact (hs.and hn').imp fun ⟨h1, h2⟩ => by omega
/-- two lists that rise, with the same members, are one -/
theorem rise_eq : ∀ {xs ys : List Int}, xs.Pairwise (· < ·) → ys.Pairwise (· < ·) → (∀ k, k ∈ xs ↔ k ∈ ys) → xs = ys
  | [], [], _, _, _ => rfl
  | [], y :: r, _, _, h => absurd ((h y).mpr (by simp)) (by simp)
  | x :: r, [], _, _, h => absurd ((h x).mp (by simp)) (by simp)
  | x :: r, y :: s, hx, hy, h => by
    have hx' := List.pairwise_cons.mp hx
    have hy' := List.pairwise_cons.mp hy
    have e : x = y := by
      rcases List.mem_cons.mp ((h x).mp (by simp)) with e | e
      · exact e
      · rcases List.mem_cons.mp ((h y).mpr (by simp)) with e2 | e2
        · exact e2.symm
        · have h1 := hy'.1 x e
          have h2 := hx'.1 y e2
          omega
    subst e
    congr 1
    refine rise_eq hx'.2 hy'.2 fun k => ?_
    constructor
    · intro hk
      rcases List.mem_cons.mp ((h k).mp (by simp [hk])) with e | e
      · have := hx'.1 k hk
        omega
      · exact e
    · intro hk
      rcases List.mem_cons.mp ((h k).mpr (by simp [hk])) with e | e
      · have := hy'.1 k hk
        omega
      · exact e
/-! ### a dict of lists of pairs -/
theorem Tups.dk {H : Hp} {a : Addr} {kvs : List (Key × V)} {o : HO} (h : H a = some (.dK kvs)) : Tups H (upd H a o) := fun c ys e => by
  by_cases n : c = a
  · subst n
    rw [h] at e
    cases e
  · rw [upd_ne n]
    exact e
def DAtK (H0 H : Hp) (d : Addr) (kvs : List (Key × V)) (N : Nat) (ks : Int → Prop) (W : Int → List (Int × Int)) : Prop := H d = some (.dK kvs) ∧ IKN kvs ∧ kvs.length ≤ N ∧ (∀ k, ks k ↔ ∃ v, valV kvs (Sum.inl k) = some v) ∧ (∀ k, ¬ ks k → W k = []) ∧
  (∀ k v, valV kvs (Sum.inl k) = some v → ∃ q as, v = .ref q ∧ H0 q = none ∧ q ≠ d ∧ H q = some (.lst (as.map V.ref)) ∧ TupsAt H as ((W k).map stepV)) ∧ ∀ k k' v, valV kvs (Sum.inl k) = some v → valV kvs (Sum.inl k') = some v → k = k'
theorem DAtK.new {H0 H : Hp} {d : Addr} {kvs : List (Key × V)} {N : Nat} {ks : Int → Prop} {W : Int → List (Int × Int)} (h : DAtK H0 H d kvs N ks W) {z : Addr} {o : HO} (n : H z = none) : DAtK H0 (upd H z o) d kvs N ks W := by
  obtain ⟨h1, h2, h3, h4, h5, h6, h7⟩ := h
  refine ⟨?_, h2, h3, h4, h5, fun k v e => ?_, h7⟩
  · rw [upd_ne (ne_of_none h1 n)]
    exact h1
  · obtain ⟨q, as, e1, e2, e3, e4, e5⟩ := h6 k v e
    refine ⟨q, as, e1, e2, e3, ?_, e5.mono (Tups.new n)⟩
    rw [upd_ne (ne_of_none e4 n)]
    exact e4
/-- a new key, its list empty -/
theorem DAtK.put {H0 H : Hp} {d : Addr} {kvs : List (Key × V)} {N : Nat} {ks : Int → Prop} {W : Int → List (Int × Int)} (h : DAtK H0 H d kvs N ks W) {z : Addr} {k : Int} (ez : H z = some (.lst [])) (nz : H0 z = none) (zf : ∀ k v, valV kvs (Sum.inl k) = some v → v ≠ .ref z) (nk : valV kvs (Sum.inl k) = none) :
    DAtK H0 (upd H d (.dK (putK kvs (Sum.inl k) (.ref z)))) d (putK kvs (Sum.inl k) (.ref z)) (N + 1) (fun x => ks x ∨ x = k) W := by
  obtain ⟨h1, h2, h3, h4, h5, h6, h7⟩ := h
  have zd : z ≠ d := fun e => by
    rw [e, h1] at ez
    cases ez
  have vp : ∀ x : Int, valV (putK kvs (Sum.inl k) (.ref z)) (Sum.inl x) = if x = k then some (.ref z) else valV kvs (Sum.inl x) := fun x => by
    rw [valV_put]
    by_cases e : x = k
    · rw [if_pos e, if_pos (by rw [e])]
    · rw [if_neg e, if_neg (fun q => e (Sum.inl.inj q))]
  have wk : W k = [] := h5 k fun z => by
    obtain ⟨v, e⟩ := (h4 k).mp z
    rw [nk] at e
    cases e
  refine ⟨upd_same, h2.put k _, Nat.le_trans (length_putK _ _ _) (Nat.succ_le_succ h3), fun x => ?_, fun x n => h5 x fun y => n (.inl y), fun x v e => ?_, fun x y v e e' => ?_⟩
  · rw [vp]
    by_cases e : x = k
    · rw [if_pos e]
      exact ⟨fun _ => ⟨_, rfl⟩, fun _ => .inr e⟩
    · rw [if_neg e, ← h4]
      exact ⟨fun y => y.resolve_right e, .inl⟩
  · rw [vp] at e
    by_cases n : x = k
    · rw [if_pos n] at e
      cases e
      refine ⟨z, [], rfl, nz, zd, ?_, ?_⟩
      · rw [upd_ne zd]
        exact ez
      · rw [n, wk]
        exact TupsAt.nil
    · rw [if_neg n] at e
      obtain ⟨q, as, e1, e2, e3, e4, e5⟩ := h6 x v e
      refine ⟨q, as, e1, e2, e3, ?_, e5.mono (Tups.dk h1)⟩
      rw [upd_ne e3]
      exact e4
  · rw [vp] at e e'
    by_cases n : x = k
    · rw [if_pos n] at e
      cases e
      by_cases n' : y = k
      · rw [n, n']
      · rw [if_neg n'] at e'
        exact absurd rfl (zf y _ e')
    · rw [if_neg n] at e
      by_cases n' : y = k
      · rw [if_pos n'] at e'
        cases e'
        exact absurd rfl (zf x _ e)
      · rw [if_neg n'] at e'
        exact h7 x y v e e'
/-- a pair more in a key's list -/
theorem DAtK.app {H0 H : Hp} {d : Addr} {kvs : List (Key × V)} {N : Nat} {ks : Int → Prop} {W : Int → List (Int × Int)} (h : DAtK H0 H d kvs N ks W) {k : Int} {q c : Addr} {as : List Addr} {p : Int × Int} (eq : valV kvs (Sum.inl k) = some (.ref q)) (el : H q = some (.lst (as.map V.ref))) (et : TupsAt H as ((W k).map stepV)) (ec : H c = some (.tup (stepV p))) :
    DAtK H0 (upd H q (.lst (as.map V.ref ++ [.ref c]))) d kvs N ks (fun x => if x = k then W k ++ [p] else W x) := by
  obtain ⟨h1, h2, h3, h4, h5, h6, h7⟩ := h
  obtain ⟨q', as', e1, _, qd, _, _⟩ := h6 k _ eq
  cases e1
  refine ⟨?_, h2, h3, h4, fun x n => ?_, fun x v e => ?_, h7⟩
  · rw [upd_ne qd.symm]
    exact h1
  · show (if x = k then W k ++ [p] else W x) = []
    rw [if_neg (fun z => n ((h4 x).mpr (by rw [z]; exact ⟨_, eq⟩))), h5 x n]
  · obtain ⟨r, bs, e1, e2, e3, e4, e5⟩ := h6 x v e
    by_cases n : x = k
    · subst n
      have e6 := Option.some.inj (e.symm.trans eq)
      rw [e1] at e6
      cases e6
      refine ⟨q, as ++ [c], e1, e2, e3, ?_, ?_⟩
      · rw [upd_same, List.map_append]
        rfl
      · show TupsAt _ _ ((if x = x then W x ++ [p] else W x).map stepV)
        rw [if_pos rfl, List.map_append]
        exact (et.snoc ec).mono (Tups.ls el)
    · have rq : r ≠ q := fun z => n (h7 x k v e (by rw [e1, z]; exact eq))
      refine ⟨r, bs, e1, e2, e3, ?_, ?_⟩
      · rw [upd_ne rq]
        exact e4
      · show TupsAt _ _ ((if x = k then W k ++ [p] else W x).map stepV)
        rw [if_neg n]
        exact e5.mono (Tups.ls el)
theorem DAtK.congr {H0 H : Hp} {d : Addr} {kvs : List (Key × V)} {N M : Nat} {ks ks' : Int → Prop} {W W' : Int → List (Int × Int)} (h : DAtK H0 H d kvs N ks W) (hn : N ≤ M) (h1 : ∀ k, ks k ↔ ks' k) (h2 : ∀ k, W k = W' k) : DAtK H0 H d kvs M ks' W' := by
  have e1 : ks = ks' := funext fun k => propext (h1 k)
  have e2 : W = W' := funext h2
  subst e1 e2
  exact ⟨h.1, h.2.1, Nat.le_trans h.2.2.1 hn, h.2.2.2⟩
def Wall (k : Int) : Nat → List Lw → List (Int × Int)
  | _, [] => []
  | n, L :: r => (wr k (partsOf L.le L.ps L.pl)).map (fun t => ((n : Int), t)) ++ Wall k (n + 1) r
theorem wall_snoc (k : Int) (L : Lw) : ∀ (Ls : List Lw) (n : Nat), Wall k n (Ls ++ [L]) = Wall k n Ls ++ (wr k (partsOf L.le L.ps L.pl)).map fun t => (((n + Ls.length : Nat) : Int), t)
  | [], n => by
    show _ ++ [] = [] ++ _
    rw [List.append_nil]
    rfl
  | M :: r, n => by
    show _ ++ Wall k (n + 1) (r ++ [L]) = (_ ++ Wall k (n + 1) r) ++ _
    rw [wall_snoc k L r (n + 1), List.append_assoc, List.length_cons, show n + 1 + r.length = n + (r.length + 1) by omega]
theorem wr_snoc (k s e t : Int) : ∀ qs : List (Int × Int × Int), wr k (qs ++ [(s, e, t)]) = wr k qs ++ ((if s = k then [t] else []) ++ (if e = k then [0] else []))
  | [] => by
    show _ ++ _ ++ [] = [] ++ _
    rw [List.append_nil]
    rfl
  | (a, b, c) :: r => by
    show _ ++ _ ++ wr k (r ++ [(s, e, t)]) = _ ++ _ ++ wr k r ++ _
    rw [wr_snoc k s e t r, List.append_assoc _ (wr k r)]
theorem wr_len (k : Int) : ∀ qs : List (Int × Int × Int), (wr k qs).length ≤ 2 * qs.length
  | [] => Nat.le_refl _
  | (a, b, c) :: r => by
    have := wr_len k r
    show ((if a = k then [c] else []) ++ (if b = k then [0] else []) ++ wr k r).length ≤ 2 * (r.length + 1)
    rw [List.length_append, List.length_append]
    have h1 : (if a = k then [c] else []).length ≤ 1 := by split <;> simp
    have h2 : (if b = k then [(0 : Int)] else []).length ≤ 1 := by split <;> simp
    omega
theorem wall_len (k : Int) : ∀ (Ls : List Lw) (n : Nat), (∀ L ∈ Ls, GoodL L) → (Wall k n Ls).length ≤ 20 * Ls.length
  | [], _, _ => Nat.le_refl _
  | L :: r, n, g => by
    have h1 := wall_len k r (n + 1) fun M h => g M (by simp [h])
    have h2 := wr_len k (partsOf L.le L.ps L.pl)
    have h3 := part_len (le := L.le) L.ps L.pl
    have h4 := (g L (by simp)).1.2.1
    show ((wr k (partsOf L.le L.ps L.pl)).map (fun t => ((n : Int), t)) ++ Wall k (n + 1) r).length ≤ 20 * (r.length + 1)
    rw [List.length_append, List.length_map]
    omega
def Keys (Ls : List Lw) (k : Int) : Prop := k = 0 ∨ ∃ L ∈ Ls, ∃ y ∈ partsOf L.le L.ps L.pl, y.1 = k ∨ y.2.1 = k
def spChanges : Sp := fun vs H Q _ => ∃ (a : Addr) (Ls : List Lw), vs = [.ref a] ∧ StrandAt H a Ls ∧ Ls.length ≤ 60 ∧ (∀ L ∈ Ls, GoodL L) ∧
  ∀ (H' : Hp) (d : Addr) (kvs : List (Key × V)), Same H H' → H d = none → DAtK H H' d kvs 1300 (Keys Ls) (fun k => Wall k 0 Ls) → Q (.ref d) H'
theorem DAtK.same {H0 H H' : Hp} {d : Addr} {kvs : List (Key × V)} {N : Nat} {ks : Int → Prop} {W : Int → List (Int × Int)} (h : DAtK H0 H d kvs N ks W) (s : Same H H') : DAtK H0 H' d kvs N ks W := by
  obtain ⟨h1, h2, h3, h4, h5, h6, h7⟩ := h
  refine ⟨s _ _ h1, h2, h3, h4, h5, fun k v e => ?_, h7⟩
  obtain ⟨q, as, e1, e2, e3, e4, e5⟩ := h6 k v e
  exact ⟨q, as, e1, e2, e3, s _ _ e4, e5.mono (Tups.same s)⟩
theorem hu1 {u c : Nat} (h : u + 64 < c) : u + 1 < c := by omega
/-- what stands behind setdefault(k, []).append((n, t)); o: a list beside it -/
def Aft (H0 H : Hp) (d o : Addr) (xs : List V) (N : Nat) (ks : Int → Prop) (W : Int → List (Int × Int)) (k : Int) (p : Int × Int) (H6 : Hp) : Prop := ∃ kvs6, DAtK H0 H6 d kvs6 (N + 1) (fun x => ks x ∨ x = k) (fun x => if x = k then W k ++ [p] else W x) ∧ Same H0 H6 ∧ Tups H H6 ∧ H6 o = some (.lst xs) ∧ ∀ k v, valV kvs6 (Sum.inl k) = some v → v ≠ .ref o
theorem DAtK.found {H0 H : Hp} {d o : Addr} {xs : List V} {kvs : List (Key × V)} {N : Nat} {ks : Int → Prop} {W : Int → List (Int × Int)} (h : DAtK H0 H d kvs N ks W) (s : Same H0 H) (eo : H o = some (.lst xs)) (nv : ∀ k v, valV kvs (Sum.inl k) = some v → v ≠ .ref o) {Z : Addr} (nZ : H Z = none) {k : Int} {v : V} (hv : valV kvs (Sum.inl k) = some v) (p : Int × Int) :
    ∃ (q : Addr) (as : List Addr), v = .ref q ∧ upd H Z (.lst []) q = some (.lst (as.map V.ref)) ∧ as.length = (W k).length ∧ ∀ P, upd H Z (.lst []) P = none → Aft H0 H d o xs N ks W k p (upd (upd (upd H Z (.lst [])) P (.tup (stepV p))) q (.lst (as.map V.ref ++ [.ref P]))) := by
  have hZ := h.new (o := .lst []) nZ
  obtain ⟨q, as, rfl, n0, qd, el, et⟩ := hZ.2.2.2.2.2.1 k v hv
  refine ⟨q, as, rfl, el, ?_, fun P nP => ⟨kvs, ?_, ?_, ?_, ?_, nv⟩⟩
  · rw [et.1, List.length_map]
  · have hP := hZ.new (o := .tup (stepV p)) nP
    refine (hP.app hv ((upd_ne (ne_of_none el nP)).trans el) (et.mono (Tups.new nP)) upd_same).congr (Nat.le_succ _) (fun x => ⟨.inl, fun z => z.elim id fun z => ?_⟩) fun _ => rfl
    rw [z]
    exact (h.2.2.2.1 k).mpr ⟨_, hv⟩
  · exact same_mine (same_new (same_new s nZ) nP) n0
  · exact ((Tups.new nZ).trans (Tups.new nP)).trans (Tups.ls ((upd_ne (ne_of_none el nP)).trans el))
  · have oq : o ≠ q := fun z => nv k _ hv (by rw [z])
    have eZ : upd H Z (.lst []) o = some (.lst xs) := (upd_ne (ne_of_none eo nZ)).trans eo
    rw [upd_ne oq, upd_ne (ne_of_none eZ nP)]
    exact eZ
theorem DAtK.fresh {H0 H : Hp} {d o : Addr} {xs : List V} {kvs : List (Key × V)} {N : Nat} {ks : Int → Prop} {W : Int → List (Int × Int)} (h : DAtK H0 H d kvs N ks W) (s : Same H0 H) (nd : H0 d = none) (eo : H o = some (.lst xs)) (nv : ∀ k v, valV kvs (Sum.inl k) = some v → v ≠ .ref o) {Z : Addr} (nZ : H Z = none) {k : Int} (hn : valV kvs (Sum.inl k) = none) (p : Int × Int) :
    upd (upd H Z (.lst [])) d (.dK (putK kvs (Sum.inl k) (.ref Z))) Z = some (.lst []) ∧ ∀ P, upd (upd H Z (.lst [])) d (.dK (putK kvs (Sum.inl k) (.ref Z))) P = none → Aft H0 H d o xs N ks W k p (upd (upd (upd (upd H Z (.lst [])) d (.dK (putK kvs (Sum.inl k) (.ref Z)))) P (.tup (stepV p))) Z (.lst ([] ++ [.ref P]))) := by
  have hZ := h.new (o := .lst []) nZ
  have dZ : d ≠ Z := ne_of_none h.1 nZ
  have zf : ∀ k v, valV kvs (Sum.inl k) = some v → v ≠ .ref Z := fun k v e z => by
    obtain ⟨q, as, e1, _, _, e4, _⟩ := h.2.2.2.2.2.1 k v e
    rw [z] at e1
    cases e1
    rw [nZ] at e4
    cases e4
  have nZ0 : H0 Z = none := s.free nZ
  have hp := hZ.put (k := k) upd_same nZ0 zf hn
  have eZ : upd (upd H Z (.lst [])) d (.dK (putK kvs (Sum.inl k) (.ref Z))) Z = some (.lst []) := by
    rw [upd_ne dZ.symm]
    exact upd_same
  have vk : ∀ x : Int, valV (putK kvs (Sum.inl k) (.ref Z)) (Sum.inl x) = if x = k then some (.ref Z) else valV kvs (Sum.inl x) := fun x => by
    rw [valV_put]
    by_cases e : x = k
    · rw [if_pos e, if_pos (by rw [e])]
    · rw [if_neg e, if_neg (fun q => e (Sum.inl.inj q))]
  have wk : W k = [] := h.2.2.2.2.1 k fun z => by
    obtain ⟨v, e⟩ := (h.2.2.2.1 k).mp z
    rw [hn] at e
    cases e
  refine ⟨eZ, fun P nP => ⟨putK kvs (Sum.inl k) (.ref Z), ?_, ?_, ?_, ?_, ?_⟩⟩
  · have hP := hp.new (o := .tup (stepV p)) nP
    exact hP.app (as := []) (k := k) (by rw [vk, if_pos rfl]) ((upd_ne (ne_of_none eZ nP)).trans eZ) (by rw [wk]; exact TupsAt.nil) upd_same
  · exact same_mine (same_new (same_mine (same_new s nZ) nd) nP) nZ0
  · exact (((Tups.new nZ).trans (Tups.dk hZ.1)).trans (Tups.new nP)).trans (Tups.ls ((upd_ne (ne_of_none eZ nP)).trans eZ))
  · have e1 : upd H Z (.lst []) o = some (.lst xs) := (upd_ne (ne_of_none eo nZ)).trans eo
    have od : o ≠ d := fun z => by
      rw [z, h.1] at eo
      cases eo
    have e2 : upd (upd H Z (.lst [])) d (.dK (putK kvs (Sum.inl k) (.ref Z))) o = some (.lst xs) := (upd_ne od).trans e1
    rw [upd_ne (ne_of_none eo nZ), upd_ne (ne_of_none e2 nP)]
    exact e2
  · intro x v e z
    rw [vk] at e
    by_cases n : x = k
    · rw [if_pos n, z] at e
      cases e
      rw [nZ] at eo
      cases eo
    · rw [if_neg n] at e
      exact nv x v e z
/-! ### stretches: places, what is there -/
def Places (Ls : List Lw) (ys : List Int) : Prop := ys.Pairwise (· < ·) ∧ (∀ k, k ∈ ys ↔ Keys Ls k) ∧ ys.length ≤ 1300
def SegAt (H : Hp) (a : Addr) (Ls : List Lw) (s e : Int) : Prop := ∃ n t, H a = some (.tup [.int s, .int e, .ref n, .ref t]) ∧ H n = some (.tup ((numsFrom 0 (Ls.map fun L => thickL L s)).map V.int)) ∧ H t = some (.tup [.int (s0 Ls s), .int (s1 Ls s)])
theorem SegAt.mono {H H' : Hp} {a : Addr} {Ls : List Lw} {s e : Int} (h : SegAt H a Ls s e) (t : Tups H H') : SegAt H' a Ls s e := by
  obtain ⟨n, u, h1, h2, h3⟩ := h
  exact ⟨n, u, t _ _ h1, t _ _ h2, t _ _ h3⟩
def SegsAt (H : Hp) (as : List Addr) (Ls : List Lw) (ps : List (Int × Int)) : Prop := as.length = ps.length ∧ ∀ (i : Nat) (a : Addr), as[i]? = some a → ∃ s e, ps[i]? = some (s, e) ∧ SegAt H a Ls s e
theorem SegsAt.mono {H H' : Hp} {as : List Addr} {Ls : List Lw} {ps : List (Int × Int)} (h : SegsAt H as Ls ps) (t : Tups H H') : SegsAt H' as Ls ps := ⟨h.1, fun i a e => by
  obtain ⟨s, e', h1, h2⟩ := h.2 i a e
  exact ⟨s, e', h1, h2.mono t⟩⟩
theorem SegsAt.nil {H : Hp} {Ls : List Lw} : SegsAt H [] Ls [] := ⟨rfl, fun i a h => by simp at h⟩
theorem SegsAt.snoc {H : Hp} {as : List Addr} {Ls : List Lw} {ps : List (Int × Int)} {a : Addr} {s e : Int} (h : SegsAt H as Ls ps) (g : SegAt H a Ls s e) : SegsAt H (as ++ [a]) Ls (ps ++ [(s, e)]) := by
  refine ⟨by rw [List.length_append, List.length_append, h.1]; rfl, fun i b hb => ?_⟩
  by_cases hi : i < as.length
  · rw [List.getElem?_append_left hi] at hb
    obtain ⟨s', e', h1, h2⟩ := h.2 i b hb
    exact ⟨s', e', by rw [List.getElem?_append_left (by rw [← h.1]; exact hi)]; exact h1, h2⟩
  · rw [List.getElem?_append_right (by omega)] at hb
    have hz : i - as.length = 0 := by
      cases hk : i - as.length with
      | zero => rfl
      | succ n =>
        rw [hk] at hb
        simp at hb
    rw [hz] at hb
    have : a = b := Option.some.inj hb
    subst this
    refine ⟨s, e, ?_, g⟩
    rw [List.getElem?_append_right (by rw [← h.1]; omega), ← h.1, hz]
    rfl
abbrev pairs (ys : List Int) : List (Int × Int) := ys.zip (ys.drop 1)
def spStretches : Sp := fun vs H Q _ => ∃ (a : Addr) (Ls : List Lw), vs = [.ref a] ∧ StrandAt H a Ls ∧ Ls.length ≤ 60 ∧ (∀ L ∈ Ls, GoodL L) ∧
  ∀ (H' : Hp) (o : Addr) (as : List Addr) (ys : List Int), Same H H' → H o = none → H' o = some (.tup (as.map V.ref)) → SegsAt H' as Ls (pairs ys) → Places Ls ys → Q (.ref o) H'
/-- what is written, one behind the other -/
def wrt (xs : List Int) (ws : List (Int × Int)) : List Int := ws.foldl (fun xs p => xs.set p.1.toNat p.2) xs
theorem wrt_snoc (xs : List Int) (ws : List (Int × Int)) (p : Int × Int) : wrt xs (ws ++ [p]) = (wrt xs ws).set p.1.toNat p.2 := by
  unfold wrt
  rw [List.foldl_append]
  rfl
theorem wrt_len (xs : List Int) (ws : List (Int × Int)) : (wrt xs ws).length = xs.length := by
  unfold wrt
  induction ws generalizing xs with
  | nil => rfl
  | cons p r ih =>
    show (List.foldl _ (xs.set p.1.toNat p.2) r).length = _
    rw [ih, List.length_set]
theorem wrt_one (x : Int) (ys pre : List Int) : ∀ (ts : List Int) (x : Int), wrt (pre ++ x :: ys) (ts.map fun t => ((pre.length : Int), t)) = pre ++ lastD ts x :: ys
  | [], x => rfl
  | t :: r, x => by
    show wrt ((pre ++ x :: ys).set ((pre.length : Int)).toNat t) (r.map fun t => ((pre.length : Int), t)) = _
    have e : (pre ++ x :: ys).set ((pre.length : Int)).toNat t = pre ++ t :: ys := by
      rw [Int.toNat_natCast, List.set_append_right _ _ (Nat.le_refl _), Nat.sub_self]
      rfl
    rw [e, wrt_one x ys pre r t]
    congr 2
    unfold lastD
    cases r with
    | nil => rfl
    | cons u s =>
      rw [List.getLast?_cons_cons]
      have hne : (u :: s).getLast? = some ((u :: s).getLast (by simp)) := List.getLast?_eq_some_getLast (by simp)
      rw [hne]
      rfl
theorem wrt_app (xs : List Int) (u v : List (Int × Int)) : wrt xs (u ++ v) = wrt (wrt xs u) v := by
  unfold wrt
  rw [List.foldl_append]
theorem wrt_all (k j : Int) : ∀ (Ls : List Lw) (pre : List Int) (n : Nat), pre.length = n → (∀ L ∈ Ls, thickL L k = lastD (wr k (partsOf L.le L.ps L.pl)) (thickL L j)) → wrt (pre ++ Ls.map fun L => thickL L j) (Wall k n Ls) = pre ++ Ls.map fun L => thickL L k
  | [], pre, n, _, _ => rfl
  | L :: r, pre, n, hn, h => by
    show wrt (pre ++ thickL L j :: r.map fun L => thickL L j) ((wr k (partsOf L.le L.ps L.pl)).map (fun t => ((n : Int), t)) ++ Wall k (n + 1) r) = pre ++ thickL L k :: r.map fun L => thickL L k
    rw [wrt_app, ← hn, wrt_one 0, ← h L (by simp)]
    have ih := wrt_all k j r (pre ++ [thickL L k]) (pre.length + 1) (by rw [List.length_append]; rfl) fun M hM => h M (by simp [hM])
    rw [List.append_assoc, List.append_assoc] at ih
    exact ih
theorem keys_nonneg {Ls : List Lw} (g : ∀ L ∈ Ls, GoodL L) {k : Int} (h : Keys Ls k) : 0 ≤ k := by
  rcases h with h | ⟨L, hL, y, hy, h⟩
  · omega
  · have gL := g L hL
    have hp : ∀ p ∈ L.ps, 1 ≤ p.2 := fun p hp => (gL.1.2.2 p hp).2.2.1
    rw [← parts_eq L.ps L.pl hp] at hy
    have h1 := law_mem L.ps L.pl hp y hy
    have h2 := gL.2.2.2.1
    omega
theorem places_step {Ls : List Lw} (g : ∀ L ∈ Ls, GoodL L) {ys : List Int} (hp : Places Ls ys) {j k : Int} (hjk : j < k) (hn : ∀ y ∈ ys, y ≤ j ∨ k ≤ y) : ∀ L ∈ Ls, thickL L k = lastD (wr k (partsOf L.le L.ps L.pl)) (thickL L j) := fun L hL =>
  thick_step (g L hL) hjk fun y hy => ⟨hn _ ((hp.2.1 _).mpr (.inr ⟨L, hL, y, hy, .inl rfl⟩)), hn _ ((hp.2.1 _).mpr (.inr ⟨L, hL, y, hy, .inr rfl⟩))⟩
theorem thick_ahead {L : Lw} (g : GoodL L) : thickL L (-1) = 0 := by
  unfold thickL
  have := g.2.2.2.1
  rw [if_pos (by omega)]
theorem places_zero {Ls : List Lw} (g : ∀ L ∈ Ls, GoodL L) {ys : List Int} (hp : Places Ls ys) : ∃ r, ys = 0 :: r := by
  cases ys with
  | nil => exact absurd ((hp.2.1 0).mpr (.inl rfl)) (by simp)
  | cons y r =>
    have h1 := keys_nonneg g ((hp.2.1 y).mp (by simp))
    rcases List.mem_cons.mp ((hp.2.1 0).mpr (.inl rfl)) with e | e
    · exact ⟨r, by rw [← e]⟩
    · have h2 := (List.pairwise_cons.mp hp.1).1 0 e
      omega
/-- the place ahead of the i-th -/
def prevOf (ys : List Int) (i : Nat) : Int := if i = 0 then -1 else ys.getD (i - 1) 0
theorem prev_lt {Ls : List Lw} (g : ∀ L ∈ Ls, GoodL L) {ys : List Int} (hp : Places Ls ys) {i : Nat} {k : Int} (hk : ys[i]? = some k) : prevOf ys i < k ∧ ∀ y ∈ ys, y ≤ prevOf ys i ∨ k ≤ y := by
  have hi : i < ys.length := (List.getElem?_eq_some_iff.mp hk).1
  have ek : ys[i] = k := (List.getElem?_eq_some_iff.mp hk).2
  have srt := List.pairwise_iff_getElem.mp hp.1
  unfold prevOf
  by_cases h0 : i = 0
  · subst h0
    rw [if_pos rfl]
    have h1 := keys_nonneg g ((hp.2.1 k).mp (List.mem_of_getElem? hk))
    refine ⟨by omega, fun y hy => ?_⟩
    obtain ⟨m, hm, rfl⟩ := List.getElem_of_mem hy
    by_cases hm0 : m = 0
    · subst hm0
      right
      omega
    · have := srt 0 m hi hm (by omega)
      right
      omega
  · rw [if_neg h0, List.getD_eq_getElem?_getD, List.getElem?_eq_getElem (show i - 1 < ys.length by omega)]
    have h1 := srt (i - 1) i (by omega) hi (by omega)
    refine ⟨by simp only [Option.getD_some]; omega, fun y hy => ?_⟩
    simp only [Option.getD_some]
    obtain ⟨m, hm, rfl⟩ := List.getElem_of_mem hy
    by_cases h2 : m ≤ i - 1
    · left
      by_cases h3 : m = i - 1
      · subst h3
        exact Int.le_refl _
      · have := srt m (i - 1) hm (by omega) (by omega)
        omega
    · right
      by_cases h3 : m = i
      · subst h3
        omega
      · have := srt i m hi hm (by omega)
        omega
theorem prev_succ {ys : List Int} {i : Nat} {k : Int} (hk : ys[i]? = some k) : prevOf ys (i + 1) = k := by
  unfold prevOf
  rw [if_neg (by omega), Nat.add_sub_cancel, List.getD_eq_getElem?_getD, hk]
  rfl
theorem pairs_take {ys : List Int} {i : Nat} {s e : Int} (h1 : ys[i]? = some s) (h2 : (ys.drop 1)[i]? = some e) : (pairs ys).take (i + 1) = (pairs ys).take i ++ [(s, e)] := by
  rw [List.take_add_one]
  have : (pairs ys)[i]? = some (s, e) := by
    rw [List.getElem?_zip_eq_some]
    exact ⟨h1, h2⟩
  rw [this]
  rfl
theorem wall_num (k : Int) : ∀ (Ls : List Lw) (n : Nat) (p : Int × Int), p ∈ Wall k n Ls → ∃ m : Nat, m < n + Ls.length ∧ p.1 = m
  | [], _, p, h => by cases h
  | L :: r, n, p, h => by
    have h : p ∈ (wr k (partsOf L.le L.ps L.pl)).map (fun t => ((n : Int), t)) ++ Wall k (n + 1) r := h
    rcases List.mem_append.mp h with h | h
    · obtain ⟨t, _, rfl⟩ := List.mem_map.mp h
      exact ⟨n, by rw [List.length_cons]; omega, rfl⟩
    · obtain ⟨m, hm, e⟩ := wall_num k r (n + 1) p h
      exact ⟨m, by rw [List.length_cons]; omega, e⟩
theorem ixN_at {n j : Nat} (h : j < n) : ixN n (j : Int) = some j := by
  unfold ixN
  rw [if_pos (Int.natCast_nonneg j), if_pos (Int.ofNat_lt.mpr h), Int.toNat_natCast]
/-! ### a pot of three numbers: the great number at hand, the seed, how many were drawn -/
def PotC (H : Hp) (p : Addr) (T : Nat) : Prop := ∃ (c m : Int) (t : Nat), H p = some (.lst [.int c, .int m, .int (t : Int)]) ∧ 0 ≤ c ∧ 0 ≤ m ∧ m < 2 ^ 62 ∧ t ≤ T
theorem PotC.mono {H : Hp} {p : Addr} {T U : Nat} (h : PotC H p T) (e : T ≤ U) : PotC H p U := by
  obtain ⟨c, m, t, h1, h2, h3, h4, h5⟩ := h
  exact ⟨c, m, t, h1, h2, h3, h4, Nat.le_trans h5 e⟩
theorem PotC.new {H : Hp} {p a : Addr} {T : Nat} {o : HO} (h : PotC H p T) (n : H a = none) : PotC (upd H a o) p T := by
  obtain ⟨c, m, t, h1, h2⟩ := h
  exact ⟨c, m, t, by rw [upd_ne (ne_of_none h1 n)]; exact h1, h2⟩
theorem PotC.other {H : Hp} {p a : Addr} {T : Nat} {o : HO} (h : PotC H p T) (n : a ≠ p) : PotC (upd H a o) p T := by
  obtain ⟨c, m, t, h1, h2⟩ := h
  exact ⟨c, m, t, by rw [upd_ne n.symm]; exact h1, h2⟩
theorem PotC.notP {H : Hp} {p a : Addr} {T : Nat} {xs : List V} (h : PotC H p T) (e : H a = some (.tup xs)) : a ≠ p := by
  obtain ⟨c, m, t, h1, h2⟩ := h
  exact ne_of e h1 (by intro z; cases z)
theorem PotC.fresh {H : Hp} {p a : Addr} {T : Nat} (h : PotC H p T) (e : H a = none) : a ≠ p := by
  obtain ⟨c, m, t, h1, h2⟩ := h
  exact (ne_of_none h1 e).symm
theorem PotC.same {H H' : Hp} {p : Addr} {T : Nat} (h : PotC H p T) (e : Same H H') : PotC H' p T := by
  obtain ⟨c, m, t, h1, h2⟩ := h
  exact ⟨c, m, t, e _ _ h1, h2⟩
theorem Keep.tupsC {p : Addr} {H H' : Hp} {T : Nat} (k : Keep p p H H') (h : PotC H p T) : Tups H H' := fun a xs e => k a _ (h.notP e) (h.notP e) e
theorem Keep.freeC {p a : Addr} {H H' : Hp} {T : Nat} (k : Keep p p H H') (hp : PotC H' p T) (h : H' a = none) : H a = none := by
  have n := hp.fresh h
  cases q : H a with
  | none => rfl
  | some o =>
    rw [k a o n n q] at h
    cases h
theorem Keep.at {p a : Addr} {H H' : Hp} {o : HO} (k : Keep p p H H') (n : a ≠ p) (e : H a = some o) : H' a = some o := k a o n n e
def spBeginC (K : PySem.W.Frag) : Sp := fun vs H Q _ => ∃ (a : Addr) (ns : List Int) (i : Int), vs = [.ref a, .int i] ∧ SqL K H a (ns.map V.int) ∧ ns.length ≤ 63 ∧ 0 ≤ i ∧ i < 1000 ∧
  ∀ H' p, Same H H' → H p = none → PotC H' p 0 → Q (.ref p) H'
def spTakeC : Sp := fun vs H Q _ => ∃ (p : Addr) (T : Nat) (many : Int), vs = [.ref p, .int many] ∧ PotC H p T ∧ T < 2 ^ 40 ∧ CDivW 0 many ∧
  ∀ d H', 0 ≤ d → d < many → PotC H' p (T + 1) → Keep p p H H' → Q (.int d) H'
theorem wdiv {b : Int} (h : 0 < b) (h1 : b < 2 ^ 250) : CDivW 0 b := wide_div (b := 250) h (by
  have : (b.natAbs : Int) = b := by omega
  have h2 : (b.natAbs : Int) < ((2 ^ 250 : Nat) : Int) := by rw [this]; exact h1
  exact Int.ofNat_lt.mp h2) (by decide) (by decide)
theorem wmul {i j : Int} (h0 : 0 ≤ i) (h1 : i < 2 ^ 250) (h2 : 0 ≤ j) (h3 : j < 2 ^ 250) : CMulW i j := by
  refine wide_mul (a := 250) (b := 250) ?_ ?_ (by decide) (by decide) (by decide)
  · have e : (i.natAbs : Int) = i := by omega
    have h : (i.natAbs : Int) < ((2 ^ 250 : Nat) : Int) := by rw [e]; exact h1
    exact Int.ofNat_lt.mp h
  · have e : (j.natAbs : Int) = j := by omega
    have h : (j.natAbs : Int) < ((2 ^ 250 : Nat) : Int) := by rw [e]; exact h3
    exact Int.ofNat_lt.mp h
theorem Keep.from {p : Addr} {H H1 H2 : Hp} (k : Keep p p H1 H2) (s : Same H H1) (np : H p = none) : Same H H2 := fun b o e => k b o (ne_of_none e np) (ne_of_none e np) (s b o e)
theorem pairD {K : PySem.W.Frag} {H : Hp} {a : Addr} {i j : Int} (h : H a = some (.tup [.int i, .int j])) : Dp K H (.ref a) (.tuple [.int i, .int j]) := .tup (SqT.of h) (.cons (.int _) (.cons (.int _) .nil))
/-! ### sum of a tuple, list(range(n)) -/
section
variable {X : Cx}
theorem tup_total {prog : Program} {w : World} {A : Around} {E : Value → Shared → Prop} {s : Shared} {l : Addr} {xs : Array (Int × Tok)} {Q : Value → Shared → Prop} (hh : A.handled = none) (hl : s.heap.IsTuple l (intItems xs))
    (h : ∀ h' tk t', (∀ b o, s.heap.get? b = some o → h'.get? b = some o) → Q (.int (preSum (numAt xs) xs.size) t') { s with heap := h', toks := tk }) : wpAny (model prog w) A (call (.builtin "sum") [.ref l]) Q E s := by
  have lt : l < s.heap.objs.size := by
    obtain ⟨o, e, _⟩ := hl
    exact Heap.lt_size e
  have nn : (s.heap.push { cls := .type "tuple_iterator", data := .fields #[.ref l, .int 0 0] }).objs.size = s.heap.objs.size + 1 := Heap.size_push _ _
  refine call_sum_walkG (wpAny_pyIter_tuple hl ⟨_, _, _, _, _, _, numAt xs, rfl, Walks.tuple (A := A.in1) hh _ l (Nat.ne_of_lt lt) (intItems xs), ⟨⟨_, Heap.get?_push_size _ rfl, rfl, rfl⟩, ?_⟩, fun b hb => ?_, (fun _ _ => intItems_at), fun h' tk t' hk => ?_⟩)
  · obtain ⟨o, e, r⟩ := hl
    exact ⟨o, Heap.get?_push_of_some _ e, r⟩
  · show b < (s.heap.push { cls := .type "tuple_iterator", data := .fields #[.ref l, .int 0 0] }).objs.size
    rw [nn]
    simp only [List.mem_cons, List.not_mem_nil, or_false] at hb
    rcases hb with rfl | rfl
    · exact Nat.lt_succ_self _
    · exact Nat.lt_succ_of_lt lt
  · have z := h h' tk t' fun b o e => hk b o (fun hm => by
      simp only [List.mem_cons, List.not_mem_nil, or_false] at hm
      rw [hm] at e
      exact absurd (Heap.lt_size e) (Nat.lt_irrefl _)) (Heap.get?_push_of_some _ e)
    simpa [intItems] using z
theorem cr_sumT (hc : X.calm = true) : CallR X (.builtin "sum") (fun vs H Q => ∃ (a : Addr) (ns : List Int), vs = [V.ref a] ∧ SqT X.K H a (ns.map V.int) ∧ Q (.int ns.sum) H) := by
  intro pins s σ H vs us Q I r h
  obtain ⟨a, ns, rfl, hs, q⟩ := h
  obtain ⟨its, rv, hl, _⟩ := I.tuple hs
  rw [Vals.ref1 r]
  obtain ⟨xs, e⟩ := rv.ints.allInts.items
  have hn : numsOf (intItems xs).toList = ns := by rw [← e]; exact rv.ints.numsOf
  rw [nums_intItems] at hn
  rw [e] at hl
  refine tup_total (I.ok.hd hc) hl fun h' tk t' hk => ?_
  rw [preSum_eq, List.take_of_length_le (by simp), hn]
  exact ⟨.int _, H, I.kept hk, ⟨_, rfl⟩, q⟩
theorem cr_rangeN : CallR X (.type "range") (fun vs H Q => ∃ j, vs = [V.int j] ∧ ∀ p, H p = none → Q (.ref p) (upd H p (.rng 0 j))) := by
  intro pins s σ H vs us Q I r h
  obtain ⟨j, rfl, q⟩ := h
  obtain ⟨u, rfl, ⟨t, rfl⟩⟩ := vals1 r
  refine call_range_1 ⟨.ref s.heap.objs.size, upd H s.heap.objs.size (.rng 0 j), I.laid (t' := s.toks + 1 + 1) (fun b o e => Heap.get?_push_of_some _ e) (Nat.le_refl _) ?_, rfl, q _ (I.hok.fresh (Nat.le_refl _))⟩
  exact ⟨s.toks, t, s.toks + 1, Heap.get?_push_size _ rfl⟩
def upTo (n : Nat) : List Int := (List.range n).map fun (i : Nat) => (i : Int)
theorem vals_upTo : ∀ (n : Nat) (vs : List Value), vs.length = n → (∀ (j : Nat) (v : Value), vs[j]? = some v → ∃ t, v = .int ((j : Nat) : Int) t) → Vals ((upTo n).map V.int) vs := by
  intro n
  induction n with
  | zero =>
    intro vs hl _
    cases vs with
    | nil => exact .nil
    | cons x r => cases hl
  | succ n ih =>
    intro vs hl hv
    have hne : vs ≠ [] := fun e => by rw [e] at hl; cases hl
    have e := List.dropLast_concat_getLast hne
    have h1 := ih vs.dropLast (by rw [List.length_dropLast, hl]; rfl) (fun j v hj => hv j v (by
      rw [← e]
      rw [List.getElem?_append_left (List.getElem?_eq_some_iff.mp hj).1]
      exact hj))
    obtain ⟨t, et⟩ := hv n (vs.getLast hne) (by
      rw [List.getLast_eq_getElem]
      have : vs.length - 1 = n := by omega
      simp only [this]
      exact List.getElem?_eq_getElem (by omega))
    have e2 : upTo (n + 1) = upTo n ++ [(n : Int)] := by
      unfold upTo
      rw [List.range_succ, List.map_append]
      rfl
    rw [e2, List.map_append, ← e]
    exact Vals.append h1 (.cons ⟨t, et⟩ .nil)
theorem call_listR (hc : X.calm = true) : CallR X (.type "list") (fun vs H Q => ∃ (r : Addr) (n : Nat), vs = [.ref r] ∧ H r = some (.rng 0 (n : Int)) ∧ n ≤ 1000 ∧ ∀ l, H l = none → Q (.ref l) (upd H l (.lst ((upTo n).map V.int)))) := by
  intro pins s σ H xs us Q I r h
  obtain ⟨p, n, rfl, hp, hn, q⟩ := h
  obtain ⟨u, rfl, rx⟩ := vals1 r
  cases rx
  obtain ⟨t1, t2, t3, ho⟩ := I.hok p _ hp
  have hsz : Builtin.Range.rangeSize 0 (n : Int) 1 = (n : Int) := by
    rw [rangeSize_one]
    split <;> omega
  refine call_list_range (n := n) (I.ok.hd hc) ho ?_ hsz (by omega) fun h' tk acc' c' hk hS hacc => ?_
  · exact small_one (by decide) (by decide) (by omega) (by omega)
  · have hv : Vals ((upTo n).map V.int) acc'.toList := vals_upTo n acc'.toList (by rw [Array.length_toList]; exact hacc.1) fun j v hj => by
      obtain ⟨t, e⟩ := hacc.2 j v (by rw [← Array.getElem?_toList]; exact hj)
      exact ⟨t, by rw [e]; simp⟩
    refine ⟨.ref s.heap.objs.size, _, I.laid (t' := tk) hk (Nat.le_refl _) (show ObjOk X.prog X.w _ h' _ (.lst ((upTo n).map V.int)) from ⟨?_, acc'.toList, c', hv, by simpa using hS⟩), rfl, q _ (I.hok.fresh (Nat.le_refl _))⟩
    show ((upTo n).map V.int).length ≤ sizeLine
    unfold upTo
    rw [List.length_map, List.length_map, List.length_range]
    exact Nat.le_trans hn (by decide)
end
theorem dpInts {K : PySem.W.Frag} (H : Hp) : ∀ ns : List Int, DpAll K H (ns.map V.int) (ns.map PyData.int)
  | [] => .nil
  | n :: r => .cons (.int n) (dpInts H r)
theorem shInts (ns : List Int) : SeqAt.shaped (.list (ns.map PyData.int)) = true := by
  have h1 : PyData.canLayAll0 (ns.map PyData.int) = true := by
    induction ns with
    | nil => rfl
    | cons n r ih => exact (Bool.and_eq_true_iff.mpr ⟨rfl, ih⟩)
  have h2 : PyData.depthAll (ns.map PyData.int) = 0 := by
    clear h1
    induction ns with
    | nil => rfl
    | cons n r ih =>
      show max 0 (PyData.depthAll (r.map PyData.int)) = 0
      rw [ih]
      rfl
  refine Bool.and_eq_true_iff.mpr ⟨h1, decide_eq_true ?_⟩
  show PyData.depthAll (ns.map PyData.int) + 1 ≤ 64
  rw [h2]
  decide
/-! ### t += u of tuples; defs with defaults -/
theorem noI_tup : typeLookup (.type "tuple") (dunderI "add") = pure none := by
  rw [typeLookup_type, builtinLookup_eq_fast]
  kernel_rfl
section
variable {X : Cx}
theorem ip_catA : PIp X .Add (rCatA X.K) := by
  intro pins s σ H x y v u Q I rx ry h
  obtain ⟨a, b, xs, ys, rfl, rfl, ha, hb, hz, q0, q1, q2⟩ := h
  cases rx
  cases ry
  obtain ⟨vs, r1, p1, _⟩ := I.tuple ha
  obtain ⟨ws, r2, p2, _⟩ := I.tuple hb
  have hzz : vs.length + ws.length ≤ sizeLine := by rw [← r1.length, ← r2.length]; exact hz
  have e : vs.toArray ++ ws.toArray = (vs ++ ws).toArray := by simp
  obtain ⟨⟨cls, dd, data, sl⟩, ho, hc, n, hd⟩ := id p1
  obtain ⟨⟨cls2, dd2, data2, sl2⟩, ho2, hc2, n2, hd2⟩ := id p2
  simp only at hc hd hc2 hd2
  subst hc hd hc2 hd2
  have go : ∀ {S : PySem.Spec}, Meets (Builtin.«tuple.__add__» ⟨[.ref a, .ref b], []⟩) S → S X.A (wants (EP X pins σ Q) X.xe) s → wpAny (model X.prog X.w) X.A (inplaceOp .Add (.ref a) (.ref b)) (EP X pins σ Q) X.xe s := fun g hS =>
    wpAny_inplaceOp_concat ⟨_, ho, rfl⟩ ⟨_, ho2, rfl⟩ noI_tup noFill_tuple_add seq_tuple_add (call_meets PySem.F.slot_tuple_add ⟨_, ho, rfl⟩ PySem.F.entry_tuple_add (PySem.F.args_tuple_add_2 _ _) g hS)
  by_cases hx : vs = []
  · subst hx
    exact go (tuple_addW0 a b ([] : List Value).toArray ws.toArray n n2 dd dd2 sl sl2 (by simp)) ⟨ho, ho2, .ref b, H, I, rfl, q0 (r1.nil_iff.mp rfl)⟩
  · by_cases hy : ws = []
    · exact go (tuple_addW1 a b vs.toArray ws.toArray n n2 dd dd2 sl sl2 (by simpa using hx) (by simp [hy])) ⟨ho, ho2, .ref a, H, I, rfl, q1 (fun z => hx (r1.nil_iff.mpr z)) (r2.nil_iff.mp hy)⟩
    · refine go (tuple_addW2 a b vs.toArray ws.toArray n n2 dd dd2 sl sl2 (by simpa using hx) (by simpa using hy) (by rw [List.size_toArray, List.size_toArray]; exact hzz)) ⟨ho, ho2, ?_⟩
      rw [e]
      refine ⟨.ref s.heap.objs.size, _, I.laid (t' := s.toks) (o := .tup (xs ++ ys)) (fun b ob q => Heap.get?_push_of_some _ q) (Nat.le_refl _) ⟨by rw [List.length_append]; exact hz, _, r1.append r2, IsTup.new _ _⟩, rfl, q2 (fun z => hx (r1.nil_iff.mpr z)) (fun z => hy (r2.nil_iff.mpr z)) _ (I.hok.fresh (Nat.le_refl _))⟩
end
def BD (K : PySem.W.Frag) (fd : FuncData) (ps : List Str) (dvs : List V) : Prop := ∃ ds, Vals dvs ds ∧ Binds K fd ps ds
theorem okD {P : Program} {w : World} {K : PySem.W.Frag} {mg : Str → Option Value} {base : Heap} {x qual : Str} {params : Arguments} {body : List Stmt} {scope : Scope} {dvs : List V} {kws : List (Str × V)} {f : Addr} {fd : FuncData} {N ps : List Str} {k : Nat} {sp : Sp}
    (F : FunD K x qual params body scope dvs kws f fd) (S : FnScope N ps scope) (ln : ∀ vs H Q E, sp vs H Q E → vs.length = ps.length)
    (hb : ∀ (cdv : Value) (A : Around) (outer : List Env) (s : Shared) (H : Hp) (vs : List V) (Q : VK) (E : XK), Room k (A.deeper (envOfC qual scope s.heap.objs.size f cdv)) → sp vs H Q E →
      ∃ t, PSs (cxOf CX0 P w K mg base N qual scope f cdv A outer s H E).nox body t ∧ t { nx := fun _ H' => Q .non H', rt := Q } (start N vs) H) : FnOk P w K mg base CX0 (k + 1) f fd ps sp :=
  F.ok S ln fun cdv A outer s H vs Q E hr h => by
    obtain ⟨t, h1, h2⟩ := hb cdv A outer s H vs Q E hr h
    exact ⟨t, h1.nox, h2⟩
/-! ### the first place that is thinner than low -/
def IsFirst (Ls : List Lw) (low now m : Int) : Prop := now ≤ m ∧ thickS Ls m < low ∧ ∀ p, now ≤ p → p < m → low ≤ thickS Ls p
theorem first_eq {Ls : List Lw} {low now m n : Int} (h1 : IsFirst Ls low now m) (h2 : IsFirst Ls low now n) : m = n := by
  obtain ⟨a1, a2, a3⟩ := h1
  obtain ⟨b1, b2, b3⟩ := h2
  rcases Int.lt_trichotomy m n with h | h | h
  · have := b3 m a1 h
    omega
  · exact h
  · have := a3 n b1 h
    omega
theorem thick_nonneg : ∀ (ps : List (Int × Int)) (k : Int), (∀ p ∈ ps, 0 ≤ p.1) → 0 ≤ thickAt ps k
  | [], _, _ => Int.le_refl _
  | (t, g) :: r, k, h => by
    show 0 ≤ if k < g then t else thickAt r (k - g)
    split
    · exact h (t, g) (by simp)
    · exact thick_nonneg r _ fun p hp => h p (by simp [hp])
theorem thick_over {L : Lw} (g : GoodL L) {p : Int} (h : lastOf L ≤ p) : thickL L p = 0 := by
  have h1 := thick_runs g p
  have h2 : 0 ≤ thickL L p := by
    unfold thickL
    split
    · exact Int.le_refl _
    · cases L.le with
      | none => exact thick_nonneg _ _ fun q hq => Int.le_trans (by decide) (g.1.2.2 q hq).1
      | some n =>
        show 0 ≤ if n ≤ p then 0 else _
        split
        · exact Int.le_refl _
        · exact thick_nonneg _ _ fun q hq => Int.le_trans (by decide) (g.1.2.2 q hq).1
  have h3 : ¬ 0 < thickL L p := fun z => by
    have := h1.mp z
    omega
  omega
theorem thickS_over {Ls : List Lw} (g : ∀ L ∈ Ls, GoodL L) {p : Int} (h : ∀ L ∈ Ls, lastOf L ≤ p) : thickS Ls p = 0 := by
  unfold thickS
  induction Ls with
  | nil => rfl
  | cons L r ih =>
    rw [List.map_cons, List.sum_cons, thick_over (g L (by simp)) (h L (by simp)), ih (fun M hM => g M (by simp [hM])) (fun M hM => h M (by simp [hM]))]
    rfl
theorem thickS_congr {Ls : List Lw} {p q : Int} (h : ∀ L ∈ Ls, thickL L p = thickL L q) : thickS Ls p = thickS Ls q := by
  unfold thickS
  rw [List.map_congr_left h]
theorem wr_not {k : Int} {qs : List (Int × Int × Int)} (h : ∀ y ∈ qs, y.1 ≠ k ∧ y.2.1 ≠ k) : wr k qs = [] := by
  cases hw : wr k qs with
  | nil => rfl
  | cons t r =>
    obtain ⟨y, hy, e⟩ := wr_ne (k := k) (qs := qs) (by rw [hw]; simp)
    have := h y hy
    rcases e with e | e
    · exact absurd e this.1
    · exact absurd e this.2
/-- where nothing begins or ends behind s, up to p, it is as at s -/
theorem thick_still {L : Lw} (g : GoodL L) {s p : Int} (hsp : s ≤ p) (hn : ∀ y ∈ partsOf L.le L.ps L.pl, (y.1 ≤ s ∨ p < y.1) ∧ (y.2.1 ≤ s ∨ p < y.2.1)) : thickL L p = thickL L s := by
  by_cases e : s = p
  · rw [e]
  · have h1 := thick_step g (j := s) (k := p) (by omega) fun y hy => ⟨(hn y hy).1.imp id Int.le_of_lt, (hn y hy).2.imp id Int.le_of_lt⟩
    rw [h1, wr_not fun y hy => ⟨fun z => by have := (hn y hy).1; omega, fun z => by have := (hn y hy).2; omega⟩]
    rfl
theorem pairs_get {ys : List Int} {i : Nat} {s e : Int} (h : (pairs ys)[i]? = some (s, e)) : ys[i]? = some s ∧ ys[i + 1]? = some e := by
  rw [List.getElem?_zip_eq_some] at h
  refine ⟨h.1, ?_⟩
  have := h.2
  rw [List.getElem?_drop] at this
  rw [Nat.add_comm]
  exact this
theorem places_still {Ls : List Lw} (g : ∀ L ∈ Ls, GoodL L) {ys : List Int} (hp : Places Ls ys) {i : Nat} {s e p : Int} (h : (pairs ys)[i]? = some (s, e)) (h1 : s ≤ p) (h2 : p < e) : thickS Ls p = thickS Ls s := by
  obtain ⟨e1, e2⟩ := pairs_get h
  obtain ⟨i1, g1⟩ := List.getElem?_eq_some_iff.mp e1
  obtain ⟨i2, g2⟩ := List.getElem?_eq_some_iff.mp e2
  have srt := List.pairwise_iff_getElem.mp hp.1
  have ok : ∀ y, Keys Ls y → y ≤ s ∨ p < y := fun y hy => by
    obtain ⟨m, hm, rfl⟩ := List.getElem_of_mem ((hp.2.1 y).mpr hy)
    by_cases hmi : m ≤ i
    · left
      by_cases hm2 : m = i
      · subst hm2
        omega
      · have := srt m i hm i1 (by omega)
        omega
    · right
      by_cases hm2 : m = i + 1
      · subst hm2
        omega
      · have := srt (i + 1) m i2 hm (by omega)
        omega
  exact thickS_congr fun L hL => thick_still (g L hL) h1 fun y hy => ⟨ok _ (.inr ⟨L, hL, y, hy, .inl rfl⟩), ok _ (.inr ⟨L, hL, y, hy, .inr rfl⟩)⟩
theorem end_key {Ls : List Lw} (g : ∀ L ∈ Ls, GoodL L) {m : Int} (h : IsEnd Ls m) : Keys Ls m := by
  cases hL : Ls with
  | nil => exact .inl (h.1 hL)
  | cons M r =>
    obtain ⟨L, hm, e⟩ := h.2.1 (by rw [hL]; simp)
    have gL := g L hm
    have hp : ∀ p ∈ L.ps, 1 ≤ p.2 := fun p hp => (gL.1.2.2 p hp).2.2.1
    obtain ⟨y, hy, ey⟩ := parts_has (le := L.le) L.ps L.pl hp (last_gt gL)
    rw [← hL]
    exact .inr ⟨L, hm, y, hy, .inr (by rw [ey, e]; rfl)⟩
theorem key_le {ys : List Int} (h : ys.Pairwise (· < ·)) {k : Int} (hk : k ∈ ys) {i : Nat} {e : Int} (he : ys[i]? = some e) (hi : i + 1 = ys.length) : k ≤ e := by
  obtain ⟨i1, g1⟩ := List.getElem?_eq_some_iff.mp he
  obtain ⟨m, hm, rfl⟩ := List.getElem_of_mem hk
  by_cases hmi : m = i
  · subst hmi
    omega
  · have := List.pairwise_iff_getElem.mp h m i hm i1 (by omega)
    omega
def spLasts : Sp := fun vs H Q _ => ∃ (a : Addr) (Ls : List Lw) (low now : Int), vs = [.ref a, .int low, .int now] ∧ StrandAt H a Ls ∧ Ls.length ≤ 60 ∧ (∀ L ∈ Ls, GoodL L) ∧ 1 ≤ low ∧ 0 ≤ now ∧ ∀ H' m, Same H H' → IsFirst Ls low now m → Q (.int m) H'
/-! ### rows drawn late -/
abbrev Wi := Int × List (Int × Int)
def RowAt (H : Hp) (as : List Addr) (Ws : List Wi) : Prop := as.length = Ws.length ∧ ∀ (i : Nat) (a : Addr), as[i]? = some a → ∃ W, Ws[i]? = some W ∧ WispAt H a W.1 W.2
theorem RowAt.mono {H H' : Hp} {as : List Addr} {Ws : List Wi} (h : RowAt H as Ws) (t : Tups H H') : RowAt H' as Ws := ⟨h.1, fun i a e => by
  obtain ⟨W, h1, h2⟩ := h.2 i a e
  exact ⟨W, h1, h2.mono t⟩⟩
theorem RowAt.take {H : Hp} {as : List Addr} {Ws : List Wi} (h : RowAt H as Ws) (n : Nat) : RowAt H (as.take n) (Ws.take n) := by
  refine ⟨by rw [List.length_take, List.length_take, h.1], fun i a e => ?_⟩
  rw [List.getElem?_take] at e
  split at e
  · next hi =>
    obtain ⟨W, h1, h2⟩ := h.2 i a e
    exact ⟨W, by rw [List.getElem?_take, if_pos hi]; exact h1, h2⟩
  · cases e
def GoodW (W : Wi) : Prop := Good W.2 ∧ 0 ≤ W.1 ∧ W.1 ≤ 1 ∧ longs W.2 < 2 ^ 110
def laidOf (W : Wi) (m : Int) : Lw := ⟨W.1, W.2, m, none⟩
def laidAll : List Wi → List Int → List Lw
  | W :: r, m :: s => laidOf W m :: laidAll r s
  | _, _ => []
theorem laidAll_len : ∀ (Ws : List Wi) (ms : List Int), Ws.length = ms.length → (laidAll Ws ms).length = Ws.length
  | [], [], _ => rfl
  | W :: r, m :: s, h => congrArg (· + 1) (laidAll_len r s (Nat.succ.inj h))
  | [], _ :: _, h => by cases h
  | _ :: _, [], h => by cases h
theorem laidAll_get : ∀ {Ws : List Wi} {ms : List Int} {i : Nat} {W : Wi} {m : Int}, Ws[i]? = some W → ms[i]? = some m → (laidAll Ws ms)[i]? = some (laidOf W m)
  | W :: r, m :: s, 0, _, _, h1, h2 => by
    cases h1
    cases h2
    rfl
  | W :: r, m :: s, i + 1, _, _, h1, h2 => laidAll_get (Ws := r) (ms := s) (i := i) h1 h2
  | [], _, i, _, _, h1, _ => by simp at h1
  | _ :: _, [], i, _, _, _, h2 => by simp at h2
theorem laidAll_mem : ∀ {Ws : List Wi} {ms : List Int} {L : Lw}, L ∈ laidAll Ws ms → ∃ W ∈ Ws, ∃ m ∈ ms, L = laidOf W m
  | W :: r, m :: s, L, h => by
    rcases List.mem_cons.mp h with rfl | h
    · exact ⟨W, by simp, m, by simp, rfl⟩
    · obtain ⟨V, hV, n, hn, e⟩ := laidAll_mem (Ws := r) (ms := s) h
      exact ⟨V, by simp [hV], n, by simp [hn], e⟩
  | [], _, L, h => by simp [laidAll] at h
  | _ :: _, [], L, h => by simp [laidAll] at h
theorem good_laid {W : Wi} {m : Int} (g : GoodW W) (h0 : 0 ≤ m) (h1 : m < 2 ^ 130) : GoodL (laidOf W m) := ⟨g.1, g.2.1, g.2.2.1, h0, h1, fun n e => by cases e⟩
theorem last_laid (W : Wi) (m : Int) : lastOf (laidOf W m) = m + longs W.2 := rfl
theorem first_le {Ls : List Lw} (g : ∀ L ∈ Ls, GoodL L) {low now m B : Int} (h : IsFirst Ls low now m) (l1 : 1 ≤ low) (hn : now ≤ B) (hB : ∀ L ∈ Ls, lastOf L ≤ B) : m ≤ B := by
  rcases Int.lt_or_le B m with hb | hb
  · have h1 := h.2.2 B hn hb
    rw [thickS_over g hB] at h1
    omega
  · exact hb
/-- each next one at the first place that is too thin without it -/
def LateP (Ls : List Lw) (Ws : List Wi) (low now : Int) (ms : List Int) : Prop := ms.length = Ws.length ∧ ∀ (i : Nat) (m : Int), ms[i]? = some m → IsFirst (Ls ++ laidAll (Ws.take i) (ms.take i)) low now m
theorem late_eq {Ls : List Lw} {Ws : List Wi} {low now : Int} {ms ns : List Int} (h1 : LateP Ls Ws low now ms) (h2 : LateP Ls Ws low now ns) : ms = ns := by
  have key : ∀ i, ms.take i = ns.take i := by
    intro i
    induction i with
    | zero => rfl
    | succ i ih =>
      rw [List.take_add_one, List.take_add_one, ih]
      congr 1
      by_cases hi : i < ms.length
      · have hi2 : i < ns.length := by rw [h2.1, ← h1.1]; exact hi
        have e1 : ms[i]? = some ms[i] := List.getElem?_eq_getElem hi
        have e2 : ns[i]? = some ns[i] := List.getElem?_eq_getElem hi2
        have f1 := h1.2 i _ e1
        have f2 := h2.2 i _ e2
        rw [ih] at f1
        rw [e1, e2, first_eq f1 f2]
      · rw [List.getElem?_eq_none (by omega), List.getElem?_eq_none (by rw [h2.1, ← h1.1]; omega)]
  have := key ms.length
  rw [List.take_length, List.take_of_length_le (by rw [h1.1, h2.1]; exact Nat.le_refl _)] at this
  exact this
def spLaidOut : Sp := fun vs H Q _ => ∃ (a b : Addr) (as : List Addr) (Ws : List Wi) (ms : List Int), vs = [.ref a, .ref b] ∧ H a = some (.tup (as.map V.ref)) ∧ RowAt H as Ws ∧ H b = some (.tup (ms.map V.int)) ∧ Ws.length = ms.length ∧ Ws.length ≤ 60 ∧
  ∀ H' o, Same H H' → H o = none → StrandAt H' o (laidAll Ws ms) → Q (.ref o) H'
def SX (H : Hp) (x : V) (Ls : List Lw) : Prop := (x = .non ∧ Ls = []) ∨ ∃ c, x = .ref c ∧ StrandAt H c Ls
theorem SX.mono {H H' : Hp} {x : V} {Ls : List Lw} (h : SX H x Ls) (t : Tups H H') : SX H' x Ls := by
  rcases h with h | ⟨c, h1, h2⟩
  · exact .inl h
  · exact .inr ⟨c, h1, h2.mono t⟩
def spStrandWith : Sp := fun vs H Q _ => ∃ (a b : Addr) (x : V) (as : List Addr) (Ws : List Wi) (ms : List Int) (Ls : List Lw), vs = [.ref a, .ref b, x] ∧ H a = some (.tup (as.map V.ref)) ∧ RowAt H as Ws ∧ H b = some (.tup (ms.map V.int)) ∧ Ws.length = ms.length ∧ SX H x Ls ∧ Ls.length + Ws.length ≤ 60 ∧
  ∀ H' o, Same H H' → StrandAt H' o (Ls ++ laidAll Ws ms) → Q (.ref o) H'
/-- what a row is drawn from -/
structure From (Ls : List Lw) (Ws : List Wi) (low now : Int) : Prop where
  few : Ls.length + Ws.length ≤ 60
  gl : ∀ L ∈ Ls, GoodL L
  gw : ∀ W ∈ Ws, GoodW W
  l1 : 1 ≤ low
  n0 : 0 ≤ now
  n1 : now ≤ 2 ^ 115
  b : ∀ L ∈ Ls, lastOf L ≤ 2 ^ 115
def spDrawn : Sp := fun vs H Q _ => ∃ (a : Addr) (x : V) (low now : Int) (as : List Addr) (Ws : List Wi) (Ls : List Lw), vs = [.ref a, .int low, x, .int now] ∧ H a = some (.tup (as.map V.ref)) ∧ RowAt H as Ws ∧ SX H x Ls ∧ From Ls Ws low now ∧
  ∀ H' o ms, Same H H' → H' o = some (.tup (ms.map V.int)) → LateP Ls Ws low now ms → (∀ m ∈ ms, 0 ≤ m ∧ m < 2 ^ 125) → Q (.ref o) H'
def spLasting : Sp := fun vs H Q _ => ∃ (a : Addr) (x : V) (low now : Int) (as : List Addr) (Ws : List Wi) (Ls : List Lw), vs = [.ref a, .int low, x, .int now] ∧ H a = some (.tup (as.map V.ref)) ∧ RowAt H as Ws ∧ SX H x Ls ∧ From Ls Ws low now ∧
  ∀ H' ms m, Same H H' → LateP Ls Ws low now ms → IsFirst (Ls ++ laidAll Ws ms) low now m → Q (.int m) H'
/-- the places so far, their bound -/
def SoFar (Ls : List Lw) (Ws : List Wi) (low now : Int) (i : Nat) (ms : List Int) : Prop := ms.length = i ∧ (∀ (j : Nat) (m : Int), ms[j]? = some m → IsFirst (Ls ++ laidAll (Ws.take j) (ms.take j)) low now m) ∧ ∀ m ∈ ms, 0 ≤ m ∧ m ≤ 2 ^ 115 + (i : Int) * 2 ^ 110
theorem so_far_good {Ls : List Lw} {Ws : List Wi} {low now : Int} (F : From Ls Ws low now) {i : Nat} {ms : List Int} (h : SoFar Ls Ws low now i ms) (hi : i ≤ Ws.length) :
    (∀ L ∈ Ls ++ laidAll (Ws.take i) ms, GoodL L) ∧ (Ls ++ laidAll (Ws.take i) ms).length ≤ 60 ∧ ∀ L ∈ Ls ++ laidAll (Ws.take i) ms, lastOf L ≤ 2 ^ 115 + ((i + 1 : Nat) : Int) * 2 ^ 110 := by
  have hi60 : (i : Int) ≤ 60 := by
    have := F.few
    omega
  have e1 : ((i + 1 : Nat) : Int) * 2 ^ 110 = (i : Int) * 2 ^ 110 + 2 ^ 110 := by
    rw [Int.natCast_add, Int.add_mul]
    rfl
  have e2 : (i : Int) * 2 ^ 110 ≤ 60 * 2 ^ 110 := Int.mul_le_mul_of_nonneg_right hi60 (by decide)
  have e3 : 0 ≤ (i : Int) * 2 ^ 110 := Int.mul_nonneg (by omega) (by decide)
  refine ⟨fun L hL => ?_, ?_, fun L hL => ?_⟩
  · rcases List.mem_append.mp hL with hL | hL
    · exact F.gl L hL
    · obtain ⟨W, hW, m, hm, rfl⟩ := laidAll_mem hL
      have := h.2.2 m hm
      exact good_laid (F.gw W (List.mem_of_mem_take hW)) this.1 (by omega)
  · rw [List.length_append, laidAll_len _ _ (by rw [List.length_take, h.1]; omega), List.length_take]
    have := F.few
    omega
  · rcases List.mem_append.mp hL with hL | hL
    · have := F.b L hL
      omega
    · obtain ⟨W, hW, m, hm, rfl⟩ := laidAll_mem hL
      have h1 := h.2.2 m hm
      have h2 := (F.gw W (List.mem_of_mem_take hW)).2.2.2
      rw [last_laid]
      omega
/-! ### what the law draws -/
def spOfB : Sp := fun vs H Q _ => ∃ (p : Addr) (T : Nat) (a : Addr) (xs : List V), vs = [.ref p, .ref a] ∧ PotC H p T ∧ T < 2 ^ 39 ∧ H a = some (.lst xs) ∧ a ≠ p ∧ 1 ≤ xs.length ∧ xs.length ≤ 1000 ∧
  ∀ H' (j : Nat) x, xs[j]? = some x → PotC H' p (T + 1) → Keep p p H H' → Q x H'
def spDWisp : Sp := fun vs H Q _ => ∃ (p : Addr) (T : Nat) (sty : Int), vs = [.ref p, .int sty] ∧ PotC H p T ∧ T < 2 ^ 37 ∧ 0 ≤ sty ∧ sty < 3 ∧
  ∀ H' a W, WispAt H' a W.1 W.2 → GoodW W → H a = none → PotC H' p (T + 100) → Keep p p H H' → Q (.ref a) H'
def spLeast : Sp := fun vs H Q _ => ∃ (p : Addr) (T : Nat) (sty : Int), vs = [.ref p, .int sty] ∧ PotC H p T ∧ T < 2 ^ 37 ∧ ∀ H' n, 1 ≤ n → n < 2 ^ 140 → PotC H' p (T + 2) → Keep p p H H' → Q (.int n) H'
def spStrongB : Sp := fun vs H Q _ => ∃ (a : Addr) (s : Int) (ps : List (Int × Int)) (k : Int), vs = [.ref a, .int k] ∧ WispAt H a s ps ∧ Q (.int (thickAt ps k)) H
def spThere : Sp := fun vs H Q _ => ∃ (a : Addr) (Ls : List Lw) (p : Int), vs = [.ref a, .int p] ∧ StrandAt H a Ls ∧ Q (.int (thickS Ls p)) H
theorem longs_le {ps : List (Int × Int)} {B : Int} (h : ∀ p ∈ ps, p.2 ≤ B) : longs ps ≤ ps.length * B := by
  induction ps with
  | nil => rw [show longs [] = 0 from rfl]; simp
  | cons p r ih =>
    have h1 := h p (by simp)
    have h2 := ih fun x hx => h x (by simp [hx])
    rw [longs_cons, List.length_cons, Int.natCast_add, Int.add_mul]
    simp only [Int.natCast_one, Int.one_mul]
    omega
/-! ### from border to border -/
def LKey (L : Lw) (k : Int) : Prop := k = L.pl ∨ L.le = some k ∨ ∃ j, j < L.ps.length ∧ k = L.pl + longs (L.ps.take (j + 1))
def BKey (Ls : List Lw) (now k : Int) : Prop := k = now ∨ ∃ L ∈ Ls, LKey L k
theorem clip_is (le : Option Int) (e : Int) : clip le e = e ∨ le = some (clip le e) := by
  unfold clip
  cases le with
  | none => exact .inl rfl
  | some n =>
    dsimp only
    split
    · exact .inr rfl
    · exact .inl rfl
theorem part_key {le : Option Int} : ∀ (ps : List (Int × Int)) (st : Int), ∀ y ∈ lawParts le ps st, (y.1 = st ∨ ∃ j, j < ps.length ∧ y.1 = st + longs (ps.take (j + 1))) ∧ (le = some y.2.1 ∨ ∃ j, j < ps.length ∧ y.2.1 = st + longs (ps.take (j + 1)))
  | [], _, y, h => by cases h
  | (t, g) :: r, st, y, h => by
    have h : y ∈ (if st < clip le (st + g) then [(st, clip le (st + g), t)] else []) ++ lawParts le r (st + g) := h
    have l1 : longs (((t, g) :: r).take 1) = g := by
      show longs [(t, g)] = g
      rw [longs_cons]
      show g + 0 = g
      omega
    have sh : ∀ j, st + g + longs (r.take (j + 1)) = st + longs (((t, g) :: r).take (j + 1 + 1)) := fun j => by
      show _ = st + longs ((t, g) :: r.take (j + 1))
      rw [longs_cons]
      show _ = st + (g + _)
      omega
    rcases List.mem_append.mp h with h | h
    · split at h
      · simp only [List.mem_cons, List.not_mem_nil, or_false] at h
        subst h
        refine ⟨.inl rfl, ?_⟩
        rcases clip_is le (st + g) with e | e
        · exact .inr ⟨0, by simp, by show clip le (st + g) = _; rw [e, l1]⟩
        · exact .inl e
      · cases h
    · obtain ⟨h1, h2⟩ := part_key r (st + g) y h
      refine ⟨?_, ?_⟩
      · rcases h1 with e | ⟨j, hj, e⟩
        · exact .inr ⟨0, by simp, by rw [e, l1]⟩
        · exact .inr ⟨j + 1, by rw [List.length_cons]; omega, by rw [e, sh]⟩
      · rcases h2 with e | ⟨j, hj, e⟩
        · exact .inl e
        · exact .inr ⟨j + 1, by rw [List.length_cons]; omega, by rw [e, sh]⟩
theorem part_lkey {L : Lw} (g : GoodL L) {y : Int × Int × Int} (h : y ∈ partsOf L.le L.ps L.pl) : LKey L y.1 ∧ LKey L y.2.1 := by
  rw [← parts_eq L.ps L.pl fun p hp => (g.1.2.2 p hp).2.2.1] at h
  obtain ⟨h1, h2⟩ := part_key L.ps L.pl y h
  refine ⟨?_, ?_⟩
  · rcases h1 with e | e
    · exact .inl e
    · exact .inr (.inr e)
  · rcases h2 with e | e
    · exact .inr (.inl e)
    · exact .inr (.inr e)
theorem near {ns : List Int} {p : Int} (h : ∃ a ∈ ns, a ≤ p) : ∃ b ∈ ns, b ≤ p ∧ ∀ k ∈ ns, k ≤ b ∨ p < k := by
  induction ns with
  | nil =>
    obtain ⟨a, ha, _⟩ := h
    cases ha
  | cons x r ih =>
    by_cases hr : ∃ a ∈ r, a ≤ p
    · obtain ⟨b, hb, h1, h2⟩ := ih hr
      by_cases hx : x ≤ p ∧ b < x
      · refine ⟨x, by simp, hx.1, fun k hk => ?_⟩
        rcases List.mem_cons.mp hk with rfl | hk
        · exact .inl (Int.le_refl _)
        · have := h2 k hk
          omega
      · refine ⟨b, by simp [hb], h1, fun k hk => ?_⟩
        rcases List.mem_cons.mp hk with rfl | hk
        · omega
        · exact h2 k hk
    · obtain ⟨a, ha, h1⟩ := h
      have : a = x := by
        rcases List.mem_cons.mp ha with e | e
        · exact e
        · exact absurd ⟨a, e, h1⟩ hr
      subst this
      refine ⟨a, by simp, h1, fun k hk => ?_⟩
      rcases List.mem_cons.mp hk with rfl | hk
      · exact .inl (Int.le_refl _)
      · right
        rcases Int.lt_or_le p k with z | z
        · exact z
        · exact absurd ⟨k, hk, z⟩ hr
def Borders (Ls : List Lw) (now : Int) (ns : List Int) : Prop := ns.Pairwise (· < ·) ∧ (∀ k, k ∈ ns ↔ BKey Ls now k ∧ now ≤ k) ∧ ns.length ≤ 1000
theorem border_first {Ls : List Lw} (g : ∀ L ∈ Ls, GoodL L) {now low m : Int} {ns : List Int} (hb : Borders Ls now ns) {i : Nat} (hi : ns[i]? = some m) (ht : thickS Ls m < low) (ha : ∀ (j : Nat) (k : Int), j < i → ns[j]? = some k → low ≤ thickS Ls k) : IsFirst Ls low now m := by
  have mem := List.mem_of_getElem? hi
  refine ⟨((hb.2.1 m).mp mem).2, ht, fun p p1 p2 => ?_⟩
  obtain ⟨b, hbm, b1, b2⟩ := near (ns := ns) (p := p) ⟨now, (hb.2.1 now).mpr ⟨.inl rfl, Int.le_refl _⟩, p1⟩
  have bn := ((hb.2.1 b).mp hbm).2
  have still : thickS Ls p = thickS Ls b := thickS_congr fun L hL => thick_still (g L hL) b1 fun y hy => by
    have ok : ∀ k, LKey L k → k ≤ b ∨ p < k := fun k hk => by
      by_cases hn : now ≤ k
      · exact b2 k ((hb.2.1 k).mpr ⟨.inr ⟨L, hL, hk⟩, hn⟩)
      · left
        omega
    obtain ⟨h1, h2⟩ := part_lkey (g L hL) hy
    exact ⟨ok _ h1, ok _ h2⟩
  rw [still]
  obtain ⟨j, hj, ej⟩ := List.getElem_of_mem hbm
  obtain ⟨i1, ei⟩ := List.getElem?_eq_some_iff.mp hi
  refine ha j b ?_ (by rw [← ej]; exact List.getElem?_eq_getElem hj)
  rcases Nat.lt_or_ge j i with z | z
  · exact z
  · by_cases e : j = i
    · subst e
      omega
    · have := List.pairwise_iff_getElem.mp hb.1 i j i1 hj (by omega)
      omega
theorem border_some {Ls : List Lw} (g : ∀ L ∈ Ls, GoodL L) {now low : Int} (l1 : 1 ≤ low) {ns : List Int} (hb : Borders Ls now ns) (ha : ∀ (j : Nat) (k : Int), j < ns.length → ns[j]? = some k → low ≤ thickS Ls k) : False := by
  have hnow := (hb.2.1 now).mpr ⟨.inl rfl, Int.le_refl _⟩
  have hl : 0 < ns.length := List.length_pos_of_mem hnow
  have hz : ns[ns.length - 1]? = some ns[ns.length - 1] := List.getElem?_eq_getElem (by omega)
  have le : ∀ k ∈ ns, k ≤ ns[ns.length - 1] := fun k hk => key_le hb.1 hk hz (by omega)
  have h1 := ha _ _ (by omega) hz
  rw [thickS_over g fun L hL => ?_] at h1
  · omega
  · have gl := g L hL
    have hlen := gl.1.1
    have hk : LKey L (L.pl + longs L.ps) := .inr (.inr ⟨L.ps.length - 1, by omega, by rw [show L.ps.length - 1 + 1 = L.ps.length by omega, List.take_length]⟩)
    have h2 : lastOf L ≤ L.pl + longs L.ps := clip_le
    have h3 : L.pl + longs L.ps ≤ ns[ns.length - 1] := by
      by_cases hn : now ≤ L.pl + longs L.ps
      · exact le _ ((hb.2.1 _).mpr ⟨.inr ⟨L, hL, hk⟩, hn⟩)
      · have := le now hnow
        omega
    omega
def spBorders : Sp := fun vs H Q _ => ∃ (a : Addr) (Ls : List Lw) (now : Int), vs = [.ref a, .int now] ∧ StrandAt H a Ls ∧ Ls.length ≤ 60 ∧ (∀ L ∈ Ls, GoodL L) ∧ ∀ H' o ns, Same H H' → H o = none → H' o = some (.lst (ns.map V.int)) → Borders Ls now ns → Q (.ref o) H'
def spFirstThin : Sp := fun vs H Q _ => ∃ (a : Addr) (Ls : List Lw) (low now : Int), vs = [.ref a, .int low, .int now] ∧ StrandAt H a Ls ∧ Ls.length ≤ 60 ∧ (∀ L ∈ Ls, GoodL L) ∧ 1 ≤ low ∧ ∀ H' m, Same H H' → IsFirst Ls low now m → Q (.int m) H'
theorem laid_ahead {W : Wi} {m p : Int} (h : p < m) : thickL (laidOf W m) p = 0 := by
  unfold thickL
  rw [if_pos (show p < (laidOf W m).pl from h)]
theorem laidAll_snoc : ∀ (Ws : List Wi) (ms : List Int) (W : Wi) (m : Int), Ws.length = ms.length → laidAll (Ws ++ [W]) (ms ++ [m]) = laidAll Ws ms ++ [laidOf W m]
  | [], [], W, m, _ => rfl
  | V :: r, n :: s, W, m, h => congrArg (laidOf V n :: ·) (laidAll_snoc r s W m (Nat.succ.inj h))
  | [], _ :: _, _, _, h => by cases h
  | _ :: _, [], _, _, h => by cases h
theorem thickS_app (As Bs : List Lw) (p : Int) : thickS (As ++ Bs) p = thickS As p + thickS Bs p := by
  unfold thickS
  rw [List.map_append, List.sum_append]
theorem thickS_one (L : Lw) (p : Int) : thickS [L] p = thickL L p := by
  unfold thickS
  simp
def spLate : Sp := fun vs H Q _ => ∃ (a c : Addr) (low now : Int) (as : List Addr) (Ws : List Wi) (Ls : List Lw), vs = [.ref a, .int low, .ref c, .int now] ∧ H a = some (.tup (as.map V.ref)) ∧ RowAt H as Ws ∧ StrandAt H c Ls ∧ From Ls Ws low now ∧
  ∀ H' o t d ms, Same H H' → H' o = some (.tup [.ref t, .ref d]) → H' t = some (.tup (ms.map V.int)) → StrandAt H' d (Ls ++ laidAll Ws ms) → LateP Ls Ws low now ms → (∀ m ∈ ms, 0 ≤ m ∧ m < 2 ^ 125) → Q (.ref o) H'
def DSet (H : Hp) (d : Addr) (n : Nat) (S : Int → Prop) : Prop := ∃ kvs : List (Key × V), H d = some (.dK kvs) ∧ IKN kvs ∧ kvs.length ≤ n ∧ ∀ k, (∃ v, valV kvs (Sum.inl k) = some v) ↔ S k
theorem DSet.put {H : Hp} {d : Addr} {n : Nat} {S S' : Int → Prop} (h : DSet H d n S) (k : Int) (hs : ∀ x, S' x ↔ S x ∨ x = k) : ∃ kvs : List (Key × V), H d = some (.dK kvs) ∧ kvs.length ≤ n ∧ DSet (upd H d (.dK (putK kvs (Sum.inl k) (.bl true)))) d (n + 1) S' := by
  obtain ⟨kvs, h1, h2, h3, h4⟩ := h
  refine ⟨kvs, h1, h3, _, upd_same, h2.put k _, Nat.le_trans (length_putK _ _ _) (Nat.succ_le_succ h3), fun x => ?_⟩
  rw [hs, ← h4, valV_put]
  by_cases e : x = k
  · rw [if_pos (by rw [e])]
    exact ⟨fun _ => .inr e, fun _ => ⟨_, rfl⟩⟩
  · rw [if_neg (fun z => e (Sum.inl.inj z))]
    exact ⟨.inl, fun z => z.resolve_right e⟩
theorem DSet.congr {H : Hp} {d : Addr} {n m : Nat} {S S' : Int → Prop} (h : DSet H d n S) (hn : n ≤ m) (hs : ∀ x, S' x ↔ S x) : DSet H d m S' := by
  obtain ⟨kvs, h1, h2, h3, h4⟩ := h
  exact ⟨kvs, h1, h2, Nat.le_trans h3 hn, fun x => by rw [hs, h4]⟩
/-! ### the law of rows drawn late -/
def spLaidSome : Sp := fun vs H Q _ => ∃ (p : Addr) (T : Nat) (sty : Int) (gr : Bool), vs = [.ref p, .int sty, .bl gr] ∧ PotC H p T ∧ T < 2 ^ 36 ∧ 0 ≤ sty ∧ sty < 3 ∧
  ∀ H' c Ls, StrandAt H' c Ls → Ls.length ≤ 30 → (∀ L ∈ Ls, GoodL L) → (∀ L ∈ Ls, lastOf L ≤ 2 ^ 115) → PotC H' p (T + 4000) → Keep p p H H' → Q (.ref c) H'
/-- a list of the places and the place at last -/
def AnsAt (H : Hp) (o : Addr) (ms : List Int) (m : Int) : Prop := ∃ t, H o = some (.lst [.ref t, .int m]) ∧ H t = some (.tup (ms.map V.int))
def spDue22 : Sp := fun vs H Q _ => ∃ (a c : Addr) (low now : Int) (as : List Addr) (Ws : List Wi) (Ls : List Lw), vs = [.ref a, .int low, .ref c, .int now] ∧ H a = some (.tup (as.map V.ref)) ∧ RowAt H as Ws ∧ StrandAt H c Ls ∧ From Ls Ws low now ∧
  ∀ H' o ms m, Same H H' → H o = none → AnsAt H' o ms m → LateP Ls Ws low now ms → IsFirst (Ls ++ laidAll Ws ms) low now m → Q (.ref o) H'
def WayOk (way : Int) (Ls : List Lw) (now : Int) : Prop := (way = 0 ∧ Ls = [] ∧ now = 0) ∨ (way = 1 ∧ now = 0) ∨ way = 2 ∨ (way = 3 ∧ Ls = [])
def spTold22 : Sp := fun vs H Q _ => ∃ (a c : Addr) (low now way : Int) (as : List Addr) (Ws : List Wi) (Ls : List Lw), vs = [.ref a, .int low, .ref c, .int now, .int way] ∧ H a = some (.tup (as.map V.ref)) ∧ RowAt H as Ws ∧ StrandAt H c Ls ∧ From Ls Ws low now ∧ WayOk way Ls now ∧
  ∀ H' o ms m, Same H H' → AnsAt H' o ms m → LateP Ls Ws low now ms → IsFirst (Ls ++ laidAll Ws ms) low now m → Q (.ref o) H'
def spSame22 : Sp := fun vs H Q _ => ∃ (o o2 : Addr) (ms : List Int) (m : Int), vs = [.ref o, .ref o2] ∧ AnsAt H o ms m ∧ AnsAt H o2 ms m ∧ ms.length ≤ 60 ∧ ∀ H', Same H H' → Q (.bl true) H'
theorem AnsAt.same {H H' : Hp} {o : Addr} {ms : List Int} {m : Int} (h : AnsAt H o ms m) (s : Same H H') : AnsAt H' o ms m := by
  obtain ⟨t, h1, h2⟩ := h
  exact ⟨t, s _ _ h1, s _ _ h2⟩
theorem ints_d1' (ns : List Int) : (PyData.tuple (ns.map PyData.int)).depth ≤ 1 := by
  show PyData.depthAll (ns.map PyData.int) + 1 ≤ 1
  have : PyData.depthAll (ns.map PyData.int) ≤ 0 := depth_all fun x hx => by
    obtain ⟨n, _, rfl⟩ := List.mem_map.mp hx
    exact Nat.le_refl _
  omega
def LotAt (p R : Addr) (low : Int) (H : Hp) (e : Addr) : Prop := ∃ (r c o : Addr) (now way : Int) (as : List Addr) (Ws : List Wi) (Ls : List Lw) (ms : List Int) (m : Int), H e = some (.tup [.ref r, .ref c, .int now, .int way, .ref o]) ∧ H r = some (.tup (as.map V.ref)) ∧ RowAt H as Ws ∧ StrandAt H c Ls ∧ From Ls Ws low now ∧ WayOk way Ls now ∧ AnsAt H o ms m ∧ LateP Ls Ws low now ms ∧ IsFirst (Ls ++ laidAll Ws ms) low now m ∧ o ≠ p ∧ o ≠ R
theorem LotAt.go {p R : Addr} {low : Int} {H H' : Hp} {e : Addr} (h : LotAt p R low H e) (t : Tups H H') (k : ∀ o xs, o ≠ p → o ≠ R → H o = some (.lst xs) → H' o = some (.lst xs)) : LotAt p R low H' e := by
  obtain ⟨r, c, o, now, way, as, Ws, Ls, ms, m, h1, h2, h3, h4, h5, h6, ⟨u, h7, h7'⟩, h8, h9, h10, h11⟩ := h
  exact ⟨r, c, o, now, way, as, Ws, Ls, ms, m, t _ _ h1, t _ _ h2, h3.mono t, h4.mono t, h5, h6, ⟨u, k _ _ h10 h11 h7, t _ _ h7'⟩, h8, h9, h10, h11⟩
theorem LotAt.same {p R : Addr} {low : Int} {H H' : Hp} {e : Addr} (h : LotAt p R low H e) (s : Same H H') : LotAt p R low H' e := h.go (Tups.same s) fun o xs _ _ e => s _ _ e
theorem LotAt.keep {p R : Addr} {low : Int} {H H' : Hp} {e : Addr} {T : Nat} (h : LotAt p R low H e) (k : Keep p p H H') (hp : PotC H p T) : LotAt p R low H' e := h.go (k.tupsC hp) fun o xs n1 _ e => k.at n1 e
theorem LotAt.put {p R : Addr} {low : Int} {H : Hp} {e : Addr} {xs : List V} {v : HO} (h : LotAt p R low H e) (eR : H R = some (.lst xs)) : LotAt p R low (upd H R v) e := h.go (Tups.ls eR) fun o ys _ n2 e => (upd_ne n2).trans e
theorem RowAt.snoc {H : Hp} {as : List Addr} {Ws : List Wi} {a : Addr} {W : Wi} (h : RowAt H as Ws) (w : WispAt H a W.1 W.2) : RowAt H (as ++ [a]) (Ws ++ [W]) := by
  refine ⟨by rw [List.length_append, List.length_append, h.1]; rfl, fun i b hb => ?_⟩
  by_cases hi : i < as.length
  · rw [List.getElem?_append_left hi] at hb
    obtain ⟨V, h1, h2⟩ := h.2 i b hb
    exact ⟨V, by rw [List.getElem?_append_left (by rw [← h.1]; exact hi)]; exact h1, h2⟩
  · rw [List.getElem?_append_right (by omega)] at hb
    have hz : i - as.length = 0 := by
      cases hk : i - as.length with
      | zero => rfl
      | succ n =>
        rw [hk] at hb
        simp at hb
    rw [hz] at hb
    have : a = b := Option.some.inj hb
    subst this
    exact ⟨W, by rw [List.getElem?_append_right (by rw [← h.1]; omega), ← h.1, hz]; rfl, w⟩
theorem RowAt.nil {H : Hp} : RowAt H [] [] := ⟨rfl, fun i a e => by simp at e⟩
theorem From.empty {Ls : List Lw} {Ws : List Wi} {low now : Int} (h : From Ls Ws low now) : From [] Ws low now := ⟨by have := h.few; show 0 + Ws.length ≤ 60; omega, (fun L hL => by cases hL), h.gw, h.l1, h.n0, h.n1, fun L hL => by cases hL⟩
theorem From.zero {Ls : List Lw} {Ws : List Wi} {low now : Int} (h : From Ls Ws low now) : From Ls Ws low 0 := ⟨h.few, h.gl, h.gw, h.l1, Int.le_refl _, by decide, h.b⟩
def GoneAt (Ws : List Wi) (low : Int) (H : Hp) (t : Addr) : Prop := ∃ (way begun : Int) (c : Addr) (Ls : List Lw), H t = some (.tup [.int way, .ref c, .int begun]) ∧ StrandAt H c Ls ∧ WayOk way Ls begun ∧ From Ls Ws low begun
theorem GoneAt.mono {Ws : List Wi} {low : Int} {H H' : Hp} {t : Addr} (h : GoneAt Ws low H t) (u : Tups H H') : GoneAt Ws low H' t := by
  obtain ⟨way, begun, c, Ls, h1, h2, h3⟩ := h
  exact ⟨way, begun, c, Ls, u _ _ h1, h2.mono u, h3⟩
/-! ### sorted(set(xs)), xs a list of whole numbers -/
abbrev noneYet (w : World) : Obj := { cls := .type "set", dict := none, data := .set #[] 0 (.fresh 0 0 (!w.params.followText "set-order")) }
section
variable {P : Program} {w : World} {A : Around} {E : Value → Shared → Prop} {s : Shared}
set_option maxRecDepth 100000 in
set_option maxHeartbeats 3200000 in
theorem setOfList {x : Addr} {vals : Array Value} (ks : List Int) {Q : Value → Shared → Prop} (nh : A.handled = none) (hx : s.heap.IsList x vals) (hv : IntsAre vals.toList ks) (few : ks.length + 1 < scanBound)
    (fin : ∀ (g : Heap) (tk c : Nat), SetR w g s.heap.objs.size (fun j => decide (j ∈ ks)) c → c ≤ ks.length → (∀ b o, s.heap.get? b = some o → g.get? b = some o) → Q (.ref s.heap.objs.size) { s with heap := g, toks := tk }) :
    wpAny (model P w) A (call (.type "set") [.ref x]) Q E s := by
  have vsz : vals.size = ks.length := (Array.length_toList (xs := vals)).symm.trans (IntsAre.length hv)
  obtain ⟨mc, mt, mro⟩ := F.called_set.mro
  have md := F.called_set.made
  have sb := F.called_set.sub
  refine wpAny_call (codeAny_of_tree ?_)
  show wpAny _ _ (callAny (.type "set") _) _ _ _
  refine wpAny_pure ⟨Code.quiet_builtin _ (by decide +kernel), codeAny_builtin F.entry_type_call ?_⟩
  rw [Around.under_plain (weight_type_call_type "set" [.ref x] []) rfl]
  have f1 := F.called_set.notType
  have f2 := F.called_set.canCreate
  have f3 := F.typeCall_set_1 (.ref x)
  repeat (any_goals (first | assumption | wp_step))
  refine codeAny_mono (code_set_led1 (.ref x) (E := E) (Q₁ := fun ob t => ob = .ref s.heap.objs.size ∧ t = { s with heap := s.heap.push (noneYet w) }) ⟨rfl, rfl⟩) fun r t hr => ?_
  rcases r with e | fl
  · exact hr
  cases fl with
  | ret ob =>
    obtain ⟨rfl, rfl⟩ := hr
    have g0 : (s.heap.push (noneYet w)).get? s.heap.objs.size = some (noneYet w) := Heap.get?_push_size _ rfl
    have ty : Shared.TypeIs { s with heap := s.heap.push (noneYet w) } (.ref s.heap.objs.size) "set" := ⟨_, g0, rfl⟩
    have i1 := F.called_set.init.lookup
    have i2 := F.called_set.init.bind (.ref s.heap.objs.size)
    repeat (any_goals (first | assumption | wp_step))
    refine codeAny_mono (codeAny_call_builtin (R := wants (fun r t => r = .none ∧ ∃ g tk c, t = { s with heap := g, toks := tk } ∧ SetR w g s.heap.objs.size (fun j => decide (j ∈ ks)) c ∧ c ≤ ks.length ∧
        (∀ b o, s.heap.get? b = some o → g.get? b = some o)) E) F.called_set.init.plain F.entry_set_init (check_set_init_1 ty ?_)) fun r2 t2 hr2 => ?_
    · obtain ⟨ob, gx, cx, nx, dx⟩ := hx
      obtain ⟨bc, bd, bt, bs⟩ := ob
      simp only at cx dx
      subst cx; subst dx
      have gx' : (s.heap.push (noneYet w)).get? x = some { cls := .type "list", dict := bd, data := .seq vals nx, slots := bs } := Heap.get?_push_of_some _ gx
      have n1 := F.sub_list_set
      have n2 := F.sub_list_frozenset
      have n3 : (Value.type "list" == Value.type "dict") = false := by decide
      have hx1 : (s.heap.push (noneYet w)).IsList x vals := ⟨_, gx', rfl, nx, rfl⟩
      unfold Builtin.«set.__init__» noKeywords Builtin.Frozenset.updateFrom
      generalize hq : pyIter = PI
      wp_walk
      subst hq
      refine wpAny_pyIter_list hx1 (wpAny_bind (wpAny_runValue ?_))
      have lx : x < s.heap.objs.size := Heap.lt_size gx
      have nh3 : A.in1.in1.in1.handled = none := by simp [nh]
      have sz : (s.heap.push (noneYet w)).objs.size = s.heap.objs.size + 1 := Heap.size_push ..
      have ne1 : x ≠ (s.heap.push (noneYet w)).objs.size := by
        rw [sz]
        exact Nat.ne_of_lt (Nat.lt_succ_of_lt lx)
      have out : s.heap.objs.size ∉ [(s.heap.push (noneYet w)).objs.size, x] := by
        rw [sz]
        intro z
        rcases List.mem_cons.mp z with z | z
        · exact absurd z (Nat.ne_of_lt (Nat.lt_succ_self _))
        · exact absurd (List.mem_singleton.mp z) (Nat.ne_of_gt lx)
      have at' : ∀ (i : Nat) (v : Value), vals[i]? = some v → ∃ k t, ks[i]? = some k ∧ v = .int k t := fun i v h => by
        have li : i < ks.length := vsz ▸ (Array.getElem?_eq_some_iff.mp h).1
        obtain ⟨t, e⟩ := IntsAre.int_at hv i v (by rw [Array.getElem?_toList]; exact h)
        exact ⟨ks[i], t, List.getElem?_eq_getElem li, by rw [e, List.getD_eq_getElem?_getD, List.getElem?_eq_getElem li] <;> rfl⟩
      refine set_update_ints ((Walks.list nh3 _ x ne1 vals).toS) s.heap.objs.size out ks vsz few at' (vals.size - 0) 0 _ (by omega) (Nat.zero_le _)
        ⟨⟨_, Heap.get?_push_size _ rfl, rfl, rfl⟩, (hx1.push _)⟩ ⟨0, Nat.le_refl 0, setR_new_at (Heap.get?_push_of_some _ g0)⟩ fun t' c' mv lc r' => ?_
      obtain ⟨g, gs, dr, tk, os⟩ := t'
      have e1 : gs = s.gens := mv.gens
      have e2 : dr = s.drawn := mv.drawn
      have e3 : os = s.os := mv.os
      subst e1; subst e2; subst e3
      show wpAny _ _ _ _ _ _
      refine wpAny_pure ?_
      show wpAny _ _ (ret Value.none) _ _ _
      refine wpAny_pure ⟨rfl, g, tk, c', rfl, r', vsz ▸ lc, fun b o e => ?_⟩
      have lb : b < s.heap.objs.size := Heap.lt_size e
      refine mv.heap b o (fun z => ?_) (Heap.get?_push_of_some _ (Heap.get?_push_of_some _ e))
      rcases List.mem_cons.mp z with z | z
      · exact absurd z (Nat.ne_of_lt lb)
      · have z := List.mem_singleton.mp z
        rw [sz] at z
        exact absurd z (Nat.ne_of_lt (Nat.lt_succ_of_lt lb))
    · rcases r2 with e | fl2
      · exact hr2
      cases fl2 with
      | ret r =>
        obtain ⟨rfl, g, tk, c', rfl, r', lc, kp⟩ := hr2
        repeat (any_goals (first | assumption | wp_step))
        exact fin _ _ _ r' lc kp
      | _ => exact hr2.elim
  | _ => exact hr.elim
theorem setInOrder {a : Addr} {S : Int → Bool} {n : Nat} {Q : Value → Shared → Prop} (R : SetR w s.heap a S n) (nh : A.handled = none) (few : n ≤ sizeLine)
    (fin : ∀ t p (out : Array Value) (c : Nat) (ks : List Int), (∀ b o, s.heap.get? b = some o → t.heap.get? b = some o) → t.gens = s.gens → t.os = s.os → s.heap.objs.size ≤ p →
      t.heap.get? p = some (seqObj "list" out c) → IntsAre out.toList ks → ks.Pairwise (· < ·) → (∀ k, k ∈ ks ↔ S k = true) → ks.length = n → Q (.ref p) t) :
    wpAny (model P w) A (call (.builtin "sorted") [.ref a]) Q E s := by
  obtain ⟨o, es, ep, tb, ho, ex, da, gd, nd, mm, bo, ft, en, ri, ld⟩ := R
  refine Calls.call_function_entry kind_sorted plain_sorted entry_sorted (args_sorted1 _) ?_
  unfold Builtin.«sorted»
  refine wpAny_bind (m := checkCount "sorted" 1 1 _) (wpAny_pure ?_)
  refine wpAny_bind (collect_set (A := A.in1) nh ⟨o, ho, ex.1, da⟩ ft bo ri ld fun s1 vs k1 z1 g1 o1 pm => ?_)
  have lv : vs.length = n := by
    rw [pm.length_eq, List.length_map, Array.length_toList]
    exact en
  have iv : IntsAre vs (vs.map Builtin.Re.reRawOf) := ints_of vs fun v hv => by
    obtain ⟨e, he, rfl⟩ := List.mem_map.mp (pm.mem_iff.mp hv)
    obtain ⟨k, tk, q, _⟩ := gd e he
    exact ⟨k, tk, q⟩
  have pk : (vs.map Builtin.Re.reRawOf).Perm (es.toList.map keyOf) := (List.map_map (l := es.toList) ▸ pm.map Builtin.Re.reRawOf :)
  refine wpAny_bind (wpAny_newList ?_ (by rw [lv]; exact few))
  have at1 : (s1.heap.push (seqObj "list" vs.toArray 0)).get? s1.heap.objs.size = some (seqObj "list" vs.toArray 0) := Heap.get?_push_size _ rfl
  refine wpAny_bind (wpAny_holding (wpAny_call_entry slot_list_sort ⟨_, at1, rfl⟩ entry_list_sort (list_sort_treeAny at1 iv (by rw [lv]; exact few) fun out ks a1 a2 a3 => ⟨_, rfl, ?_⟩) (args_list_sort _)))
  obtain ⟨c, hc⟩ := sortedHeap_at (vs := vs) (out := out) at1
  have pn := a2.trans pk
  refine wpAny_pure ⟨_, rfl, fin _ s1.heap.objs.size out c ks (fun b u e => ?_) g1 o1 z1 hc a1 (lt_of_le_nodup ks a3 (pn.nodup_iff.mpr nd)) (fun k => by rw [pn.mem_iff, ← mm k]) (by rw [pn.length_eq, List.length_map, Array.length_toList]; exact en)⟩
  have q := k1 b u e
  have lb := Heap.lt_size q
  show (sortedHeap (s1.heap.push (seqObj "list" vs.toArray 0)) s1.heap.objs.size vs out).get? b = some u
  rw [sortedHeap_old (Nat.ne_of_lt lb) (by rw [size_push']; exact Nat.lt_succ_of_lt lb)]
  exact Heap.get?_push_of_some _ q
end
section
variable {X : Cx}
def tInOrder (K : PySem.W.Frag) (ta : TE) : TE := fun σ H Q => ta σ H fun x H1 => ∃ (l : Addr) (ns : List Int), x = V.ref l ∧ SqL K H1 l (ns.map V.int) ∧ ns.length < 4000 ∧
  ∀ (ks : List Int) (p : Addr), ks.Pairwise (· < ·) → (∀ k, k ∈ ks ↔ k ∈ ns) → ks.length ≤ ns.length → H1 p = none → Q (.ref p) (upd H1 p (.lst (ks.map V.int)))
theorem pe_inOrder {a : Expr} {ta : TE} {p p2 q pos : Pos} (hc : X.calm = true) (g1 : Gl X "sorted") (m1 : X.mg "sorted" = none) (g2 : Gl X "set") (m2 : X.mg "set" = none) (ha : PE X a ta)
    (na : starEach [a] X.env = (false, eval a X.env) :: starEach [] X.env := by rfl) : PE X (.Call (.Name "sorted" p) [.Call (.Name "set" p2) [a] [] q] [] pos) (tInOrder X.K ta) := by
  refine ⟨fun pins s σ H Q I h => ?_⟩
  refine Call_ (ld_blt I g1 m1 boot_sorted ?_)
  refine callWith_builtin1 (args_cons ?_ rfl) rfl rfl
  refine Call_ (ld_blt I g2 m2 PyProof.Rows.boot_set ?_)
  refine callWith_type1 (args_cons (thn (ha.run pins s σ H _ I h) fun v s1 ⟨x, H1, I1, r1, q1⟩ => args_nil ?_) na) na rfl
  obtain ⟨l, ns, rfl, hq, few, q1⟩ := q1
  cases r1
  obtain ⟨its, r, pl, hz⟩ := I1.list hq
  refine setOfList ns (I1.ok.hd hc) pl.isList (by simpa using r.ints) (by unfold scanBound; omega) fun g tk c R lc kp => args_nil ?_
  have I2 : Inv X pins σ H1 { s1 with heap := g, toks := tk } := I1.kept kp
  refine setInOrder R (I1.ok.hd hc) (by rw [sizeLine_eq]; omega) fun t p2 out c2 ks k eg eo lp hp ik pw mm lk => ?_
  have fr : H1 p2 = none := I2.hok.fresh lp
  have hl : (ks.map V.int).length ≤ sizeLine := by
    rw [List.length_map, sizeLine_eq]
    omega
  have J : Inv X pins σ (upd H1 p2 (.lst (ks.map V.int))) { ({ s1 with heap := g, toks := tk } : Shared) with heap := t.heap, gens := t.gens, drawn := t.drawn, toks := t.toks } :=
    I2.call (ch := []) (Un.laid k lp fr) (I2.hok.laid k lp ⟨hl, out.toList, c2, vals_of_ints ik, hp⟩) (by rw [eg]; exact I2.bare) (fun _ z => nomatch z)
  have e : t = { s1 with heap := t.heap, gens := t.gens, drawn := t.drawn, toks := t.toks } := by
    cases t
    cases s1
    cases eo
    rfl
  rw [e]
  exact ⟨.ref p2, _, J, rfl, q1 ks p2 pw (fun k => by rw [mm k]; exact decide_eq_true_iff) (by rw [lk]; exact lc) fr⟩
end
/-! ### a pot: the great numbers at hand, the seed, how many were drawn -/
def PotD (H : Hp) (p l : Addr) (T : Nat) : Prop := ∃ (ns : List Int) (m : Int) (t : Nat), H p = some (.lst [.ref l, .int m, .int (t : Int)]) ∧ H l = some (.lst (ns.map V.int)) ∧ (∀ n ∈ ns, 0 ≤ n) ∧ 0 ≤ m ∧ m < 2 ^ 62 ∧ t ≤ T ∧ ns.length ≤ 63
theorem PotD.ne {H : Hp} {p l : Addr} {T : Nat} (h : PotD H p l T) : p ≠ l := by
  obtain ⟨ns, m, t, h1, h2, _⟩ := h
  intro e
  rw [e, h2] at h1
  cases ns with
  | nil => exact absurd h1 (by intro z; cases z)
  | cons n r => exact absurd h1 (by intro z; cases z)
theorem PotD.mono {H : Hp} {p l : Addr} {T U : Nat} (h : PotD H p l T) (e : T ≤ U) : PotD H p l U := by
  obtain ⟨ns, m, t, h1, h2, h3, h4, h5, h6, h7⟩ := h
  exact ⟨ns, m, t, h1, h2, h3, h4, h5, Nat.le_trans h6 e, h7⟩
theorem PotD.new {H : Hp} {p l a : Addr} {T : Nat} {o : HO} (h : PotD H p l T) (n : H a = none) : PotD (upd H a o) p l T := by
  obtain ⟨ns, m, t, h1, h2, h3⟩ := h
  exact ⟨ns, m, t, by rw [upd_ne (ne_of_none h1 n)]; exact h1, by rw [upd_ne (ne_of_none h2 n)]; exact h2, h3⟩
theorem PotD.other {H : Hp} {p l a : Addr} {T : Nat} {o : HO} (h : PotD H p l T) (n1 : a ≠ p) (n2 : a ≠ l) : PotD (upd H a o) p l T := by
  obtain ⟨ns, m, t, h1, h2, h3⟩ := h
  exact ⟨ns, m, t, by rw [upd_ne n1.symm]; exact h1, by rw [upd_ne n2.symm]; exact h2, h3⟩
theorem PotD.same {H H' : Hp} {p l : Addr} {T : Nat} (h : PotD H p l T) (e : Same H H') : PotD H' p l T := by
  obtain ⟨ns, m, t, h1, h2, h3⟩ := h
  exact ⟨ns, m, t, e _ _ h1, e _ _ h2, h3⟩
theorem PotD.notP {H : Hp} {p l a : Addr} {T : Nat} {xs : List V} (h : PotD H p l T) (e : H a = some (.tup xs)) : a ≠ p ∧ a ≠ l := by
  obtain ⟨ns, m, t, h1, h2, h3⟩ := h
  exact ⟨ne_of e h1 (by intro z; cases z), ne_of e h2 (by intro z; cases z)⟩
theorem PotD.fresh {H : Hp} {p l a : Addr} {T : Nat} (h : PotD H p l T) (e : H a = none) : a ≠ p ∧ a ≠ l := by
  obtain ⟨ns, m, t, h1, h2, h3⟩ := h
  exact ⟨(ne_of_none h1 e).symm, (ne_of_none h2 e).symm⟩
theorem Keep.tupsD {p l : Addr} {H H' : Hp} {T : Nat} (k : Keep p l H H') (h : PotD H p l T) : Tups H H' := fun a xs e => k a _ (h.notP e).1 (h.notP e).2 e
theorem Keep.freeD {p l a : Addr} {H H' : Hp} {T : Nat} (k : Keep p l H H') (hp : PotD H' p l T) (h : H' a = none) : H a = none := by
  obtain ⟨n1, n2⟩ := hp.fresh h
  cases q : H a with
  | none => rfl
  | some o =>
    rw [k a o n1 n2 q] at h
    cases h
theorem Keep.atD {p l a : Addr} {H H' : Hp} {o : HO} (k : Keep p l H H') (n : a ≠ p ∧ a ≠ l) (e : H a = some o) : H' a = some o := k a o n.1 n.2 e
theorem Keep.sameD {p l : Addr} {H H1 H2 : Hp} (k : Keep p l H H1) (s : Same H1 H2) : Keep p l H H2 := fun a o n1 n2 e => s a o (k a o n1 n2 e)
def spBeginD (K : PySem.W.Frag) : Sp := fun vs H Q _ => ∃ (a : Addr) (ns : List Int), vs = [.ref a] ∧ SqL K H a (ns.map V.int) ∧ ns.length ≤ 63 ∧
  ∀ H' p l, Same H H' → H p = none → H l = none → PotD H' p l 0 → Q (.ref p) H'
def spTakeD : Sp := fun vs H Q _ => ∃ (p l : Addr) (T : Nat) (many : Int), vs = [.ref p, .int many] ∧ PotD H p l T ∧ T < 2 ^ 40 ∧ CDivW 0 many ∧
  ∀ d H', 0 ≤ d → d < many → PotD H' p l (T + 1) → Keep p l H H' → Q (.int d) H'
def spOfD : Sp := fun vs H Q _ => ∃ (p l : Addr) (T : Nat) (a : Addr) (xs : List V), vs = [.ref p, .ref a] ∧ PotD H p l T ∧ T < 2 ^ 39 ∧ H a = some (.lst xs) ∧ a ≠ p ∧ a ≠ l ∧ 1 ≤ xs.length ∧ xs.length ≤ 1000 ∧
  ∀ H' (j : Nat) x, xs[j]? = some x → PotD H' p l (T + 1) → Keep p l H H' → Q x H'
/-- the wisps drawn here -/
def GoodP (ps : List (Int × Int)) : Prop := 1 ≤ ps.length ∧ ps.length ≤ 8 ∧ ∀ p ∈ ps, 1 ≤ p.1 ∧ p.1 < 2 ^ 130 ∧ 1 ≤ p.2 ∧ p.2 < 2 ^ 126
theorem GoodP.good {ps : List (Int × Int)} (h : GoodP ps) : Good ps := ⟨h.1, Nat.le_trans h.2.1 (by decide), fun p hp => by
  obtain ⟨h1, h2, h3, h4⟩ := h.2.2 p hp
  exact ⟨h1, by omega, h3, by omega⟩⟩
def spOneWisp : Sp := fun vs H Q _ => ∃ (p l : Addr) (T : Nat) (unit span most : Int), vs = [.ref p, .int unit, .int span, .int most] ∧ PotD H p l T ∧ T < 2 ^ 38 ∧ 1 ≤ unit ∧ unit ≤ 10 ^ 37 + 7 ∧ 1 ≤ span ∧ span ≤ 10 ^ 37 + 1 ∧ 1 ≤ most ∧ most ≤ 8 ∧
  ∀ H' a s ps, PotD H' p l (T + 50) → Keep p l H H' → WispAt H' a s ps → 0 ≤ s → s ≤ 1 → GoodP ps → Falls ps → H a = none → Q (.ref a) H'
def GoodD (B : Int) (L : Lw) : Prop := GoodP L.ps ∧ 0 ≤ L.so ∧ L.so ≤ 1 ∧ 0 ≤ L.pl ∧ L.pl < 2 ^ 127 ∧ Falls L.ps ∧ ∀ n, L.le = some n → L.pl < n ∧ n < B
theorem GoodD.good {B : Int} {L : Lw} (h : GoodD B L) (hB : B ≤ 2 ^ 140) : GoodL L := ⟨h.1.good, h.2.1, h.2.2.1, h.2.2.2.1, by have := h.2.2.2.2.1; omega, fun n e => by
  obtain ⟨h1, h2⟩ := h.2.2.2.2.2.2 n e
  exact ⟨h1, by omega⟩⟩
def spLaidOnes : Sp := fun vs H Q _ => ∃ (p l : Addr) (T : Nat) (many most : Int), vs = [.ref p, .int many, .int most] ∧ PotD H p l T ∧ T < 2 ^ 37 ∧ 0 ≤ many ∧ many ≤ 60 ∧ 1 ≤ most ∧ most ≤ 8 ∧
  ∀ H' a Ls, PotD H' p l (T + 4000) → Keep p l H H' → StrandAt H' a Ls → (Ls.length : Int) = many → (∀ L ∈ Ls, GoodD (2 ^ 131) L) → H a = none → Q (.ref a) H'
def Edges (Ls : List Lw) (ns : List Int) : Prop := ns.Pairwise (· < ·) ∧ (∀ k, k ∈ ns ↔ BKey Ls 0 k) ∧ ns.length ≤ 900
def spEdges : Sp := fun vs H Q _ => ∃ (a : Addr) (Ls : List Lw), vs = [.ref a] ∧ StrandAt H a Ls ∧ Ls.length ≤ 60 ∧ (∀ L ∈ Ls, L.ps.length ≤ 10) ∧
  ∀ H' o ns, Same H H' → H o = none → H' o = some (.lst (ns.map V.int)) → Edges Ls ns → Q (.ref o) H'
def spPlace : Sp := fun vs H Q _ => ∃ (p l : Addr) (T : Nat) (a : Addr) (Ls : List Lw) (B : Int), vs = [.ref p, .ref a] ∧ PotD H p l T ∧ T < 2 ^ 38 ∧ StrandAt H a Ls ∧ Ls.length ≤ 60 ∧ 2 ^ 131 ≤ B ∧ (∀ L ∈ Ls, GoodD B L) ∧
  ∀ H' m, 0 ≤ m → m < B + 2 → PotD H' p l (T + 2) → Keep p l H H' → Q (.int m) H'
theorem longsP_le : ∀ ps : List (Int × Int), (∀ p ∈ ps, 1 ≤ p.2 ∧ p.2 < 2 ^ 126) → 0 ≤ longs ps ∧ longs ps ≤ 2 ^ 126 * ps.length
  | [], _ => ⟨Int.le_refl _, by simp [longs]⟩
  | (t, g) :: r, h => by
    have h1 := h (t, g) (by simp)
    have h2 := longsP_le r fun x hx => h x (by simp [hx])
    rw [longs_cons, List.length_cons]
    have e : ((r.length + 1 : Nat) : Int) = (r.length : Int) + 1 := by omega
    rw [e, Int.mul_add]
    have hg : 1 ≤ g ∧ g < 2 ^ 126 := h1
    omega
theorem keyD_le {B : Int} {Ls : List Lw} (hB : 2 ^ 131 ≤ B) (h : ∀ L ∈ Ls, GoodD B L) {k : Int} (hk : BKey Ls 0 k) : 0 ≤ k ∧ k < B := by
  rcases hk with rfl | ⟨L, hL, hk⟩
  · exact ⟨by decide, by omega⟩
  · have g := h L hL
    have g4 := g.2.2.2.1
    have g5 := g.2.2.2.2.1
    rcases hk with rfl | hk | ⟨j, hj, rfl⟩
    · exact ⟨g4, by omega⟩
    · have := g.2.2.2.2.2.2 k hk
      exact ⟨by omega, this.2⟩
    · have hl := longsP_le (L.ps.take (j + 1)) fun x hx => ⟨(g.1.2.2 x (List.mem_of_mem_take hx)).2.2.1, (g.1.2.2 x (List.mem_of_mem_take hx)).2.2.2⟩
      have h8 : (L.ps.take (j + 1)).length ≤ 8 := by
        rw [List.length_take]
        have := g.1.2.1
        omega
      generalize longs (L.ps.take (j + 1)) = z at hl
      have : 2 ^ 126 * ((L.ps.take (j + 1)).length : Int) ≤ 2 ^ 126 * 8 := Int.mul_le_mul_of_nonneg_left (by omega) (by decide)
      omega
theorem five {u e : Int} (h1 : 1 ≤ u) (e0 : 0 ≤ e) (e1 : e < 5) : u ≤ u * (1 + e) ∧ u * (1 + e) ≤ 5 * u := by
  have h : e = 0 ∨ e = 1 ∨ e = 2 ∨ e = 3 ∨ e = 4 := by omega
  rcases h with rfl | rfl | rfl | rfl | rfl <;> omega
theorem none1 {d : Int} {b : Bool} (d0 : 0 ≤ d) (d1 : d < 2) : 0 ≤ d * (if b = true then (1 : Int) else 0) ∧ d * (if b = true then (1 : Int) else 0) ≤ 1 := by
  cases b
  · show 0 ≤ d * 0 ∧ d * 0 ≤ 1
    omega
  · show 0 ≤ d * 1 ∧ d * 1 ≤ 1
    omega
theorem timesI {u e n : Int} (h : 0 ≤ u) (e0 : 0 ≤ e) (e1 : e ≤ n) : 0 ≤ u * e ∧ u * e ≤ u * n := ⟨Int.mul_nonneg h e0, Int.mul_le_mul_of_nonneg_left e1 h⟩
theorem letRep (le : Option Int) : (List.replicate ((if (!decide (letV le = V.non)) = true then (1 : Int) else 0)).toNat [letV le]).flatten = le.toList.map V.int := by
  cases le with
  | none => rfl
  | some n =>
    rw [letV_some n]
    rfl
theorem letRep01 (le : Option Int) : 0 ≤ (if (!decide (letV le = V.non)) = true then (1 : Int) else 0) ∧ (if (!decide (letV le = V.non)) = true then (1 : Int) else 0) ≤ 1 := by
  split <;> decide
/-! ### wisps let go -/
def lessI (le : Option Int) (p : Int) : Int := match le with
  | none => p
  | some n => if p < n then p else n
def letL (L : Lw) (p : Int) : Lw := ⟨L.so, L.ps, L.pl, some (lessI L.le p)⟩
theorem letL_thick (L : Lw) (p q : Int) : thickL (letL L p) q = if p ≤ q then 0 else thickL L q := by
  show (if q < L.pl then 0 else if lessI L.le p ≤ q then 0 else thickAt L.ps (q - L.pl)) = if p ≤ q then 0 else thickL L q
  unfold thickL lessI
  cases L.le with
  | none =>
    show (if q < L.pl then 0 else if p ≤ q then 0 else thickAt L.ps (q - L.pl)) = if p ≤ q then 0 else if q < L.pl then 0 else thickAt L.ps (q - L.pl)
    (repeat' split) <;> first | rfl | omega
  | some n =>
    show (if q < L.pl then 0 else if (if p < n then p else n) ≤ q then 0 else thickAt L.ps (q - L.pl)) = if p ≤ q then 0 else if q < L.pl then 0 else if n ≤ q then 0 else thickAt L.ps (q - L.pl)
    (repeat' split) <;> first | rfl | omega
theorem thickS_cons (L : Lw) (Ls : List Lw) (q : Int) : thickS (L :: Ls) q = thickL L q + thickS Ls q := rfl
theorem set_thick : ∀ (Ls : List Lw) (n : Nat) (L M : Lw) (q : Int), Ls[n]? = some L → thickS (Ls.set n M) q = thickS Ls q - thickL L q + thickL M q
  | [], n, L, M, q, h => by simp at h
  | A :: r, 0, L, M, q, h => by
    have e : A = L := Option.some.inj h
    subst e
    show thickS (M :: r) q = thickS (A :: r) q - thickL A q + thickL M q
    rw [thickS_cons, thickS_cons]
    omega
  | A :: r, n + 1, L, M, q, h => by
    have h : r[n]? = some L := h
    show thickS (A :: r.set n M) q = thickS (A :: r) q - thickL L q + thickL M q
    rw [thickS_cons, thickS_cons, set_thick r n L M q h]
    omega
theorem letL_good {B : Int} {L : Lw} (g : GoodD B L) {p : Int} (h : L.pl < p) (hp : p < B) : GoodD B (letL L p) := by
  refine ⟨g.1, g.2.1, g.2.2.1, g.2.2.2.1, g.2.2.2.2.1, g.2.2.2.2.2.1, fun n hn => ?_⟩
  have hn : lessI L.le p = n := Option.some.inj hn
  have gl := g.2.2.2.2.2.2
  show L.pl < n ∧ n < B
  rw [← hn]
  unfold lessI
  cases hle : L.le with
  | none => exact ⟨h, hp⟩
  | some m =>
    have := gl m hle
    show L.pl < (if p < m then p else m) ∧ (if p < m then p else m) < B
    split <;> omega
theorem GoodD.up {B C : Int} {L : Lw} (g : GoodD B L) (h : B ≤ C) : GoodD C L := ⟨g.1, g.2.1, g.2.2.1, g.2.2.2.1, g.2.2.2.2.1, g.2.2.2.2.2.1, fun n hn => by
  have := g.2.2.2.2.2.2 n hn
  exact ⟨this.1, by omega⟩⟩
def spLetBy : Sp := fun vs H Q _ => ∃ (a : Addr) (L : Lw) (p : Int), vs = [.ref a, .int p] ∧ LaidAt H a L ∧ ∀ H' o, Same H H' → H o = none → LaidAt H' o (letL L p) → Q (.ref o) H'
def spLetGo : Sp := fun vs H Q _ => ∃ (a : Addr) (Ls : List Lw) (n : Nat) (p : Int) (L : Lw), vs = [.ref a, .int (n : Int), .int p] ∧ StrandAt H a Ls ∧ Ls.length ≤ 60 ∧ Ls[n]? = some L ∧ ∀ H' o, Same H H' → H o = none → StrandAt H' o (Ls.set n (letL L p)) → Q (.ref o) H'
def spLess : Sp := fun vs H Q _ => ∃ (le : Option Int) (p : Int), vs = [letV le, .int p] ∧ Q (.int (lessI le p)) H
/-! ### places cut -/
def within (a b : Int) (ns : List Int) : List Int := ns.filter fun k => decide (a < k) && decide (k < b)
def cutsOf (a b : Int) (ns : List Int) : List Int := a :: (within a b ns ++ [b])
theorem within_snoc (a b : Int) (ns : List Int) (k : Int) : within a b (ns ++ [k]) = within a b ns ++ (if a < k ∧ k < b then [k] else []) := by
  unfold within
  rw [List.filter_append]
  congr 1
  by_cases h : a < k ∧ k < b
  · rw [if_pos h]
    simp [h.1, h.2]
  · rw [if_neg h]
    simp only [List.filter_cons, List.filter_nil]
    rw [if_neg]
    intro z
    rw [Bool.and_eq_true, decide_eq_true_iff, decide_eq_true_iff] at z
    exact h z
theorem within_mem {a b k : Int} {ns : List Int} (h : k ∈ within a b ns) : k ∈ ns ∧ a < k ∧ k < b := by
  unfold within at h
  obtain ⟨h1, h2⟩ := List.mem_filter.mp h
  rw [Bool.and_eq_true, decide_eq_true_iff, decide_eq_true_iff] at h2
  exact ⟨h1, h2⟩
theorem within_len (a b : Int) (ns : List Int) : (within a b ns).length ≤ ns.length := List.length_filter_le _ _
def spCuts : Sp := fun vs H Q _ => ∃ (c : Addr) (Ls : List Lw) (a b : Int), vs = [.ref c, .int a, .int b] ∧ StrandAt H c Ls ∧ Ls.length ≤ 60 ∧ (∀ L ∈ Ls, L.ps.length ≤ 10) ∧
  ∀ H' o ns, Same H H' → H o = none → Edges Ls ns → H' o = some (.lst ((cutsOf a b ns).map V.int)) → Q (.ref o) H'
/-- all but the last one -/
theorem cut_last (xs : List V) (y : V) : cutV (xs ++ [y]) none (some (-1)) = xs := by
  unfold cutV HT.sIx
  simp
  rw [show (-1 + ((xs.length : Int) + 1)).toNat = xs.length by omega, List.take_left']
  all_goals rfl
def spRight14 : Sp := fun vs H Q _ => ∃ (c : Addr) (Ls : List Lw) (low now m : Int), vs = [.ref c, .int low, .int now, .int m] ∧ StrandAt H c Ls ∧ Ls.length ≤ 60 ∧ (∀ L ∈ Ls, L.ps.length ≤ 10) ∧ IsFirst Ls low now m ∧
  ∀ H', Same H H' → Q (.bl true) H'
/-! ### repr of None, too -/
def rReprO (K : PySem.W.Frag) : List V → Hp → VK → Prop := fun xs H Q => (xs = [.non] ∧ Q (.str "None") H) ∨ rRepr K xs H Q
theorem call_reprO {X : Cx} (gd : X.A.guards = some []) (hu : X.A.units + 64 < cLine) : CallR X (.builtin "repr") (rReprO X.K) := by
  intro pins s σ H xs us Q I va h
  rcases h with ⟨rfl, q⟩ | h
  · obtain ⟨u, rfl, ru⟩ := vals1 va
    cases ru
    have ty : s.TypeIs .none "NoneType" := rfl
    refine call_repr_slot (by omega) ty PySem.F.slot_NoneType_repr.toG ?_
    refine wpAny_call_entry PySem.F.slot_NoneType_repr ty PySem.F.entry_NoneType_repr ?_ (PySem.F.args_NoneType_repr_1 _)
    unfold Builtin.«NoneType.__repr__»
    refine wpAny_bind (m := slotArgs "__repr__" 0 _) (wpAny_pure ?_)
    unfold retStr
    refine wpAny_bind (wpAny_mkStr ?_ (by decide +kernel))
    refine wpAny_pure ⟨_, rfl, _, _, rfl, ?_⟩
    exact ⟨.str "None", H, I.tok _, ⟨_, rfl⟩, q⟩
  · exact call_reprD gd hu pins s σ H xs us Q I va h
/-! ### tiles -/
theorem edge_still {Ls : List Lw} (g : ∀ L ∈ Ls, GoodL L) {c q : Int} (hcq : c ≤ q) (hn : ∀ k, BKey Ls 0 k → k ≤ c ∨ q < k) : thickS Ls q = thickS Ls c := thickS_congr fun L hL => thick_still (g L hL) hcq fun y hy => by
  obtain ⟨h1, h2⟩ := part_lkey (g L hL) hy
  exact ⟨hn _ (.inr ⟨L, hL, h1⟩), hn _ (.inr ⟨L, hL, h2⟩)⟩
def Tiles (Ls : List Lw) : Int → Int → List (Int × Int × Int) → Prop
  | x, b, [] => b ≤ x
  | x, b, (s, e, t) :: r => s = x ∧ x < e ∧ e ≤ b ∧ (∀ q, x ≤ q → q < e → thickS Ls q = t) ∧ Tiles Ls e b r
def SegsTo (Ls : List Lw) : Int → Int → List (Int × Int × Int) → Prop
  | x, m, [] => x = m
  | x, m, (s, e, t) :: r => s = x ∧ x < e ∧ (∀ q, x ≤ q → q < e → thickS Ls q = t) ∧ SegsTo Ls e m r
def clipT (a b : Int) (ts : List (Int × Int × Int)) : List (Int × Int × Int) := (ts.map fun t => (mxI t.1 a, mnI t.2.1 b, t.2.2)).filter fun t => decide (t.1 < t.2.1)
theorem clipT_cons (a b s e t : Int) (r : List (Int × Int × Int)) : clipT a b ((s, e, t) :: r) = (if mxI s a < mnI e b then [(mxI s a, mnI e b, t)] else []) ++ clipT a b r := by
  unfold clipT
  rw [List.map_cons, List.filter_cons]
  by_cases h : mxI s a < mnI e b
  · rw [if_pos h, if_pos (decide_eq_true h)]
    rfl
  · rw [if_neg h, if_neg (by intro z; exact h (of_decide_eq_true z))]
    rfl
theorem tiles_past {Ls : List Lw} {x b : Int} {ts : List (Int × Int × Int)} (h : Tiles Ls x b ts) (hx : b ≤ x) : ts = [] := by
  cases ts with
  | nil => rfl
  | cons t r =>
    obtain ⟨s, e, t⟩ := t
    obtain ⟨h1, h2, h3, _⟩ := h
    omega
theorem tiles_of {Ls : List Lw} {a b m : Int} (over : ∀ q, m ≤ q → thickS Ls q = 0) : ∀ (ts : List (Int × Int × Int)) (c : Int), SegsTo Ls c m ts → Tiles Ls (mxI c a) b (clipT a b (ts ++ [(m, b, 0)]))
  | [], c, h => by
    have h : c = m := h
    subst h
    show Tiles Ls (mxI c a) b (clipT a b [(c, b, 0)])
    rw [clipT_cons]
    have e : mnI b b = b := by show (if b < b then b else b) = b; split <;> rfl
    rw [e]
    by_cases h : mxI c a < b
    · rw [if_pos h]
      refine ⟨rfl, h, Int.le_refl _, fun q q1 q2 => over q ?_, Int.le_refl _⟩
      have : c ≤ mxI c a := by show c ≤ (if a > c then a else c); split <;> omega
      omega
    · rw [if_neg h]
      show b ≤ mxI c a
      omega
  | (s, e, t) :: r, c, h => by
    obtain ⟨h1, h2, h3, h4⟩ := h
    subst h1
    have ih := tiles_of (a := a) (b := b) over r e h4
    show Tiles Ls (mxI s a) b (clipT a b ((s, e, t) :: (r ++ [(m, b, 0)])))
    rw [clipT_cons]
    have x1 : mxI s a = (if a > s then a else s) := rfl
    have x2 : mnI e b = (if b < e then b else e) := rfl
    have x3 : mxI e a = (if a > e then a else e) := rfl
    by_cases h : mxI s a < mnI e b
    · rw [if_pos h]
      refine ⟨rfl, h, ?_, fun q q1 q2 => h3 q ?_ ?_, ?_⟩
      · rw [x2]
        split <;> omega
      · rw [x1] at q1
        split at q1 <;> omega
      · rw [x2] at q2
        split at q2 <;> omega
      · by_cases hb : b < e
        · rw [x2, if_pos hb]
          have : b ≤ mxI e a := by
            rw [x3]
            split <;> omega
          rw [tiles_past ih this]
          exact Int.le_refl _
        · rw [x2, if_neg hb]
          have : mxI e a = e := by
            rw [x3]
            rw [x1, x2] at h
            rw [if_neg]
            rw [if_neg hb] at h
            split at h <;> omega
          rw [this] at ih
          exact ih
    · rw [if_neg h, List.nil_append]
      by_cases hb : b ≤ mxI s a
      · have : b ≤ mxI e a := by
          rw [x3]
          rw [x1] at hb
          split <;> split at hb <;> omega
        rw [tiles_past ih this]
        exact hb
      · have : mxI e a = mxI s a := by
          rw [x3, x1]
          rw [x1, x2] at h
          rw [x1] at hb
          (repeat' split) <;> (repeat' split at h) <;> (repeat' split at hb) <;> omega
        rw [this] at ih
        exact ih
/-- the first place off -/
def wordOf (t low high : Int) : Option Str := if t < low then some "thin" else if high < t then some "thick" else none
def wordV : Option Str → V
  | none => .non
  | some z => .str z
inductive OffIs (Ls : List Lw) (low high a b : Int) : Option (Int × Str × Int) → Prop
  | none (h : ∀ q, a ≤ q → q < b → wordOf (thickS Ls q) low high = none) : OffIs Ls low high a b none
  | some {m : Int} {z : Str} (h1 : a ≤ m) (h2 : m < b) (h3 : wordOf (thickS Ls m) low high = some z) (h4 : ∀ q, a ≤ q → q < m → wordOf (thickS Ls q) low high = none) : OffIs Ls low high a b (some (m, z, thickS Ls m))
theorem off_one {Ls : List Lw} {low high a b : Int} {r1 r2 : Option (Int × Str × Int)} (h1 : OffIs Ls low high a b r1) (h2 : OffIs Ls low high a b r2) : r1 = r2 := by
  cases h1 with
  | none h =>
    cases h2 with
    | none _ => rfl
    | some p1 p2 p3 p4 =>
      rw [h _ p1 p2] at p3
      cases p3
  | some p1 p2 p3 p4 =>
    cases h2 with
    | none h =>
      rw [h _ p1 p2] at p3
      cases p3
    | some s1 s2 s3 s4 =>
      rename_i m z m' z'
      rcases Int.lt_trichotomy m m' with c | c | c
      · rw [s4 m p1 c] at p3
        cases p3
      · subst c
        rw [p3] at s3
        have := Option.some.inj s3
        subst this
        rfl
      · rw [p4 m' s1 c] at s3
        cases s3
def offV (K : PySem.W.Frag) (H : Hp) (x : V) : Option (Int × Str × Int) → Prop
  | none => x = .non
  | some (m, z, t) => ∃ o, x = .ref o ∧ H o = some (.tup [.int m, .str z, .int t])
def spLevels : Sp := fun vs H Q _ => ∃ (c : Addr) (Ls : List Lw) (a b : Int), vs = [.ref c, .int a, .int b] ∧ StrandAt H c Ls ∧ Ls.length ≤ 60 ∧ (∀ L ∈ Ls, GoodL L) ∧ 0 ≤ a ∧
  ∀ H' o ts, Same H H' → H o = none → TableAt H' o ts → Tiles Ls a b ts → Q (.ref o) H'
def spWord : Sp := fun vs H Q _ => ∃ t low high : Int, vs = [.int t, .int low, .int high] ∧ Q (wordV (wordOf t low high)) H
def spFirstOff (K : PySem.W.Frag) : Sp := fun vs H Q _ => ∃ (c : Addr) (Ls : List Lw) (low high a b : Int), vs = [.ref c, .int low, .int high, .int a, .int b] ∧ StrandAt H c Ls ∧ Ls.length ≤ 60 ∧ (∀ L ∈ Ls, GoodL L) ∧ 0 ≤ a ∧
  ∀ H' x r, Same H H' → OffIs Ls low high a b r → offV K H' x r → Q x H'
def spFrame : Sp := fun vs H Q _ => ∃ (p l : Addr) (T : Nat) (a : Addr) (Ls : List Lw), vs = [.ref p, .ref a] ∧ PotD H p l T ∧ T < 2 ^ 37 ∧ StrandAt H a Ls ∧ Ls.length ≤ 60 ∧ (∀ L ∈ Ls, GoodD (2 ^ 131) L) ∧
  ∀ H' o lo hi, PotD H' p l (T + 6) → Keep p l H H' → H' o = some (.tup [.int lo, .int hi]) → Q (.ref o) H'
theorem keys_end {Ls : List Lw} (g : ∀ L ∈ Ls, GoodL L) {m k : Int} (h : IsEnd Ls m) (hk : Keys Ls k) : k ≤ m := by
  rcases hk with rfl | ⟨L, hL, y, hy, e⟩
  · cases hc : Ls with
    | nil => exact Int.le_of_eq (h.1 hc).symm
    | cons L r =>
      have hL : L ∈ Ls := by rw [hc]; simp
      have h1 := h.2.2 L hL
      have h2 := last_gt (g L hL)
      have h3 := (g L hL).2.2.2.1
      omega
  · have h1 := h.2.2 L hL
    have h2 := parts_le L.ps L.pl (fun x hx => ((g L hL).1.2.2 x hx).2.2.1) y hy
    have h3 := (part_ok (g L hL) hy).1
    have h4 : lastOf L = clip L.le (L.pl + longs L.ps) := rfl
    rcases e with rfl | rfl <;> omega
theorem segs_pairs {Ls : List Lw} : ∀ (ys : List Int) (x m : Int), (∀ (i : Nat) (s e : Int), (pairs (x :: ys))[i]? = some (s, e) → s < e ∧ ∀ q, s ≤ q → q < e → thickS Ls q = thickS Ls s) → (x :: ys)[ys.length]? = some m → SegsTo Ls x m ((pairs (x :: ys)).map fun p => (p.1, p.2, thickS Ls p.1))
  | [], x, m, _, h => Option.some.inj h
  | y :: r, x, m, hp, h => by
    have h0 := hp 0 x y rfl
    refine ⟨rfl, h0.1, h0.2, segs_pairs r y m (fun i s e hi => hp (i + 1) s e hi) ?_⟩
    exact h
theorem segs_places {Ls : List Lw} (g : ∀ L ∈ Ls, GoodL L) {ys : List Int} (hp : Places Ls ys) {m : Int} (hm : IsEnd Ls m) : SegsTo Ls 0 m ((pairs ys).map fun p => (p.1, p.2, thickS Ls p.1)) := by
  obtain ⟨r, er⟩ := places_zero g hp
  subst er
  refine segs_pairs r 0 m (fun i s e hi => ?_) ?_
  · obtain ⟨e1, e2⟩ := pairs_get hi
    obtain ⟨i1, g1⟩ := List.getElem?_eq_some_iff.mp e1
    obtain ⟨i2, g2⟩ := List.getElem?_eq_some_iff.mp e2
    have := List.pairwise_iff_getElem.mp hp.1 i (i + 1) i1 i2 (by omega)
    exact ⟨by omega, fun q q1 q2 => places_still g hp hi q1 q2⟩
  · have hlt : r.length < (0 :: r).length := Nat.lt_succ_self _
    have hl := List.getElem?_eq_getElem hlt
    have h1 := key_le hp.1 ((hp.2.1 m).mpr (end_key g hm)) hl rfl
    have h2 := keys_end g hm ((hp.2.1 _).mp (List.mem_of_getElem? hl))
    rw [hl]
    exact congrArg some (by omega)
theorem tri_get {H : Hp} {as : List Addr} {ts : List (Int × Int × Int)} (h : TupsAt H as (ts.map rowV)) {i : Nat} {v : V} (e : (as.map V.ref)[i]? = some v) : ∃ a s en t, v = .ref a ∧ ts[i]? = some (s, en, t) ∧ H a = some (.tup [.int s, .int en, .int t]) := by
  obtain ⟨a, xs, h1, _, h2, h3⟩ := h.get e
  rw [List.getElem?_map] at h2
  cases q : ts[i]? with
  | none =>
    rw [q] at h2
    cases h2
  | some p =>
    rw [q] at h2
    have e' : rowV p = xs := Option.some.inj h2
    subst e'
    exact ⟨a, p.1, p.2.1, p.2.2, h1, rfl, h3⟩
theorem thickAt_bd {B : Int} (hB : 0 < B) : ∀ (ps : List (Int × Int)) (k : Int), (∀ p ∈ ps, 0 ≤ p.1 ∧ p.1 < B) → 0 ≤ thickAt ps k ∧ thickAt ps k < B
  | [], k, _ => ⟨Int.le_refl _, hB⟩
  | (t, g) :: r, k, h => by
    have h1 := h (t, g) (by simp)
    have h2 := thickAt_bd hB r (k - g) fun x hx => h x (by simp [hx])
    show 0 ≤ (if k < g then t else thickAt r (k - g)) ∧ (if k < g then t else thickAt r (k - g)) < B
    split
    · exact h1
    · exact h2
theorem thickL_bd {B : Int} (hB : 0 < B) {L : Lw} (h : ∀ p ∈ L.ps, 0 ≤ p.1 ∧ p.1 < B) (q : Int) : 0 ≤ thickL L q ∧ thickL L q < B := by
  have h2 := thickAt_bd hB L.ps (q - L.pl) h
  unfold thickL
  (repeat' split) <;> omega
theorem thickS_bd {B : Int} (hB : 0 < B) (q : Int) : ∀ Ls : List Lw, (∀ L ∈ Ls, ∀ p ∈ L.ps, 0 ≤ p.1 ∧ p.1 < B) → 0 ≤ thickS Ls q ∧ thickS Ls q ≤ B * Ls.length
  | [], _ => ⟨Int.le_refl _, by simp [thickS]⟩
  | L :: r, h => by
    have h1 := thickL_bd hB (h L (by simp)) q
    have h2 := thickS_bd hB q r fun M hM => h M (by simp [hM])
    rw [thickS_cons, List.length_cons]
    have e : ((r.length + 1 : Nat) : Int) = (r.length : Int) + 1 := by omega
    rw [e, Int.mul_add]
    omega
theorem thickD_lt {C : Int} {Ls : List Lw} (g : ∀ L ∈ Ls, GoodD C L) (hl : Ls.length ≤ 60) (q : Int) : 0 ≤ thickS Ls q ∧ thickS Ls q < 2 ^ 140 := by
  have h := thickS_bd (B := 2 ^ 130) (by decide) q Ls fun L hL p hp => by
    have := (g L hL).1.2.2 p hp
    exact ⟨by omega, this.2.1⟩
  have : (2 ^ 130 : Int) * Ls.length ≤ 2 ^ 130 * 60 := Int.mul_le_mul_of_nonneg_left (by omega) (by decide)
  omega
def offD : Int × Str × Int → PyData := fun x => .tuple [.int x.1, .str x.2.1, .int x.2.2]
theorem off_show {m t : Int} {z : Str} (m0 : 0 ≤ m) (m1 : m < 2 ^ 200) (t0 : 0 ≤ t) (t1 : t < 2 ^ 200) (hz : z = "thin" ∨ z = "thick") :
    (offD (m, z, t)).showable = true ∧ (offD (m, z, t)).hasDict = false ∧ (offD (m, z, t)).depth ≤ 60 ∧ (offD (m, z, t)).shown.length ≤ sizeLine := by
  have hs := sh_all (xs := [.int m, .str z, .int t]) fun x hx => by
    simp only [List.mem_cons, List.not_mem_nil, or_false] at hx
    rcases hx with rfl | rfl | rfl
    · exact (sh_nat m0 m1).ok
    · rcases hz with rfl | rfl <;> exact ⟨by decide +kernel, rfl, by decide +kernel⟩
    · exact (sh_nat t0 t1).ok
  refine ⟨hs.1, hs.2.1, by show 1 ≤ 60; decide, ?_⟩
  have h1 := PyData.shown_le_bulk 401 (by decide) (offD (m, z, t)) hs.2.2
  have h2 : (offD (m, z, t)).bulk ≤ 100 := by
    have h4 : (PyData.str z).bulk ≤ 90 := by rcases hz with rfl | rfl <;> decide +kernel
    show 0 + 1 + ((PyData.str z).bulk + 1 + (0 + 1 + 0)) ≤ 100
    omega
  have h3 : (401 + 2) * (offD (m, z, t)).bulk ≤ (401 + 2) * 100 := Nat.mul_le_mul_left _ h2
  rw [sizeLine_eq]
  omega
theorem word_z {t low high : Int} {z : Str} (h : wordOf t low high = some z) : z = "thin" ∨ z = "thick" := by
  unfold wordOf at h
  split at h
  · exact .inl (Option.some.inj h).symm
  · split at h
    · exact .inr (Option.some.inj h).symm
    · cases h
theorem cuts_rise {Ls : List Lw} {ns : List Int} (h : Edges Ls ns) (a b : Int) : (a :: within a b ns).Pairwise (· < ·) := List.pairwise_cons.mpr ⟨fun k hk => (within_mem hk).2.1, h.1.filter _⟩
theorem cuts_still {Ls : List Lw} (g : ∀ L ∈ Ls, GoodL L) {ns : List Int} (h : Edges Ls ns) {a b q : Int} (q1 : a ≤ q) (q2 : q < b) : ∃ c ∈ a :: within a b ns, c ≤ q ∧ thickS Ls q = thickS Ls c := by
  obtain ⟨c, hc, c1, c2⟩ := near (ns := a :: within a b ns) (p := q) ⟨a, List.mem_cons_self, q1⟩
  have ca : a ≤ c := by
    rcases List.mem_cons.mp hc with e | e
    · omega
    · have := (within_mem e).2.1
      omega
  refine ⟨c, hc, c1, edge_still g c1 fun k hk => ?_⟩
  by_cases h1 : k ≤ c
  · exact .inl h1
  · by_cases h2 : q < k
    · exact .inr h2
    · have hm : k ∈ within a b ns := by
        unfold within
        refine List.mem_filter.mpr ⟨(h.2.1 k).mpr hk, ?_⟩
        rw [Bool.and_eq_true, decide_eq_true_iff, decide_eq_true_iff]
        omega
      exact c2 k (List.mem_cons_of_mem _ hm)
def spDue12 (K : PySem.W.Frag) : Sp := fun vs H Q _ => ∃ (c : Addr) (Ls : List Lw) (low high a b : Int), vs = [.ref c, .int low, .int high, .int a, .int b] ∧ StrandAt H c Ls ∧ Ls.length ≤ 60 ∧ (∀ L ∈ Ls, GoodL L) ∧ a < b ∧
  ∀ H' x r, Same H H' → OffIs Ls low high a b r → offV K H' x r → Q x H'
/-! ### min(.., default=..) of pairs and of whole numbers -/
def leP (p q : Int × Int) : Prop := p.1 < q.1 ∨ (p.1 = q.1 ∧ p.2 ≤ q.2)
theorem ltP_iff (p q : Int × Int) : PySem.W.DatumOrd.lt p q = true ↔ p.1 < q.1 ∨ (p.1 = q.1 ∧ p.2 < q.2) := by
  show (if p.1 = q.1 then decide (p.2 < q.2) else decide (p.1 < q.1)) = true ↔ _
  by_cases h : p.1 = q.1
  · rw [if_pos h, decide_eq_true_iff]
    omega
  · rw [if_neg h, decide_eq_true_iff]
    omega
theorem leastP : ∀ (ys : List (Int × Int)) (y : Int × Int), PySem.W.minOf y ys ∈ y :: ys ∧ ∀ p ∈ y :: ys, leP (PySem.W.minOf y ys) p
  | [], y => ⟨List.mem_cons_self, fun p hp => by
    have : p = y := List.mem_singleton.mp hp
    subst this
    exact .inr ⟨rfl, Int.le_refl _⟩⟩
  | z :: r, y => by
    have e : PySem.W.minOf y (z :: r) = PySem.W.minOf (if PySem.W.DatumOrd.lt z y = true then z else y) r := rfl
    rw [e]
    have ih := leastP r (if PySem.W.DatumOrd.lt z y = true then z else y)
    generalize hw : PySem.W.minOf (if PySem.W.DatumOrd.lt z y = true then z else y) r = w at ih
    have hy : leP (if PySem.W.DatumOrd.lt z y = true then z else y) y ∧ leP (if PySem.W.DatumOrd.lt z y = true then z else y) z := by
      by_cases h : PySem.W.DatumOrd.lt z y = true
      · rw [if_pos h]
        have := (ltP_iff z y).mp h
        unfold leP
        omega
      · rw [if_neg h]
        have : ¬ (z.1 < y.1 ∨ (z.1 = y.1 ∧ z.2 < y.2)) := fun c => h ((ltP_iff z y).mpr c)
        unfold leP
        omega
    have h0 := ih.2 _ List.mem_cons_self
    refine ⟨?_, fun p hp => ?_⟩
    · rcases List.mem_cons.mp ih.1 with h | h
      · rw [h]
        split
        · simp
        · simp
      · simp [h]
    · rcases List.mem_cons.mp hp with rfl | hp
      · have := hy.1
        unfold leP at *
        omega
      · rcases List.mem_cons.mp hp with rfl | hp
        · have := hy.2
          unfold leP at *
          omega
        · exact ih.2 p (List.mem_cons_of_mem _ hp)
def rMinP (K : PySem.W.Frag) : List V → List V → Hp → VK → Prop := fun xs zs H Q => ∃ (a : Addr) (as : List Addr) (ps : List (Int × Int)) (d : V), xs = [.ref a] ∧ zs = [d] ∧ SqL K H a (as.map V.ref) ∧ TupsAt H as (ps.map stepV) ∧ ps ≠ [] ∧
  ∀ (i : Nat) (b : Addr) (p : Int × Int), as[i]? = some b → ps[i]? = some p → (∀ q ∈ ps, leP p q) → Q (.ref b) H
theorem pairs_dp {K : PySem.W.Frag} {H : Hp} : ∀ {as : List Addr} {ps : List (Int × Int)}, TupsAt H as (ps.map stepV) → DpAll K H (as.map V.ref) (ps.map PySem.W.Datum.toD)
  | [], [], _ => .nil
  | [], p :: r, h => absurd h.1 (by simp)
  | a :: r, [], h => absurd h.1 (by simp)
  | a :: as, p :: ps, h => by
    obtain ⟨xs, h1, h2⟩ := h.2 0 a rfl
    have e : stepV p = xs := Option.some.inj h1
    subst e
    exact .cons (.tup (SqT.of h2) (.cons (.int _) (.cons (.int _) .nil))) (pairs_dp ⟨Nat.succ.inj (by simpa using h.1), fun i b hb => h.2 (i + 1) b hb⟩)
theorem call_minP {X : Cx} (hc : X.calm = true) (hu : X.A.units + 64 < cLine) : CallRK X (.builtin "min") ["default"] (rMinP X.K) := by
  intro pins s σ H xs zs us ws Q I va vz h
  obtain ⟨a, as, ps, d, rfl, rfl, hs, tu, hne, q⟩ := h
  obtain ⟨its, rv, hl, _⟩ := I.list hs
  rw [Vals.ref1 va]
  cases vz with
  | cons r1 r2 =>
  cases r2
  obtain ⟨bs, rs⟩ := Dp.readsAll I (ps.map PySem.W.Datum.toD) (as.map V.ref) its (pairs_dp tu) rv
  refine PySem.W.min_list_datum_default (xs := ps) (I.ok.hd hc) hl.isList ⟨bs, by simpa using rs⟩ ?_ (fun e => absurd e hne) fun y ys i v h' tk e hi hold hk => ?_
  · show X.A.units + 1 + 1 < cLine
    omega
  · have hi' : its[i]? = some v := by simpa using hi
    obtain ⟨b, eb, rb⟩ : ∃ b, as[i]? = some b ∧ v = .ref b := by
      have hlen : its.length = (as.map V.ref).length := rv.length.symm
      have li := (List.getElem?_eq_some_iff.mp hi').1
      have lj : i < as.length := by rw [List.length_map] at hlen; omega
      have e2 : (as.map V.ref)[i]? = some (V.ref as[i]) := by rw [List.getElem?_map, List.getElem?_eq_getElem lj]; rfl
      obtain ⟨u, eu, ru⟩ := rv.get e2
      rw [hi'] at eu
      have := Option.some.inj eu
      subst this
      cases ru
      exact ⟨_, List.getElem?_eq_getElem lj, rfl⟩
    subst rb
    obtain ⟨p, ep, hp⟩ := PySem.W.HoldAll.at (xs := ps) ⟨bs, rs⟩ hi'
    obtain ⟨c1, k1⟩ := hp.keeps hk
    obtain ⟨c2, k2⟩ := hold
    have eq : PySem.W.Datum.toD p = PySem.W.Datum.toD (PySem.W.minOf y ys) := (k1.unique _ _ k2).1
    have eq : p = PySem.W.minOf y ys := by
      obtain ⟨p1, p2⟩ := p
      generalize PySem.W.minOf y ys = m at eq
      obtain ⟨m1, m2⟩ := m
      have eq : PyData.tuple [.int p1, .int p2] = .tuple [.int m1, .int m2] := eq
      injection eq with eq
      injection eq with e1 e2
      injection e2 with e2 _
      injection e1 with e1
      injection e2 with e2
      rw [e1, e2]
    refine ⟨.ref b, H, I.kept hk, rfl, q i b p eb ep fun z hz => ?_⟩
    rw [eq]
    rw [e] at hz
    exact (leastP ys y).2 z hz
/-! ### min(.., default=..) of whole numbers; a tuple turned about -/
theorem leastI : ∀ (ys : List Int) (y : Int), PySem.W.minOf y ys ∈ y :: ys ∧ ∀ p ∈ y :: ys, PySem.W.minOf y ys ≤ p
  | [], y => ⟨List.mem_cons_self, fun p hp => by
    have : p = y := List.mem_singleton.mp hp
    subst this
    exact Int.le_refl _⟩
  | z :: r, y => by
    have e : PySem.W.minOf y (z :: r) = PySem.W.minOf (if decide (z < y) = true then z else y) r := rfl
    rw [e]
    have ih := leastI r (if decide (z < y) = true then z else y)
    generalize PySem.W.minOf (if decide (z < y) = true then z else y) r = w at ih
    have h0 := ih.2 _ List.mem_cons_self
    have hy : (if decide (z < y) = true then z else y) ≤ y ∧ (if decide (z < y) = true then z else y) ≤ z := by
      by_cases h : z < y
      · rw [if_pos (decide_eq_true h)]
        omega
      · rw [if_neg (by intro c; exact h (of_decide_eq_true c))]
        omega
    refine ⟨?_, fun p hp => ?_⟩
    · rcases List.mem_cons.mp ih.1 with h | h
      · rw [h]
        split <;> simp
      · simp [h]
    · rcases List.mem_cons.mp hp with rfl | hp
      · omega
      · rcases List.mem_cons.mp hp with rfl | hp
        · omega
        · exact ih.2 p (List.mem_cons_of_mem _ hp)
def rMinN (K : PySem.W.Frag) : List V → List V → Hp → VK → Prop := fun xs zs H Q => ∃ (a : Addr) (ns : List Int) (d : V), xs = [.ref a] ∧ zs = [d] ∧ SqL K H a (ns.map V.int) ∧ (ns = [] → Q d H) ∧ ∀ m, m ∈ ns → (∀ y ∈ ns, m ≤ y) → Q (.int m) H
theorem call_minN {X : Cx} (hc : X.calm = true) (hu : X.A.units + 64 < cLine) : CallRK X (.builtin "min") ["default"] (rMinN X.K) := by
  intro pins s σ H xs zs us ws Q I va vz h
  obtain ⟨a, ns, d, rfl, rfl, hs, q0, q⟩ := h
  obtain ⟨its, rv, hl, _⟩ := I.list hs
  rw [Vals.ref1 va]
  cases vz with
  | cons r1 r2 =>
  cases r2
  obtain ⟨bs, rs⟩ := Dp.readsAll I (ns.map PyData.int) (ns.map V.int) its (ints_dp ns) rv
  have rs : ReadsAll s.heap its (ns.map PySem.W.Datum.toD) bs := rs
  refine PySem.W.min_list_datum_default (xs := ns) (I.ok.hd hc) hl.isList ⟨bs, by simpa using rs⟩ ?_ (fun e h' tk hk => ⟨d, H, I.kept hk, r1, q0 e⟩) fun y ys i v h' tk e hi hold hk => ?_
  · show X.A.units + 1 + 0 < cLine
    omega
  · obtain ⟨c2, k2⟩ := hold
    have k2 : Reads h' v (.int (PySem.W.minOf y ys)) c2 := k2
    have hm := leastI ys y
    rw [← e] at hm
    generalize PySem.W.minOf y ys = M at k2 hm
    cases k2
    exact ⟨.int M, H, I.kept hk, ⟨_, rfl⟩, q M hm.1 hm.2⟩
/-! ### the thinnest and the thickest place -/
def spLevelsB : Sp := fun vs H Q _ => ∃ (c : Addr) (Ls : List Lw) (a b : Int), vs = [.ref c, .int a, .int b] ∧ StrandAt H c Ls ∧ Ls.length ≤ 60 ∧ (∀ L ∈ Ls, GoodL L) ∧ 0 ≤ a ∧
  ∀ H' o ts, Same H H' → H o = none → TableAt H' o ts → Tiles Ls a b ts → ts.length ≤ 1301 → Q (.ref o) H'
theorem tile_at {Ls : List Lw} {b q : Int} : ∀ (ts : List (Int × Int × Int)) (x : Int), Tiles Ls x b ts → x ≤ q → q < b → ∃ y ∈ ts, y.1 ≤ q ∧ q < y.2.1 ∧ thickS Ls q = y.2.2
  | [], x, h, h1, h2 => by
    have h : b ≤ x := h
    omega
  | (s, e, t) :: r, x, h, h1, h2 => by
    obtain ⟨rfl, t2, t3, t4, t5⟩ := h
    by_cases he : q < e
    · exact ⟨(s, e, t), List.mem_cons_self, h1, he, t4 q h1 he⟩
    · obtain ⟨y, hy, k⟩ := tile_at r e t5 (by omega) h2
      exact ⟨y, List.mem_cons_of_mem _ hy, k⟩
theorem tile_in {Ls : List Lw} {b : Int} : ∀ (ts : List (Int × Int × Int)) (x : Int), Tiles Ls x b ts → ∀ y ∈ ts, x ≤ y.1 ∧ y.1 < b ∧ thickS Ls y.1 = y.2.2
  | [], x, h, y, hy => by cases hy
  | (s, e, t) :: r, x, h, y, hy => by
    obtain ⟨rfl, t2, t3, t4, t5⟩ := h
    rcases List.mem_cons.mp hy with rfl | hy
    · exact ⟨Int.le_refl _, by show s < b; omega, t4 s (Int.le_refl _) t2⟩
    · have := tile_in r e t5 y hy
      exact ⟨by omega, this.2⟩
def Extr (Ls : List Lw) (a b t m sg : Int) : Prop := a ≤ m ∧ m < b ∧ thickS Ls m = t ∧ ∀ q, a ≤ q → q < b → 0 ≤ (thickS Ls q - t) * sg ∧ ((thickS Ls q - t) * sg = 0 → m ≤ q)
def spExtr (sg : Int) : Sp := fun vs H Q _ => ∃ (c : Addr) (Ls : List Lw) (a b : Int), vs = [.ref c, .int a, .int b] ∧ StrandAt H c Ls ∧ Ls.length ≤ 60 ∧ (∀ L ∈ Ls, GoodL L) ∧ 0 ≤ a ∧ a < b ∧
  ∀ H' o t m, Same H H' → H' o = some (.tup [.int t, .int m]) → Extr Ls a b t m sg → Q (.ref o) H'
theorem extr_thin {Ls : List Lw} {a b : Int} {ts : List (Int × Int × Int)} (tl : Tiles Ls a b ts) {y : Int × Int × Int} (hy : y ∈ ts) (h : ∀ z ∈ ts, leP (y.2.2, y.1) (z.2.2, z.1)) : Extr Ls a b y.2.2 y.1 1 := by
  have i1 := tile_in ts a tl y hy
  refine ⟨i1.1, i1.2.1, i1.2.2, fun q q1 q2 => ?_⟩
  obtain ⟨z, hz, z1, z2, z3⟩ := tile_at ts a tl q1 q2
  have := h z hz
  unfold leP at this
  dsimp only at this
  rw [z3, Int.mul_one]
  omega
def spRight13 (sg : Int) : Sp := fun vs H Q _ => ∃ (c : Addr) (Ls : List Lw) (a b : Int) (o : Addr) (t m : Int), vs = [.ref c, .int a, .int b, .ref o, .int sg] ∧ StrandAt H c Ls ∧ Ls.length ≤ 60 ∧ (∀ L ∈ Ls, GoodL L) ∧ H o = some (.tup [.int t, .int m]) ∧ Extr Ls a b t m sg ∧
  ∀ H', Same H H' → Q (.bl true) H'
def spRight13A : Sp := fun vs H Q E => ∃ sg : Int, (sg = 1 ∨ sg = -1) ∧ spRight13 sg vs H Q E
/-! ### a tuple turned about -/
theorem fm_map {α β : Type} (f : α → Option β) (g : α → β) : ∀ l : List α, (∀ x ∈ l, f x = some (g x)) → l.filterMap f = l.map g
  | [], _ => rfl
  | x :: r, h => by
    rw [List.filterMap_cons, h x List.mem_cons_self]
    show g x :: r.filterMap f = g x :: r.map g
    rw [fm_map f g r fun y hy => h y (List.mem_cons_of_mem _ hy)]
theorem pickRev (xs : Array Value) : ((List.range xs.size).filterMap fun (k : Nat) => xs[(((xs.size : Int) - 1) + (k : Int) * (-1)).toNat]?).toArray = xs.toList.reverse.toArray := by
  have hat : ∀ k : Nat, k < xs.size → xs[(((xs.size : Int) - 1) + (k : Int) * (-1)).toNat]? = xs.toList.reverse[k]? := fun k hk => by
    rw [List.getElem?_reverse (by rw [Array.length_toList]; exact hk), Array.getElem?_toList, Array.length_toList, show (((xs.size : Int) - 1) + (k : Int) * (-1)).toNat = xs.size - 1 - k by omega]
  rw [fm_map _ (fun k => (xs.toList.reverse[k]?).getD .none) _ fun k hk => by
    have hk := List.mem_range.mp hk
    rw [hat k hk, List.getElem?_eq_getElem (by rw [List.length_reverse, Array.length_toList]; exact hk)]
    rfl]
  congr 1
  apply List.ext_getElem?
  intro i
  rw [List.getElem?_map]
  by_cases hi : i < xs.size
  · have hr : i < xs.toList.reverse.length := by
      rw [List.length_reverse, Array.length_toList]
      exact hi
    rw [List.getElem?_range hi]
    show some ((xs.toList.reverse[i]?).getD .none) = _
    rw [List.getElem?_eq_getElem hr]
    rfl
  · rw [List.getElem?_eq_none (by rw [List.length_range]; omega), List.getElem?_eq_none (by rw [List.length_reverse, Array.length_toList]; omega)]
    rfl
section
variable {P : Program} {w : World} {A : Around} {E : Value → Shared → Prop} {s : Shared}
theorem appliedRev {sl : Addr} {tk : Tok} {n : Nat} {Q : Int × Int × Nat → Shared → Prop} (hs : s.heap.IsSliceOf sl .none .none (.int (-1) tk)) (h : Q ((n : Int) - 1, -1, n) s) : wpAny (model P w) A (Builtin.Slice.sliceApplied (.ref sl) (pure (n : Int))) Q E s := by
  obtain ⟨os, o1, o2, o3⟩ := id hs
  unfold Builtin.Slice.sliceApplied Builtin.Slice.sliceFields
  refine wpAny_bind (wpAny_bind (wpAny_field o1 o3 (x := .none) rfl (wpAny_bind (wpAny_field o1 o3 (x := .none) rfl (wpAny_bind (wpAny_field o1 o3 (x := .int (-1) tk) rfl (wpAny_pure ?_)))))))
  refine wpAny_bind (HT.slicePart_ (IsPart.int (-1) tk) ?_)
  show wpAny _ _ (if ((-1 : Int) == 0) = true then _ else _) _ _ s
  rw [if_neg (by decide)]
  refine wpAny_bind (HT.slicePart_ IsPart.none (wpAny_bind (HT.slicePart_ IsPart.none (wpAny_bind (wpAny_pure ?_)))))
  show wpAny _ _ (match Builtin.Slice.sliceAdjust none none (-1) (n : Int) with | (lo, hi) => pure (lo, (-1 : Int), Builtin.Slice.slicePlaces lo hi (-1))) _ _ s
  have e1 : Builtin.Slice.sliceAdjust none none (-1) (n : Int) = ((n : Int) - 1, -1) := rfl
  have e2 : Builtin.Slice.slicePlaces ((n : Int) - 1) (-1) (-1) = n := by
    unfold Builtin.Slice.slicePlaces
    simp
    omega
  rw [e1]
  show wpAny _ _ (pure ((n : Int) - 1, (-1 : Int), Builtin.Slice.slicePlaces ((n : Int) - 1) (-1) (-1))) _ _ s
  rw [e2]
  exact wpAny_pure h
theorem itemRev {t sl : Addr} {items : Array Value} {tk : Tok} {Q : Value → Shared → Prop} (ht : IsTup s.heap t items) (hs : s.heap.IsSliceOf sl .none .none (.int (-1) tk))
    (h : Q (.ref s.heap.objs.size) { s with heap := s.heap.push { cls := .type "tuple", data := .seq items.toList.reverse.toArray } }) (hsz : items.size ≤ sizeLine) : wpAny (model P w) A (getItem (.ref t) (.ref sl)) Q E s := by
  have fits : sizeOk (.seq items.toList.reverse.toArray) := by
    show items.toList.reverse.toArray.size ≤ sizeLine
    rw [List.size_toArray, List.length_reverse, Array.length_toList]
    exact hsz
  obtain ⟨os, o1, o2, o3⟩ := id hs
  have ty : s.TypeIs (.ref sl) "slice" := ⟨os, o1, o2⟩
  unfold getItem
  try with_reducible refine wpAny_holding ?_
  first | refine wpAny_bind (wpAny_pure ?_) | skip
  refine wpAny_bind (wpAny_sequenceKey ht.typeIs (by decide) ?_)
  refine wpAny_bind (wpAny_callSpecial?_slot (name := Str.ofString "__getitem__") ht.typeIs PyProof.Rows.slot_tuple_getitem
    (wpAny_call_entry PyProof.Rows.slot_tuple_getitem ht.typeIs entry_tuple_getitem ?_ (args_tuple_getitem _ _)))
  show wpAny _ _ (Builtin.Tuple.tupleItemsOf (.ref t) >>= _) _ _ s
  refine wpAny_bind (tupleItemsOf_ ht (wpAny_bind (wpAny_typeOf ty ?_)))
  rw [if_pos (by decide)]
  refine wpAny_bind (appliedRev hs ?_)
  have no : ¬ ((((items.size : Int) - 1) == 0 && (-1 : Int) == 1 && items.size == items.size) = true) := by
    intro q
    rw [Bool.and_eq_true, Bool.and_eq_true] at q
    exact absurd q.1.2 (by decide)
  show wpAny _ _ (if (((items.size : Int) - 1) == 0 && (-1 : Int) == 1 && items.size == items.size) = true then _ else _) _ _ s
  rw [if_neg no, pickRev]
  first
    | exact wpAny_bind (m := Builtin.Tuple.tupleExact _) (wpAny_newObj_type (wpAny_pure ⟨_, rfl, wpAny_pure h⟩) fits)
    | exact wpAny_bind (wpAny_bind (m := Builtin.Tuple.tupleExact _) (wpAny_newObj_type (wpAny_pure (wpAny_pure ⟨_, rfl, wpAny_pure h⟩)) fits))
    | exact wpAny_bind (wpAny_bind (m := Builtin.Tuple.tupleExact _) (wpAny_newObj_type (wpAny_pure ⟨_, rfl, wpAny_pure h⟩) fits))
end
section
variable {X : Cx}
def tRevT (K : PySem.W.Frag) (te : TE) : TE := fun σ H Q => te σ H fun x H1 => ∃ a xs, x = .ref a ∧ SqT K H1 a xs ∧ ∀ p, H1 p = none → Q (.ref p) (upd H1 p (.tup xs.reverse))
theorem pe_revT {e : Expr} {te : TE} {k : Nat} {p1 p2 p3 pos : Pos} (he : PE X e te) : PE X (.Subscript e (.Slice none none (some (.UnaryOp .USub (.Constant (.int 1) k p1) p2)) p3) pos) (tRevT X.K te) := by
  constructor
  intro pins s σ H Q I h
  refine Subscript_ (thn (he.run pins s σ H _ I h) fun v s1 hz => ?_)
  obtain ⟨x, H1, I1, r1, a, xs, ex, hx, q⟩ := hz
  subst ex
  cases r1
  refine wpAny_Slice (thn (po_none.run pins s1 σ H1 (fun o H2 => o = none ∧ H2 = H1) I1 ⟨rfl, rfl⟩) fun vl s2 hz => ?_)
  obtain ⟨l, H2, I2, pl, rfl, rfl⟩ := hz
  refine thn (po_none.run pins s2 σ H2 (fun o H3 => o = none ∧ H3 = H2) I2 ⟨rfl, rfl⟩) fun vu s3 hz => ?_
  obtain ⟨u, H3, I3, pu, rfl, rfl⟩ := hz
  refine thn ((po_some (pe_un un_neg pe_int)).run pins s3 σ H3 (fun o H4 => o = some (-1) ∧ H4 = H3) I3 ⟨1, rfl, -1, rfl, rfl, rfl⟩) fun vs s4 hz => ?_
  obtain ⟨o, H4, I4, ps, rfl, rfl⟩ := hz
  cases pl
  cases pu
  cases ps
  rename_i tk
  have I5 : Inv X pins σ H4 { s4 with heap := s4.heap.push { cls := .type "slice", data := .fields #[.none, .none, .int (-1) tk] } } := I4.kept (t' := s4.toks) fun b ob q => Heap.get?_push_of_some _ q
  obtain ⟨its, r, ht, hz⟩ := I5.tuple hx
  have hlen := r.length
  show wpAny (model X.prog X.w) X.A (subscriptTail e (.Slice none none (some (.UnaryOp .USub (.Constant (.int 1) k p1) p2)) p3) (.ref a) (.ref s4.heap.objs.size)) (EP X pins σ Q) X.xe { s4 with heap := s4.heap.push { cls := .type "slice", data := .fields #[.none, .none, .int (-1) tk] } }
  refine tail_any (ops := [.ref a, .ref s4.heap.objs.size]) ht.typeIs PyProof.Rows.slot_tuple_getitem.lookup ?_ (by with_unfolding_all rfl)
  refine itemRev ht (Heap.IsSliceOf.new _ .none .none (.int (-1) tk)) ?_ (by rw [List.size_toArray]; omega)
  refine ⟨.ref _, _, I5.laid (t' := s4.toks) (o := .tup xs.reverse) (fun b ob q => Heap.get?_push_of_some _ q) (Nat.le_refl _) ?_, rfl, q _ (I5.hok.fresh (Nat.le_refl _))⟩
  exact ⟨by rw [List.length_reverse]; exact hz, _, r.reverse, IsTup.new _ _⟩
end
/-! ### breaks -/
def nextB (bs : List (Int × Int)) (m : Int) : Option Int := (bs.map (·.1)).find? fun k => decide (m < k)
def GoodB (bs : List (Int × Int)) : Prop := bs.length ≤ 20 ∧ (bs.map (·.1)).Pairwise (· < ·) ∧ ∀ b ∈ bs, 0 ≤ b.1 ∧ b.1 < 2 ^ 120
def BrAt (H : Hp) (a : Addr) (bs : List (Int × Int)) : Prop := ∃ as, H a = some (.tup (as.map V.ref)) ∧ TupsAt H as (bs.map stepV)
theorem BrAt.mono {H H' : Hp} {a : Addr} {bs : List (Int × Int)} (h : BrAt H a bs) (t : Tups H H') : BrAt H' a bs := by
  obtain ⟨as, h1, h2⟩ := h
  exact ⟨as, t _ _ h1, h2.mono t⟩
theorem find_yes {m n : Int} (r : List Int) (c : m < n) : (n :: r).find? (fun k => decide (m < k)) = some n := by simp [List.find?_cons, c]
theorem find_skip {m n : Int} (r : List Int) (c : ¬ m < n) : (n :: r).find? (fun k => decide (m < k)) = r.find? fun k => decide (m < k) := by simp [List.find?_cons, c]
theorem find_least {m x : Int} : ∀ ns : List Int, ns.Pairwise (· < ·) → x ∈ ns → m < x → (∀ y ∈ ns, m < y → x ≤ y) → ns.find? (fun k => decide (m < k)) = some x
  | [], _, h, _, _ => by cases h
  | n :: r, hp, h, h1, h2 => by
    obtain ⟨p1, p2⟩ := List.pairwise_cons.mp hp
    by_cases c : m < n
    · have hx := h2 n List.mem_cons_self c
      have e : x = n := by
        rcases List.mem_cons.mp h with e | e
        · exact e
        · have := p1 x e
          omega
      rw [find_yes r c, e]
    · rw [find_skip r c]
      rcases List.mem_cons.mp h with e | e
      · omega
      · exact find_least r p2 e h1 fun y hy => h2 y (List.mem_cons_of_mem _ hy)
theorem find_no {m : Int} : ∀ ns : List Int, (∀ y ∈ ns, ¬ m < y) → ns.find? (fun k => decide (m < k)) = none
  | [], _ => rfl
  | n :: r, h => by
    rw [find_skip r (h n List.mem_cons_self)]
    exact find_no r fun y hy => h y (List.mem_cons_of_mem _ hy)
theorem next_cons (b : Int × Int) (r : List (Int × Int)) (m : Int) : nextB (b :: r) m = if m < b.1 then some b.1 else nextB r m := by
  unfold nextB
  rw [List.map_cons]
  by_cases c : m < b.1
  · rw [if_pos c, find_yes _ c]
  · rw [if_neg c, find_skip _ c]
theorem next_of {bs : List (Int × Int)} {m n : Int} (h : nextB bs m = some n) : m < n ∧ n ∈ bs.map (·.1) := by
  unfold nextB at h
  have h1 := List.find?_some h
  exact ⟨of_decide_eq_true h1, List.mem_of_find?_eq_some h⟩
theorem next_le {bs : List (Int × Int)} (g : (bs.map (·.1)).Pairwise (· < ·)) {m k : Int} (hk : k ∈ bs.map (·.1)) (h : m < k) : ∃ n, nextB bs m = some n ∧ n ≤ k := by
  unfold nextB
  generalize bs.map (·.1) = ns at g hk
  induction ns with
  | nil => cases hk
  | cons x r ih =>
    obtain ⟨p1, p2⟩ := List.pairwise_cons.mp g
    by_cases c : m < x
    · refine ⟨x, find_yes r c, ?_⟩
      rcases List.mem_cons.mp hk with e | e
      · omega
      · have := p1 k e
        omega
    · rw [find_skip r c]
      rcases List.mem_cons.mp hk with e | e
      · omega
      · exact ih p2 e
def brkL (bs : List (Int × Int)) (L : Lw) : Lw := ⟨L.so, L.ps, L.pl, nextB bs L.pl⟩
def laysB (bs : List (Int × Int)) (Ws : List Wi) (ms : List Int) : List Lw := (laidAll Ws ms).map (brkL bs)
theorem laysB_none (Ws : List Wi) (ms : List Int) : laysB [] Ws ms = laidAll Ws ms := by
  unfold laysB
  have : ∀ L ∈ laidAll Ws ms, brkL [] L = L := fun L hL => by
    obtain ⟨W, _, m, _, rfl⟩ := laidAll_mem hL
    rfl
  calc (laidAll Ws ms).map (brkL []) = (laidAll Ws ms).map id := List.map_congr_left this
    _ = laidAll Ws ms := List.map_id _
def spNextBreak : Sp := fun vs H Q _ => ∃ (m : Int) (b : Addr) (bs : List (Int × Int)), vs = [.int m, .ref b] ∧ BrAt H b bs ∧ GoodB bs ∧ ∀ H', Same H H' → Q (letV (nextB bs m)) H'
def spWithB : Sp := fun vs H Q _ => ∃ (a c b : Addr) (as : List Addr) (Ws : List Wi) (ms : List Int) (bs : List (Int × Int)), vs = [.ref a, .ref c, .ref b] ∧ H a = some (.tup (as.map V.ref)) ∧ RowAt H as Ws ∧ H c = some (.tup (ms.map V.int)) ∧ Ws.length = ms.length ∧ Ws.length ≤ 60 ∧ BrAt H b bs ∧ GoodB bs ∧
  ∀ H' o, Same H H' → H o = none → StrandAt H' o (laysB bs Ws ms) → Q (.ref o) H'
def spSomeBreaks : Sp := fun vs H Q _ => ∃ (p : Addr) (T : Nat) (most : Int) (far : Bool), vs = [.ref p, .int most, .bl far] ∧ PotC H p T ∧ T < 2 ^ 37 ∧ 0 ≤ most ∧ most ≤ 20 ∧
  ∀ H' o bs, PotC H' p (T + 50) → Keep p p H H' → BrAt H' o bs → GoodB bs → H o = none → Q (.ref o) H'
def spOneStep : Sp := fun vs H Q _ => ∃ (p : Addr) (T : Nat), vs = [.ref p] ∧ PotC H p T ∧ T < 2 ^ 38 ∧
  ∀ H' a (W : Wi), WispAt H' a W.1 W.2 → GoodW W → H a = none → PotC H' p (T + 3) → Keep p p H H' → Q (.ref a) H'
def spMoments : Sp := fun vs H Q _ => ∃ (p : Addr) (T : Nat) (many : Int) (b : Addr) (bs : List (Int × Int)), vs = [.ref p, .int many, .ref b] ∧ PotC H p T ∧ T < 2 ^ 37 ∧ 0 ≤ many ∧ many ≤ 60 ∧ BrAt H b bs ∧ GoodB bs ∧
  ∀ H' o (ms : List Int), PotC H' p (T + 130) → Keep p p H H' → H' o = some (.tup (ms.map V.int)) → (ms.length : Int) = many → (∀ m ∈ ms, 0 ≤ m ∧ m < 2 ^ 121) → H o = none → Q (.ref o) H'
def spDue35 : Sp := fun vs H Q _ => ∃ (a c b : Addr) (as : List Addr) (Ws : List Wi) (ms : List Int) (bs : List (Int × Int)), vs = [.ref a, .ref c, .ref b] ∧ H a = some (.tup (as.map V.ref)) ∧ RowAt H as Ws ∧ H c = some (.tup (ms.map V.int)) ∧ Ws.length = ms.length ∧ Ws.length ≤ 60 ∧ BrAt H b bs ∧ bs.length ≤ 20 ∧
  ∀ H' o, Same H H' → H o = none → StrandAt H' o (laysB bs Ws ms) → Q (.ref o) H'
theorem TupsAt.rev {H : Hp} {as : List Addr} {bs : List (Int × Int)} (h : TupsAt H as (bs.map stepV)) : TupsAt H as.reverse (bs.reverse.map stepV) := by
  have hl : as.length = bs.length := by rw [h.1, List.length_map]
  refine ⟨by simp [hl], fun i a ha => ?_⟩
  have hi : i < as.length := by
    have := (List.getElem?_eq_some_iff.mp ha).1
    simpa using this
  rw [List.getElem?_reverse hi] at ha
  obtain ⟨xs, h1, h2⟩ := h.2 _ a ha
  refine ⟨xs, ?_, h2⟩
  rw [List.map_reverse, List.getElem?_reverse (by simp; omega)]
  simpa [hl] using h1
theorem walk_zipT {K : PySem.W.Frag} {a b : Addr} {xs ys : List V} (hl : xs.length = ys.length) : Walk (RZ.ItzT K a b) xs.length (fun H => SqT K H a xs ∧ SqT K H b ys) (YPair (fun i => xs[i]?) (fun i => ys[i]?)) where
  goes i H hi q := ⟨xs, ys, xs[i], ys[i]'(hl ▸ hi), q.1, q.2, List.getElem?_eq_getElem hi, List.getElem?_eq_getElem (hl ▸ hi)⟩
  stops H q := ⟨xs, ys, q.1, q.2, .inl (Nat.le_refl _)⟩
  yields i H v H' _ q y := by
    obtain ⟨c, x, z, k1, k2, k3, k4, k5⟩ := y
    exact ⟨c, x, z, k1, k2, k3, k4 xs q.1, k5 ys q.2⟩
theorem drop_back {bs : List (Int × Int)} {i : Nat} {b : Int × Int} (h : bs.reverse[i]? = some b) : bs.drop (bs.length - (i + 1)) = b :: bs.drop (bs.length - i) := by
  have hi : i < bs.length := by
    have := (List.getElem?_eq_some_iff.mp h).1
    simpa using this
  rw [List.getElem?_reverse hi] at h
  obtain ⟨h1, h2⟩ := List.getElem?_eq_some_iff.mp h
  rw [show bs.length - (i + 1) = bs.length - 1 - i by omega, List.drop_eq_getElem_cons h1, h2, show bs.length - 1 - i + 1 = bs.length - i by omega]
theorem laysB_mem {bs : List (Int × Int)} {Ws : List Wi} {ms : List Int} {L : Lw} (h : L ∈ laysB bs Ws ms) : ∃ W ∈ Ws, ∃ m ∈ ms, L = brkL bs (laidOf W m) := by
  obtain ⟨M, hM, rfl⟩ := List.mem_map.mp h
  obtain ⟨W, hW, m, hm, rfl⟩ := laidAll_mem hM
  exact ⟨W, hW, m, hm, rfl⟩
theorem laysB_good {bs : List (Int × Int)} {Ws : List Wi} {ms : List Int} (gb : GoodB bs) (gw : ∀ W ∈ Ws, GoodW W) (gm : ∀ m ∈ ms, 0 ≤ m ∧ m < 2 ^ 121) : ∀ L ∈ laysB bs Ws ms, GoodL L := fun L hL => by
  obtain ⟨W, hW, m, hm, rfl⟩ := laysB_mem hL
  have g := gw W hW
  have b := gm m hm
  refine ⟨g.1, g.2.1, g.2.2.1, b.1, Int.lt_trans b.2 (by decide), fun n e => ?_⟩
  obtain ⟨n1, n2⟩ := next_of (bs := bs) (m := m) (n := n) e
  obtain ⟨x, hx, rfl⟩ := List.mem_map.mp n2
  exact ⟨n1, Int.lt_trans (gb.2.2 x hx).2 (by decide)⟩
theorem thickS_zero : ∀ {Ls : List Lw} {p : Int}, (∀ L ∈ Ls, thickL L p = 0) → thickS Ls p = 0
  | [], _, _ => rfl
  | L :: r, p, h => by
    have e : thickS (L :: r) p = thickL L p + thickS r p := rfl
    rw [e, h L List.mem_cons_self, thickS_zero fun M hM => h M (List.mem_cons_of_mem _ hM)]
    rfl
theorem laysB_cut {bs : List (Int × Int)} {Ws : List Wi} {ms : List Int} (gb : GoodB bs) {k : Int} (hk : k ∈ bs.map (·.1)) : thickS ((laysB bs Ws ms).filter fun L => decide (L.pl < k)) k = 0 := by
  refine thickS_zero fun L hL => ?_
  obtain ⟨h1, h2⟩ := List.mem_filter.mp hL
  have h2 : L.pl < k := of_decide_eq_true h2
  obtain ⟨W, hW, m, hm, rfl⟩ := laysB_mem h1
  have h2 : m < k := h2
  obtain ⟨n, e, hn⟩ := next_le gb.2.1 hk h2
  show (if k < m then 0 else match nextB bs m with | none => thickAt W.2 (k - m) | some n => if n ≤ k then 0 else thickAt W.2 (k - m)) = 0
  rw [e]
  show (if k < m then 0 else if n ≤ k then 0 else thickAt W.2 (k - m)) = 0
  rw [if_neg (by omega), if_pos hn]
/-- row, moments, breaks and the strand that is due -/
def LotB (H : Hp) (e : Addr) : Prop := ∃ (r c b d : Addr) (as : List Addr) (Ws : List Wi) (ms : List Int) (bs : List (Int × Int)), H e = some (.tup [.ref r, .ref c, .ref b, .ref d]) ∧ H r = some (.tup (as.map V.ref)) ∧ RowAt H as Ws ∧ H c = some (.tup (ms.map V.int)) ∧ Ws.length = ms.length ∧ Ws.length ≤ 60 ∧ (∀ W ∈ Ws, GoodW W) ∧ (∀ m ∈ ms, 0 ≤ m ∧ m < 2 ^ 121) ∧ BrAt H b bs ∧ GoodB bs ∧ StrandAt H d (laysB bs Ws ms)
theorem LotB.mono {H H' : Hp} {e : Addr} (h : LotB H e) (t : Tups H H') : LotB H' e := by
  obtain ⟨r, c, b, d, as, Ws, ms, bs, h1, h2, h3, h4, h5, h6, h7, h8, h9, h10, h11⟩ := h
  exact ⟨r, c, b, d, as, Ws, ms, bs, t _ _ h1, t _ _ h2, h3.mono t, t _ _ h4, h5, h6, h7, h8, h9.mono t, h10, h11.mono t⟩
theorem GoodB.nil : GoodB [] := ⟨Nat.zero_le _, List.Pairwise.nil, fun b hb => by cases hb⟩
theorem strand_ne {K : PySem.W.Frag} {H : Hp} {a b : Addr} {Ls : List Lw} {Q : VK} (ha : StrandAt H a Ls) (hb : StrandAt H b Ls) (g : ∀ L ∈ Ls, GoodL L) (q : Q (.bl false) H) : rNeD K (.ref a) (.ref b) H Q := by
  have sh := (strand_sh g).shaped (Nat.le_trans (strand_depth Ls) (by decide))
  refine ⟨strandD Ls, strandD Ls, ha.dp, hb.dp, sh, sh, ?_⟩
  rw [SeqAt.eqv_refl _ (SeqAt.canLay_of_shaped sh)]
  exact q
/-! ### zip where the second one is no longer -/
theorem lcZipS {K : PySem.W.Frag} {a b : Addr} {xs ys : List V} {g : TG} {tt : TT} {te : TE} {us : List Nat} {σ : L2.St} {H1 : Hp} {D : Addr} {Qd : Hp → Prop} (hl : ys.length ≤ xs.length) (Pv : Nat → Hp → Prop) (h0 : Pv 0 (upd H1 D (.lst []))) (hq : ∀ i H, Pv i H → SqT K H a xs ∧ SqT K H b ys)
    (hs : ∀ i x y T H, xs[i]? = some x → ys[i]? = some y → H T = none → Pv i H → g (.ref T) (wipe σ us) (upd H T (.tup [x, y])) fun σ2 H2 => wipe σ2 us = wipe σ us ∧ tt σ2 H2 fun c H3 =>
      if c = true then te σ2 H3 fun y H4 => ∃ acc, H4 D = some (.lst acc) ∧ acc.length < sizeLine ∧ Pv (i + 1) (upd H4 D (.lst (acc ++ [y]))) else Pv (i + 1) H3) (hd : ∀ H, Pv ys.length H → Qd H) :
    ∃ W : Nat → Nat → Hp → Prop, (∃ m, W 0 m (upd H1 D (.lst []))) ∧ ∀ i m H, W i m H →
      ((RZ.ItzT K a b).stop i H ∧ Qd H) ∨ ((RZ.ItzT K a b).go i H ∧ ∃ Nx : Hp → Prop, (∀ H', Nx H' → ∃ m', m' < m ∧ W (i + 1) m' H') ∧ ∀ x H', (RZ.ItzT K a b).yld i H x H' → g x (wipe σ us) H' fun σ2 H2 => wipe σ2 us = wipe σ us ∧ tt σ2 H2 fun c H3 =>
        if c = true then te σ2 H3 fun y H4 => ∃ acc, H4 D = some (.lst acc) ∧ acc.length < sizeLine ∧ Nx (upd H4 D (.lst (acc ++ [y]))) else Nx H3) := by
  refine ⟨fun i m H => i + m = ys.length ∧ Pv i H, ⟨ys.length, Nat.zero_add _, h0⟩, fun i m H ⟨em, p⟩ => ?_⟩
  obtain ⟨q1, q2⟩ := hq i H p
  by_cases hi : i < ys.length
  · have g1 : xs[i]? = some (xs[i]'(by omega)) := List.getElem?_eq_getElem (by omega)
    have g2 : ys[i]? = some ys[i] := List.getElem?_eq_getElem hi
    refine .inr ⟨⟨xs, ys, _, _, q1, q2, g1, g2⟩, Pv (i + 1), fun H' p' => ⟨m - 1, by omega, by omega, p'⟩, fun v H' hy => ?_⟩
    obtain ⟨T, x, y, rfl, nT, rfl, f1, f2⟩ := hy
    exact hs i x y T H (f1 _ q1) (f2 _ q2) nT p
  · have e : i = ys.length := by omega
    subst e
    exact .inl ⟨⟨xs, ys, q1, q2, .inr (Nat.le_refl _)⟩, hd H p⟩
theorem cut_tail (xs : List V) : cutV xs (some 1) none = xs.drop 1 := by
  unfold cutV
  have h : HT.sIx xs.length 0 (some 1) = min 1 xs.length := HT.sIx_nat xs.length 0 1
  rw [h]
  cases xs with
  | nil => rfl
  | cons x r =>
    show ((x :: r).drop (min 1 (r.length + 1))).take (r.length + 1 - min 1 (r.length + 1)) = r
    rw [show min 1 (r.length + 1) = 1 by omega]
    show r.take (r.length + 1 - 1) = r
    simp
/-! ### things of any kind -/
section
variable {B : Int}
abbrev topB : Int := 2 ^ 250
inductive Th where
  | int (n : Int)
  | bl (b : Bool)
  | oth
  | tup (ts : List Th)
/-- what such a thing is in the heap -/
inductive ThAt (B : Int) (H : Hp) : V → Th → Prop where
  | int (n : Int) (h1 : -B ≤ n) (h2 : n ≤ B) : ThAt B H (.int n) (.int n)
  | bl (b : Bool) : ThAt B H (.bl b) (.bl b)
  | non : ThAt B H .non .oth
  | str (z : Str) : ThAt B H (.str z) .oth
  | lst {a : Addr} {xs : List V} (e : H a = some (.lst xs)) : ThAt B H (.ref a) .oth
  | dic {a : Addr} {kvs : List (Key × V)} (e : H a = some (.dK kvs)) : ThAt B H (.ref a) .oth
  | tup {a : Addr} {vs : List V} {ts : List Th} (e : H a = some (.tup vs)) (hl : vs.length = ts.length) (h : ∀ (i : Nat) (v : V) (t : Th), vs[i]? = some v → ts[i]? = some t → ThAt B H v t) : ThAt B H (.ref a) (.tup ts)
/-- tuples stay, lists stay lists, dicts stay dicts -/
def Kinds (H H' : Hp) : Prop := Tups H H' ∧ (∀ a xs, H a = some (.lst xs) → ∃ ys, H' a = some (.lst ys)) ∧ ∀ a kvs, H a = some (.dK kvs) → ∃ kvs', H' a = some (.dK kvs')
theorem Kinds.same {H H' : Hp} (s : Same H H') : Kinds H H' := ⟨Tups.same s, fun a xs e => ⟨xs, s _ _ e⟩, fun a kvs e => ⟨kvs, s _ _ e⟩⟩
theorem Kinds.trans {H H1 H2 : Hp} (a : Kinds H H1) (b : Kinds H1 H2) : Kinds H H2 := ⟨a.1.trans b.1, fun c xs e => by
  obtain ⟨ys, e1⟩ := a.2.1 c xs e
  exact b.2.1 c ys e1, fun c kvs e => by
  obtain ⟨ys, e1⟩ := a.2.2 c kvs e
  exact b.2.2 c ys e1⟩
theorem Kinds.put {H : Hp} {R : Addr} {xs ys : List V} (e : H R = some (.lst xs)) : Kinds H (upd H R (.lst ys)) := by
  refine ⟨Tups.ls e, fun a zs ha => ?_, fun a kvs ha => ?_⟩
  · by_cases c : a = R
    · subst c
      exact ⟨ys, upd_same⟩
    · exact ⟨zs, (upd_ne c).trans ha⟩
  · refine ⟨kvs, (upd_ne fun c => ?_).trans ha⟩
    rw [c, e] at ha
    cases ha
theorem Kinds.keep {p : Addr} {H H' : Hp} {T U : Nat} (k : Keep p p H H') (h : PotC H p T) (h' : PotC H' p U) : Kinds H H' := by
  refine ⟨k.tupsC h, fun a xs e => ?_, fun a kvs e => ?_⟩
  · by_cases c : a = p
    · subst c
      obtain ⟨_, _, _, e2, _⟩ := h'
      exact ⟨_, e2⟩
    · exact ⟨xs, k.at c e⟩
  · refine ⟨kvs, k.at (fun c => ?_) e⟩
    obtain ⟨_, _, _, e2, _⟩ := h
    rw [c, e2] at e
    cases e
theorem ThAt.mono {H H' : Hp} (k : Kinds H H') {v : V} {t : Th} (h : ThAt B H v t) : ThAt B H' v t := by
  induction h with
  | int n h1 h2 => exact .int n h1 h2
  | bl b => exact .bl b
  | non => exact .non
  | str z => exact .str z
  | lst e =>
    obtain ⟨ys, e1⟩ := k.2.1 _ _ e
    exact .lst e1
  | dic e =>
    obtain ⟨ys, e1⟩ := k.2.2 _ _ e
    exact .dic e1
  | tup e hl h ih => exact .tup (k.1 _ _ e) hl ih
theorem ThAt.ty {K : PySem.W.Frag} {H : Hp} {v : V} {t : Th} (h : ThAt B H v t) : ∃ T : String, TyX K H v (.type T) ∧ (match t with
    | .int _ => T = "int"
    | .bl _ => T = "bool"
    | .oth => T = "NoneType" ∨ T = "str" ∨ T = "list" ∨ T = "dict"
    | .tup _ => T = "tuple") := by
  cases h with
  | int n h1 h2 => exact ⟨_, .base (.int n), rfl⟩
  | bl b => exact ⟨_, .base (.bl b), rfl⟩
  | non => exact ⟨_, .base .non, .inl rfl⟩
  | str z => exact ⟨_, .base (.str z), .inr (.inl rfl)⟩
  | lst e => exact ⟨_, .base (.lst e), .inr (.inr (.inl rfl))⟩
  | dic e => exact ⟨_, .base (.dK e), .inr (.inr (.inr rfl))⟩
  | tup e hl h => exact ⟨_, .base (.tup e), rfl⟩
def Th.isT : Th → Bool
  | .tup _ => true
  | _ => false
def Th.isI : Th → Bool
  | .int _ => true
  | .bl _ => true
  | _ => false
def Th.isB : Th → Bool
  | .bl _ => true
  | _ => false
theorem isi_tup {K : PySem.W.Frag} {H : Hp} {v : V} {t : Th} (h : ThAt B H v t) : ∃ T : String, TyX K H v (.type T) ∧ PySem.W.kitOne K (.type T) (.type "tuple") = some t.isT := by
  obtain ⟨T, hT, ht⟩ := h.ty (K := K)
  refine ⟨T, hT, ?_⟩
  cases t with
  | int n =>
    have : T = "int" := ht
    subst this
    exact kit_ty (show kitB "int" "tuple" = some false by decide +kernel)
  | bl b =>
    have : T = "bool" := ht
    subst this
    exact kit_ty (show kitB "bool" "tuple" = some false by decide +kernel)
  | oth =>
    rcases ht with rfl | rfl | rfl | rfl
    · exact kit_ty (show kitB "NoneType" "tuple" = some false by decide +kernel)
    · exact kit_ty (show kitB "str" "tuple" = some false by decide +kernel)
    · exact kit_ty (show kitB "list" "tuple" = some false by decide +kernel)
    · exact kit_ty (show kitB "dict" "tuple" = some false by decide +kernel)
  | tup ts =>
    have : T = "tuple" := ht
    subst this
    exact kit_ty (show kitB "tuple" "tuple" = some true by decide +kernel)
theorem isi_int {K : PySem.W.Frag} {H : Hp} {v : V} {t : Th} (h : ThAt B H v t) : ∃ T : String, TyX K H v (.type T) ∧ PySem.W.kitOne K (.type T) (.type "int") = some t.isI := by
  obtain ⟨T, hT, ht⟩ := h.ty (K := K)
  refine ⟨T, hT, ?_⟩
  cases t with
  | int n =>
    have : T = "int" := ht
    subst this
    exact kit_ty (show kitB "int" "int" = some true by decide +kernel)
  | bl b =>
    have : T = "bool" := ht
    subst this
    exact kit_ty (show kitB "bool" "int" = some true by decide +kernel)
  | oth =>
    rcases ht with rfl | rfl | rfl | rfl
    · exact kit_ty (show kitB "NoneType" "int" = some false by decide +kernel)
    · exact kit_ty (show kitB "str" "int" = some false by decide +kernel)
    · exact kit_ty (show kitB "list" "int" = some false by decide +kernel)
    · exact kit_ty (show kitB "dict" "int" = some false by decide +kernel)
  | tup ts =>
    have : T = "tuple" := ht
    subst this
    exact kit_ty (show kitB "tuple" "int" = some false by decide +kernel)
theorem isi_bl {K : PySem.W.Frag} {H : Hp} {v : V} {t : Th} (h : ThAt B H v t) : ∃ T : String, TyX K H v (.type T) ∧ PySem.W.kitOne K (.type T) (.type "bool") = some t.isB := by
  obtain ⟨T, hT, ht⟩ := h.ty (K := K)
  refine ⟨T, hT, ?_⟩
  cases t with
  | int n =>
    have : T = "int" := ht
    subst this
    exact kit_ty (show kitB "int" "bool" = some false by decide +kernel)
  | bl b =>
    have : T = "bool" := ht
    subst this
    exact kit_ty (show kitB "bool" "bool" = some true by decide +kernel)
  | oth =>
    rcases ht with rfl | rfl | rfl | rfl
    · exact kit_ty (show kitB "NoneType" "bool" = some false by decide +kernel)
    · exact kit_ty (show kitB "str" "bool" = some false by decide +kernel)
    · exact kit_ty (show kitB "list" "bool" = some false by decide +kernel)
    · exact kit_ty (show kitB "dict" "bool" = some false by decide +kernel)
  | tup ts =>
    have : T = "tuple" := ht
    subst this
    exact kit_ty (show kitB "tuple" "bool" = some false by decide +kernel)
theorem ThAt.tupE {H : Hp} {v : V} {ts : List Th} (h : ThAt B H v (.tup ts)) : ∃ a vs, v = .ref a ∧ H a = some (.tup vs) ∧ vs.length = ts.length ∧ ∀ (i : Nat) (v : V) (t : Th), vs[i]? = some v → ts[i]? = some t → ThAt B H v t := by
  cases h with
  | tup e hl h => exact ⟨_, _, rfl, e, hl, h⟩
theorem ThAt.intE {H : Hp} {v : V} {n : Int} (h : ThAt B H v (.int n)) : v = .int n := by
  cases h
  rfl
theorem ThAt.intB {H : Hp} {v : V} {n : Int} (h : ThAt B H v (.int n)) : -B ≤ n ∧ n ≤ B := by
  cases h with
  | int n h1 h2 => exact ⟨h1, h2⟩
theorem ThAt.up {B B' : Int} {H : Hp} {v : V} {t : Th} (l : B ≤ B') (h : ThAt B H v t) : ThAt B' H v t := by
  induction h with
  | int n h1 h2 => exact .int n (by omega) (by omega)
  | bl b => exact .bl b
  | non => exact .non
  | str z => exact .str z
  | lst e => exact .lst e
  | dic e => exact .dic e
  | tup e hl h ih => exact .tup e hl ih
/-- wholes -/
def whT (t : Th) (least : Int) : Bool := match t with
  | .int n => decide (least ≤ n)
  | _ => false
def isBr : Th → Bool
  | .tup [a, b] => whT a 0 && whT b 0
  | _ => false
def firstT : Th → Int
  | .tup (.int n :: _) => n
  | _ => 0
def risesI : List Int → Bool
  | a :: b :: r => decide (a < b) && risesI (b :: r)
  | _ => true
def areBr : Th → Bool
  | .tup ts => decide (ts.length ≤ 20) && ts.all isBr && risesI (ts.map firstT)
  | _ => false
theorem wh_of {t : Th} {n : Int} (h : whT t n = true) : ∃ m, t = .int m ∧ n ≤ m := by
  cases t with
  | int m => exact ⟨m, rfl, of_decide_eq_true h⟩
  | bl b => cases h
  | oth => cases h
  | tup ts => cases h
theorem isBr_of {t : Th} (h : isBr t = true) : ∃ m l, t = .tup [.int m, .int l] ∧ 0 ≤ m ∧ 0 ≤ l := by
  cases t with
  | int m => cases h
  | bl b => cases h
  | oth => cases h
  | tup ts =>
    match ts, h with
    | [], h => cases h
    | [_], h => cases h
    | [a, b], h =>
      obtain ⟨h1, h2⟩ := Bool.and_eq_true_iff.mp (show (whT a 0 && whT b 0) = true from h)
      obtain ⟨m, rfl, m0⟩ := wh_of h1
      obtain ⟨l, rfl, l0⟩ := wh_of h2
      exact ⟨m, l, rfl, m0, l0⟩
    | _ :: _ :: _ :: _, h => cases h
def spWholeT : Sp := fun vs H Q _ => ∃ (v : V) (t : Th) (least : Int), vs = [v, .int least] ∧ ThAt topB H v t ∧ Q (.bl (whT t least)) H
def lenIn (t : Th) (a b : Int) : Bool := match t with
  | .tup ts => decide (a ≤ (ts.length : Int)) && decide ((ts.length : Int) ≤ b)
  | _ => false
def spTupleT : Sp := fun vs H Q _ => ∃ (v : V) (t : Th) (a b : Int), vs = [v, .int a, .int b] ∧ ThAt topB H v t ∧ Q (.bl (lenIn t a b)) H
def spIsBreak : Sp := fun vs H Q _ => ∃ (v : V) (t : Th), vs = [v] ∧ ThAt topB H v t ∧ Q (.bl (isBr t)) H
def spRise : Sp := fun vs H Q _ => ∃ (a : Addr) (ns : List Int), vs = [.ref a] ∧ H a = some (.lst (ns.map V.int)) ∧ ns.length ≤ 60 ∧ ∀ H', Same H H' → Q (.bl (risesI ns)) H'
def spAreBr : Sp := fun vs H Q _ => ∃ (v : V) (t : Th), vs = [v] ∧ ThAt topB H v t ∧ ∀ H', Same H H' → Q (.bl (areBr t)) H'
def spWhole1 : Sp := fun vs H Q _ => ∃ (v : V) (t : Th), vs = [v] ∧ ThAt topB H v t ∧ Q (.bl (whT t 0)) H
/-- ints and tuples of them -/
inductive IT : Th → Prop where
  | int {n : Int} (h1 : -2 ^ 250 ≤ n) (h2 : n ≤ 2 ^ 250) : IT (.int n)
  | tup {ts : List Th} (hl : ts.length ≤ 60) (h : ∀ t ∈ ts, IT t) : IT (.tup ts)
mutual
def Th.deep : Th → Nat
  | .tup ts => Th.deepAll ts + 1
  | _ => 0
def Th.deepAll : List Th → Nat
  | [] => 0
  | t :: r => max t.deep (Th.deepAll r)
end
theorem deep_mem : ∀ {ts : List Th} {t : Th}, t ∈ ts → t.deep ≤ Th.deepAll ts
  | x :: r, t, h => by
    show t.deep ≤ max x.deep (Th.deepAll r)
    rcases List.mem_cons.mp h with rfl | h
    · omega
    · have := deep_mem h
      omega
def spBent (n : Nat) : Sp := fun vs H Q _ => ∃ (B : Int) (p : Addr) (T : Nat) (v : V) (t : Th), vs = [.ref p, v] ∧ PotC H p T ∧ T + 4 * n < 2 ^ 36 ∧ ThAt B H v t ∧ IT t ∧ t.deep < n ∧ n ≤ 10 ∧ 0 ≤ B ∧ ∀ H' u s, PotC H' p (T + 4 * n) → Keep p p H H' → ThAt (2 * B + 100) H' u s → Q u H'
theorem Keep.newK {p a : Addr} {H H1 : Hp} {o : HO} (k : Keep p p H H1) (h : H1 a = none) : Keep p p H (upd H1 a o) := k.new h
theorem th_take {H : Hp} {vs : List V} {ts : List Th} (h : ∀ (i : Nat) (v : V) (t : Th), vs[i]? = some v → ts[i]? = some t → ThAt B H v t) (n : Nat) : ∀ (i : Nat) (v : V) (t : Th), (vs.take n)[i]? = some v → (ts.take n)[i]? = some t → ThAt B H v t := fun i v t h1 h2 => by
  rw [List.getElem?_take] at h1 h2
  split at h1
  · next c =>
    rw [if_pos c] at h2
    exact h i v t h1 h2
  · cases h1
theorem th_drop {H : Hp} {vs : List V} {ts : List Th} (h : ∀ (i : Nat) (v : V) (t : Th), vs[i]? = some v → ts[i]? = some t → ThAt B H v t) (n : Nat) : ∀ (i : Nat) (v : V) (t : Th), (vs.drop n)[i]? = some v → (ts.drop n)[i]? = some t → ThAt B H v t := fun i v t h1 h2 => by
  rw [List.getElem?_drop] at h1 h2
  exact h _ v t h1 h2
theorem th_app {H : Hp} {vs ws : List V} {ts ss : List Th} (hl : vs.length = ts.length) (h : ∀ (i : Nat) (v : V) (t : Th), vs[i]? = some v → ts[i]? = some t → ThAt B H v t) (g : ∀ (i : Nat) (v : V) (t : Th), ws[i]? = some v → ss[i]? = some t → ThAt B H v t) : ∀ (i : Nat) (v : V) (t : Th), (vs ++ ws)[i]? = some v → (ts ++ ss)[i]? = some t → ThAt B H v t := fun i v t h1 h2 => by
  by_cases c : i < vs.length
  · rw [List.getElem?_append_left c] at h1
    rw [List.getElem?_append_left (by omega)] at h2
    exact h i v t h1 h2
  · rw [List.getElem?_append_right (by omega)] at h1
    rw [List.getElem?_append_right (by omega), ← hl] at h2
    exact g _ v t h1 h2
/-- a tuple of things: its values and what they are -/
def ThsAt (B : Int) (H : Hp) (vs : List V) : Prop := ∃ ts : List Th, vs.length = ts.length ∧ ∀ (i : Nat) (v : V) (t : Th), vs[i]? = some v → ts[i]? = some t → ThAt B H v t
theorem ThsAt.app {H : Hp} {vs ws : List V} (a : ThsAt B H vs) (b : ThsAt B H ws) : ThsAt B H (vs ++ ws) := by
  obtain ⟨ts, h1, h2⟩ := a
  obtain ⟨ss, g1, g2⟩ := b
  exact ⟨ts ++ ss, by rw [List.length_append, List.length_append, h1, g1], th_app h1 h2 g2⟩
theorem ThsAt.take {H : Hp} {vs : List V} (a : ThsAt B H vs) (n : Nat) : ThsAt B H (vs.take n) := by
  obtain ⟨ts, h1, h2⟩ := a
  exact ⟨ts.take n, by rw [List.length_take, List.length_take, h1], th_take h2 n⟩
theorem ThsAt.drop {H : Hp} {vs : List V} (a : ThsAt B H vs) (n : Nat) : ThsAt B H (vs.drop n) := by
  obtain ⟨ts, h1, h2⟩ := a
  exact ⟨ts.drop n, by rw [List.length_drop, List.length_drop, h1], th_drop h2 n⟩
theorem ThsAt.one {H : Hp} {v : V} {t : Th} (h : ThAt B H v t) : ThsAt B H [v] := ⟨[t], rfl, fun i u s h1 h2 => by
  cases i with
  | zero =>
    cases h1
    cases h2
    exact h
  | succ i => cases h1⟩
theorem ThsAt.nil {H : Hp} : ThsAt B H [] := ⟨[], rfl, fun i u s h1 h2 => by cases h1⟩
theorem ThsAt.mono {H H' : Hp} {vs : List V} (a : ThsAt B H vs) (k : Kinds H H') : ThsAt B H' vs := by
  obtain ⟨ts, h1, h2⟩ := a
  exact ⟨ts, h1, fun i v t e1 e2 => (h2 i v t e1 e2).mono k⟩
theorem ThsAt.rev {H : Hp} {vs : List V} (a : ThsAt B H vs) : ThsAt B H vs.reverse := by
  obtain ⟨ts, h1, h2⟩ := a
  refine ⟨ts.reverse, by rw [List.length_reverse, List.length_reverse, h1], fun i v t e1 e2 => ?_⟩
  have hi : i < vs.length := by
    have := (List.getElem?_eq_some_iff.mp e1).1
    simpa using this
  rw [List.getElem?_reverse hi] at e1
  rw [List.getElem?_reverse (by omega)] at e2
  exact h2 _ v t e1 (by rw [h1]; exact e2)
theorem ThsAt.tup {H : Hp} {vs : List V} {a : Addr} (h : ThsAt B H vs) (e : H a = some (.tup vs)) : ∃ t, ThAt B H (.ref a) t := by
  obtain ⟨ts, h1, h2⟩ := h
  exact ⟨.tup ts, .tup e h1 h2⟩
theorem ThsAt.mem {H : Hp} {vs : List V} (h : ThsAt B H vs) {v : V} (hv : v ∈ vs) : ∃ t, ThAt B H v t := by
  obtain ⟨ts, h1, h2⟩ := h
  obtain ⟨i, hi, rfl⟩ := List.getElem_of_mem hv
  exact ⟨ts[i]'(by omega), h2 i _ _ (List.getElem?_eq_getElem hi) (List.getElem?_eq_getElem (by omega))⟩
def spOdd : Sp := fun vs H Q _ => vs = [] ∧ ∀ H' o xs, Same H H' → H o = none → H' o = some (.lst xs) → xs.length ≤ 20 → (∀ x ∈ xs, ∃ t, ThAt topB H' x t) → Q (.ref o) H'
def brT (b : Int × Int) : Th := .tup [.int b.1, .int b.2]
def spManyBr : Sp := fun vs H Q _ => ∃ (p : Addr) (T : Nat) (many : Int), vs = [.ref p, .int many] ∧ PotC H p T ∧ T < 2 ^ 37 ∧ 0 ≤ many ∧ many ≤ 20 ∧ ∀ H' o bs, PotC H' p (T + 50) → Keep p p H H' → BrAt H' o bs → bs.length ≤ 20 → (∀ b ∈ bs, 0 ≤ b.1 ∧ b.1 ≤ 2 ^ 200 ∧ 0 ≤ b.2 ∧ b.2 ≤ 2 ^ 200) → Q (.ref o) H'
theorem br_th {H : Hp} {o : Addr} {bs : List (Int × Int)} (h : BrAt H o bs) (bd : ∀ b ∈ bs, -B ≤ b.1 ∧ b.1 ≤ B ∧ -B ≤ b.2 ∧ b.2 ≤ B) : ThAt B H (.ref o) (.tup (bs.map brT)) := by
  obtain ⟨as, e, tb⟩ := h
  have hl : as.length = bs.length := by rw [tb.1, List.length_map]
  refine .tup e (by rw [List.length_map, List.length_map, hl]) fun i v t h1 h2 => ?_
  obtain ⟨a, m, l, rfl, ep, ea⟩ := step_get tb h1
  rw [List.getElem?_map, ep] at h2
  have : brT (m, l) = t := Option.some.inj h2
  subst this
  have hb := bd _ (List.mem_of_getElem? ep)
  refine .tup ea rfl fun j u s g1 g2 => ?_
  match j, g1, g2 with
  | 0, g1, g2 =>
    cases g1
    cases g2
    exact .int m hb.1 hb.2.1
  | 1, g1, g2 =>
    cases g1
    cases g2
    exact .int l hb.2.2.1 hb.2.2.2
def riseB (p : Int × Int) : Bool := decide (p.1 < p.2)
theorem rises_pairs : ∀ ns : List Int, risesI ns = ((List.zip ns (ns.drop 1)).map riseB).all id
  | [] => rfl
  | [_] => rfl
  | a :: b :: r => by
    have ih := rises_pairs (b :: r)
    show (decide (a < b) && risesI (b :: r)) = _
    rw [ih]
    rfl
theorem iteNF {A C : Prop} (h : A) : if (!false) = true then A else C := iteT h
theorem rises_get : ∀ {ns : List Int} {k : Nat} {a b : Int}, risesI ns = true → ns[k]? = some a → ns[k + 1]? = some b → a < b
  | [], k, a, b, h, h1, _ => by cases h1
  | [x], 0, a, b, h, _, h2 => by cases h2
  | [x], k + 1, a, b, h, h1, _ => by cases h1
  | x :: y :: r, 0, a, b, h, h1, h2 => by
    cases h1
    cases h2
    exact of_decide_eq_true (Bool.and_eq_true_iff.mp h).1
  | x :: y :: r, k + 1, a, b, h, h1, h2 => rises_get (ns := y :: r) (Bool.and_eq_true_iff.mp h).2 h1 h2
theorem rises_idx (ns : List Int) : risesI ns = (((List.range (ns.length - 1)).map fun k => decide (ns.getD k 0 < ns.getD (k + 1) 0)).all id) := by
  rw [rises_pairs]
  congr 1
  refine List.ext_getElem? fun i => ?_
  rw [List.getElem?_map, List.getElem?_map]
  by_cases h : i < ns.length - 1
  · have e1 : ns[i]? = some ns[i] := List.getElem?_eq_getElem (by omega)
    have e2 : ns[i + 1]? = some ns[i + 1] := List.getElem?_eq_getElem (by omega)
    have e3 : (List.zip ns (ns.drop 1))[i]? = some (ns[i], ns[i + 1]) := by
      rw [List.getElem?_zip_eq_some]
      refine ⟨e1, ?_⟩
      rw [List.getElem?_drop, Nat.add_comm]
      exact e2
    rw [e3, List.getElem?_range h]
    show some (riseB (ns[i], ns[i + 1])) = some (decide (ns.getD i 0 < ns.getD (i + 1) 0))
    rw [List.getD_eq_getElem?_getD, List.getD_eq_getElem?_getD, e1, e2]
    rfl
  · rw [List.getElem?_eq_none (by rw [List.length_zip, List.length_drop]; omega), List.getElem?_eq_none (by rw [List.length_range]; omega)]
    rfl
/-- a value of a written thing -/
def ThV (B : Int) (H : Hp) (v : V) : Prop := ∃ t, ThAt B H v t
theorem ThV.mono {H H' : Hp} {v : V} (h : ThV B H v) (k : Kinds H H') : ThV B H' v := by
  obtain ⟨t, h⟩ := h
  exact ⟨t, h.mono k⟩
theorem ThsAt.of : ∀ {H : Hp} {vs : List V}, (∀ v ∈ vs, ThV B H v) → ThsAt B H vs
  | H, [], _ => ThsAt.nil
  | H, v :: r, h => by
    obtain ⟨t, ht⟩ := h v List.mem_cons_self
    exact (ThsAt.one ht).app (ThsAt.of fun u hu => h u (List.mem_cons_of_mem _ hu))
theorem ThV.tup {H : Hp} {a : Addr} {vs : List V} (h : ∀ v ∈ vs, ThV B H v) (n : H a = none) : ThV B (upd H a (.tup vs)) (.ref a) :=
  ((ThsAt.of h).mono (Kinds.same (same_new (Same.refl _) n))).tup upd_same
theorem ThV.lst {H : Hp} {a : Addr} {xs : List V} (e : H a = some (.lst xs)) : ThV B H (.ref a) := ⟨.oth, .lst e⟩
theorem ThsAt.cut {H : Hp} {vs : List V} (a : ThsAt B H vs) (lo hi : Option Int) : ThsAt B H (cutV vs lo hi) := by
  unfold cutV
  exact (a.drop _).take _
theorem slT {K : PySem.W.Frag} {H : Hp} {a : Addr} {vs : List V} {lo hi : Option Int} {Q : VK} {N : Nat} (h : H a = some (.tup vs)) (t : ThsAt B H vs) (hl : vs.length ≤ N) (q : ∀ H' p ws, Same H H' → H' p = some (.tup ws) → ThsAt B H' ws → ws.length ≤ N → Q (.ref p) H') : rSlA K (.ref a) lo hi H Q :=
  slA h fun H' p s e => q H' p _ s e ((t.cut lo hi).mono (Kinds.same s)) (Nat.le_trans (cutV_length _ _ _) hl)
theorem catT {K : PySem.W.Frag} {H : Hp} {a b : Addr} {vs ws : List V} {Q : VK} (ha : H a = some (.tup vs)) (hb : H b = some (.tup ws)) (ta : ThsAt B H vs) (tb : ThsAt B H ws) (hz : vs.length + ws.length ≤ 1000) (q : ∀ H' p, Same H H' → H' p = some (.tup (vs ++ ws)) → ThsAt B H' (vs ++ ws) → Q (.ref p) H') : rCatA K (.ref a) (.ref b) H Q :=
  catA ha hb (Nat.le_of_lt (small1000 hz)) fun H' p s e => q H' p s e ((ta.app tb).mono (Kinds.same s))
theorem log_small {m : Int} (h1 : -2 ^ 250 ≤ m) (h2 : m ≤ 2 ^ 250) : m.natAbs.log2 < 400 := by
  by_cases c : m.natAbs = 0
  · rw [c]
    decide
  · have h : m.natAbs.log2 < 251 := by
      rw [Nat.log2_lt c]
      omega
    omega
mutual
def dataT : Th → PyData
  | .int n => .int n
  | .tup ts => .tuple (dataTs ts)
  | _ => .none
def dataTs : List Th → List PyData
  | [] => []
  | t :: r => dataT t :: dataTs r
end
theorem dataTs_map : ∀ ts : List Th, dataTs ts = ts.map dataT
  | [] => rfl
  | t :: r => by
    show dataT t :: dataTs r = dataT t :: r.map dataT
    rw [dataTs_map r]
theorem it_dp {K : PySem.W.Frag} {H : Hp} {t : Th} (i : IT t) : ∀ {v : V}, ThAt B H v t → Dp K H v (dataT t) := by
  induction i with
  | int h1 h2 =>
    intro v h
    rw [h.intE]
    exact .int _
  | @tup ts hl h ih =>
    intro v hv
    obtain ⟨a, vs, rfl, e, hvl, hh⟩ := hv.tupE
    refine .tup (SqT.of e) ?_
    rw [dataTs_map]
    clear hl h e hv
    induction ts generalizing vs with
    | nil =>
      have : vs = [] := List.eq_nil_of_length_eq_zero hvl
      subst this
      exact .nil
    | cons t r ihr =>
      cases vs with
      | nil => cases hvl
      | cons v ws => exact .cons (ih t List.mem_cons_self (hh 0 v t rfl rfl)) (ihr (fun x hx => ih x (List.mem_cons_of_mem _ hx)) ws (Nat.succ.inj hvl) fun i u s h1 h2 => hh (i + 1) u s h1 h2)
theorem it_sh {t : Th} (i : IT t) : Sh (dataT t) := by
  induction i with
  | int h1 h2 => exact .int (log_small h1 h2)
  | @tup ts hl h ih =>
    show Sh (.tuple (dataTs ts))
    rw [dataTs_map]
    refine .tup fun x hx => ?_
    obtain ⟨t, ht, rfl⟩ := List.mem_map.mp hx
    exact ih t ht
theorem it_depth {t : Th} (i : IT t) : (dataT t).depth ≤ t.deep := by
  induction i with
  | int h1 h2 => exact Nat.le_refl _
  | @tup ts hl h ih =>
    show PyData.depthAll (dataTs ts) + 1 ≤ Th.deepAll ts + 1
    refine Nat.succ_le_succ ?_
    rw [dataTs_map]
    refine depth_all fun x hx => ?_
    obtain ⟨t, ht, rfl⟩ := List.mem_map.mp hx
    exact Nat.le_trans (ih t ht) (deep_mem ht)
theorem deep_pairs {ts : List Th} (h : ∀ t ∈ ts, ∃ m l : Int, t = .tup [.int m, .int l]) : (Th.tup ts).deep < 3 := by
  show Th.deepAll ts + 1 < 3
  have : Th.deepAll ts ≤ 1 := by
    induction ts with
    | nil => exact Nat.zero_le _
    | cons t r ih =>
      obtain ⟨m, l, rfl⟩ := h t List.mem_cons_self
      have := ih fun x hx => h x (List.mem_cons_of_mem _ hx)
      show max (max 0 (max 0 0) + 1) (Th.deepAll r) ≤ 1
      omega
  omega
theorem ThsAt.up {B B' : Int} {H : Hp} {vs : List V} (l : B ≤ B') (h : ThsAt B H vs) : ThsAt B' H vs := by
  obtain ⟨ts, h1, h2⟩ := h
  exact ⟨ts, h1, fun i v t e1 e2 => (h2 i v t e1 e2).up l⟩
theorem areBr_it {H : Hp} {v : V} {t : Th} (hB : B ≤ 2 ^ 250) (h : ThAt B H v t) (e : areBr t = true) : IT t ∧ t.deep < 3 := by
  cases t with
  | int m => cases e
  | bl b => cases e
  | oth => cases e
  | tup ts =>
    obtain ⟨e1, _⟩ := Bool.and_eq_true_iff.mp (show (decide (ts.length ≤ 20) && ts.all isBr && risesI (ts.map firstT)) = true from e)
    obtain ⟨e1, e2⟩ := Bool.and_eq_true_iff.mp e1
    have e1 := of_decide_eq_true e1
    rw [List.all_eq_true] at e2
    obtain ⟨a, vs, rfl, _, hvl, hh⟩ := h.tupE
    refine ⟨.tup (by omega) fun x hx => ?_, deep_pairs fun x hx => ?_⟩
    · obtain ⟨m, l, rfl, m0, l0⟩ := isBr_of (e2 x hx)
      obtain ⟨i, hi, ei⟩ := List.getElem_of_mem hx
      have hx' := hh i _ _ (List.getElem?_eq_getElem (by omega)) (List.getElem?_eq_getElem hi)
      rw [ei] at hx'
      obtain ⟨c, ws, _, _, hwl, hw⟩ := hx'.tupE
      have hwl : ws.length = 2 := hwl
      have b1 := (hw 0 _ (.int m) (List.getElem?_eq_getElem (by omega)) rfl).intB
      have b2 := (hw 1 _ (.int l) (List.getElem?_eq_getElem (by omega)) rfl).intB
      refine .tup (by show 2 ≤ 60; decide) fun y hy => ?_
      simp only [List.mem_cons, List.not_mem_nil, or_false] at hy
      rcases hy with rfl | rfl
      · exact .int (by omega) (by omega)
      · exact .int (by omega) (by omega)
    · obtain ⟨m, l, rfl, _⟩ := isBr_of (e2 x hx)
      exact ⟨m, l, rfl⟩
end
/-! ### wisps, rows and schedules of any kind -/
def numT : Th → Int
  | .int n => n
  | _ => 0
def isStep : Th → Bool
  | .tup [a, b] => whT a 1 && whT b 1
  | _ => false
def fallsT : List Int → Bool
  | a :: b :: r => decide (b < a) && fallsT (b :: r)
  | _ => true
def areSteps : Th → Bool
  | .tup ts => decide (1 ≤ ts.length) && decide (ts.length ≤ 8) && ts.all isStep && fallsT (ts.map firstT)
  | _ => false
def isWispT : Th → Bool
  | .tup [s, st] => whT s 0 && decide (numT s ≤ 1) && areSteps st
  | _ => false
def isRowT : Th → Bool
  | .tup ts => decide (ts.length ≤ 60) && ts.all isWispT
  | _ => false
def goUp : Int → List Th → Bool
  | _, [] => true
  | least, t :: r => whT t least && goUp (numT t) r
def isSchedT (n : Nat) : Th → Bool
  | .tup ts => decide (ts.length = n) && goUp 0 ts
  | _ => false
theorem isStep_of {t : Th} (h : isStep t = true) : ∃ m l, t = .tup [.int m, .int l] ∧ 1 ≤ m ∧ 1 ≤ l := by
  cases t with
  | int m => cases h
  | bl b => cases h
  | oth => cases h
  | tup ts =>
    match ts, h with
    | [], h => cases h
    | [_], h => cases h
    | [a, b], h =>
      obtain ⟨h1, h2⟩ := Bool.and_eq_true_iff.mp (show (whT a 1 && whT b 1) = true from h)
      obtain ⟨m, rfl, m0⟩ := wh_of h1
      obtain ⟨l, rfl, l0⟩ := wh_of h2
      exact ⟨m, l, rfl, m0, l0⟩
    | _ :: _ :: _ :: _, h => cases h
def fallB (p : Int × Int) : Bool := decide (p.2 < p.1)
theorem falls_pairs : ∀ ns : List Int, fallsT ns = ((List.zip ns (ns.drop 1)).map fallB).all id
  | [] => rfl
  | [_] => rfl
  | a :: b :: r => by
    have ih := falls_pairs (b :: r)
    show (decide (b < a) && fallsT (b :: r)) = _
    rw [ih]
    rfl
def spStepT : Sp := fun vs H Q _ => ∃ (v : V) (t : Th), vs = [v] ∧ ThAt topB H v t ∧ Q (.bl (isStep t)) H
def spStepsT : Sp := fun vs H Q _ => ∃ (v : V) (t : Th), vs = [v] ∧ ThAt topB H v t ∧ ∀ H', Same H H' → Q (.bl (areSteps t)) H'
def spWispT : Sp := fun vs H Q _ => ∃ (v : V) (t : Th), vs = [v] ∧ ThAt topB H v t ∧ ∀ H', Same H H' → Q (.bl (isWispT t)) H'
def spRowT : Sp := fun vs H Q _ => ∃ (v : V) (t : Th), vs = [v] ∧ ThAt topB H v t ∧ ∀ H', Same H H' → Q (.bl (isRowT t)) H'
/-- a good row, and a thing of any kind -/
def spSchedT : Sp := fun vs H Q _ => ∃ (v u : V) (ts : List Th) (t : Th), vs = [v, u] ∧ ThAt topB H v (.tup ts) ∧ isRowT (.tup ts) = true ∧ ThAt topB H u t ∧ ∀ H', Same H H' → Q (.bl (isSchedT ts.length t)) H'
def spSchedL : Sp := fun vs H Q _ => ∃ (u : V) (n : Nat) (t : Th), vs = [.int n, u] ∧ ThAt topB H u t ∧ n ≤ 60 ∧ ∀ H', Same H H' → Q (.bl (isSchedT n t)) H'
def spToldT : Sp := fun vs H Q _ => ∃ b : Bool, vs = [.bl b, .bl b] ∧ Q (.bl true) H
def fitsT : Option Int → Int → Bool
  | none, _ => true
  | some l, m => decide (m < l)
def goFall : Option Int → List Th → Bool
  | _, [] => true
  | last, t :: r => isStep t && fitsT last (firstT t) && goFall (some (firstT t)) r
theorem fall_rest : ∀ {ts : List Th} {l : Int}, goFall (some l) ts = (ts.all isStep && fallsT (l :: ts.map firstT))
  | [], l => rfl
  | t :: r, l => by
    have ih := fall_rest (ts := r) (l := firstT t)
    show (isStep t && decide (firstT t < l) && goFall (some (firstT t)) r) = (isStep t && r.all isStep && (decide (firstT t < l) && fallsT (firstT t :: r.map firstT)))
    rw [ih]
    cases isStep t <;> cases decide (firstT t < l) <;> cases r.all isStep <;> rfl
theorem fall_all (ts : List Th) : goFall none ts = (ts.all isStep && fallsT (ts.map firstT)) := by
  cases ts with
  | nil => rfl
  | cons t r =>
    show (isStep t && true && goFall (some (firstT t)) r) = (isStep t && r.all isStep && fallsT (firstT t :: r.map firstT))
    rw [fall_rest]
    cases isStep t <;> cases r.all isStep <;> rfl
def lastV : Option Int → V
  | none => .non
  | some l => .int l
theorem up_idx : ∀ {ts : List Th} {n : Int}, ts.all (fun t => whT t 0) = true → 0 ≤ n → goUp n ts = ((List.range ts.length).map fun k => decide ((if k = 0 then n else numT (ts.getD (k - 1) .oth)) ≤ numT (ts.getD k .oth))).all id
  | [], n, _, _ => rfl
  | t :: r, n, h, hn => by
    obtain ⟨h1, h2⟩ := Bool.and_eq_true_iff.mp (show (whT t 0 && r.all fun t => whT t 0) = true from h)
    obtain ⟨m, rfl, m0⟩ := wh_of h1
    have ih := up_idx (ts := r) (n := m) h2 m0
    show (decide (n ≤ m) && goUp m r) = _
    rw [ih, show (Th.int m :: r).length = r.length + 1 from rfl, List.range_succ_eq_map, List.map_cons, List.all_cons, List.map_map]
    congr 1
    congr 1
    refine List.map_congr_left fun k hk => ?_
    cases k with
    | zero => rfl
    | succ k => rfl
theorem up_all {ts : List Th} (h : ts.all (fun t => whT t 0) = true) : goUp 0 ts = ((List.range (ts.length - 1)).map fun k => decide (numT (ts.getD k .oth) ≤ numT (ts.getD (k + 1) .oth))).all id := by
  cases ts with
  | nil => rfl
  | cons t r =>
    rw [up_idx h (Int.le_refl 0)]
    obtain ⟨h1, h2⟩ := Bool.and_eq_true_iff.mp (show (whT t 0 && r.all fun t => whT t 0) = true from h)
    obtain ⟨m, rfl, m0⟩ := wh_of h1
    rw [show (Th.int m :: r).length = r.length + 1 from rfl, List.range_succ_eq_map, List.map_cons, List.all_cons, List.map_map]
    show (decide (0 ≤ m) && _) = _
    rw [decide_eq_true m0, Bool.true_and]
    rfl
theorem up_whole : ∀ {ts : List Th} {n : Int}, 0 ≤ n → goUp n ts = true → ts.all (fun t => whT t 0) = true
  | [], _, _, _ => rfl
  | t :: r, n, hn, h => by
    obtain ⟨h1, h2⟩ := Bool.and_eq_true_iff.mp (show (whT t n && goUp (numT t) r) = true from h)
    obtain ⟨m, rfl, m0⟩ := wh_of h1
    show (decide (0 ≤ m) && r.all _) = true
    rw [up_whole (n := m) (by omega) h2, decide_eq_true (show 0 ≤ m by omega)]
    rfl
def spSchedule : Sp := fun vs H Q _ => ∃ (p : Addr) (T n : Nat), vs = [.ref p, .int n] ∧ PotC H p T ∧ T < 2 ^ 37 ∧ n ≤ 60 ∧ ∀ H' o (ms : List Int), PotC H' p (T + 1 + n) → Keep p p H H' → H' o = some (.tup (ms.map V.int)) → ms.length = n → (∀ m ∈ ms, 0 ≤ m ∧ m ≤ 2 ^ 200) → ms.Pairwise (fun a b => a ≤ b) → Q (.ref o) H'
def spDWisp8 : Sp := fun vs H Q _ => ∃ (p : Addr) (T : Nat) (sty : Int), vs = [.ref p, .int sty] ∧ PotC H p T ∧ T < 2 ^ 37 ∧ 0 ≤ sty ∧ sty < 3 ∧
  ∀ H' a W, WispAt H' a W.1 W.2 → GoodW W → Falls W.2 → W.2.length ≤ 8 → H a = none → PotC H' p (T + 100) → Keep p p H H' → Q (.ref a) H'
def wispT (W : Wi) : Th := .tup [.int W.1, .tup (W.2.map brT)]
/-- a good wisp, short and falling -/
def GoodT (W : Wi) : Prop := GoodW W ∧ Falls W.2 ∧ W.2.length ≤ 8
theorem steps_th {B : Int} {H : Hp} {st : Addr} {as : List Addr} {ps : List (Int × Int)} (e : H st = some (.tup (as.map V.ref))) (tu : TupsAt H as (ps.map stepV)) (bd : ∀ b ∈ ps, -B ≤ b.1 ∧ b.1 ≤ B ∧ -B ≤ b.2 ∧ b.2 ≤ B) : ThAt B H (.ref st) (.tup (ps.map brT)) := br_th ⟨as, e, tu⟩ bd
theorem wisp_th {H : Hp} {a : Addr} {W : Wi} (h : WispAt H a W.1 W.2) (g : GoodT W) : ThAt (2 ^ 200) H (.ref a) (wispT W) := by
  obtain ⟨st, as, e1, e2, tu⟩ := h
  obtain ⟨⟨gd, s0, s1, _⟩, _, _⟩ := g
  refine .tup e1 rfl fun j u t g1 g2 => ?_
  match j, g1, g2 with
  | 0, g1, g2 =>
    cases g1
    cases g2
    exact .int _ (by omega) (by omega)
  | 1, g1, g2 =>
    cases g1
    cases g2
    exact steps_th e2 tu fun b hb => by
      have := gd.2.2 b hb
      omega
theorem row_th {H : Hp} {r : Addr} {as : List Addr} {Ws : List Wi} (e : H r = some (.tup (as.map V.ref))) (ra : RowAt H as Ws) (g : ∀ W ∈ Ws, GoodT W) : ThAt (2 ^ 200) H (.ref r) (.tup (Ws.map wispT)) := by
  refine .tup e (by rw [List.length_map, List.length_map, ra.1]) fun i v t h1 h2 => ?_
  rw [List.getElem?_map] at h1 h2
  cases ea : as[i]? with
  | none =>
    rw [ea] at h1
    cases h1
  | some a =>
    rw [ea] at h1
    obtain ⟨W, eW, hW⟩ := ra.2 i a ea
    rw [eW] at h2
    have h1 : V.ref a = v := Option.some.inj h1
    have h2 : wispT W = t := Option.some.inj h2
    subst h1
    subst h2
    exact wisp_th hW (g W (List.mem_of_getElem? eW))
theorem falls_of : ∀ {ps : List (Int × Int)}, Falls ps → fallsT ((ps.map brT).map firstT) = true
  | [], _ => rfl
  | [_], _ => rfl
  | a :: b :: r, h => by
    have h1 := (List.pairwise_cons.mp h).1 b List.mem_cons_self
    have ih := falls_of (ps := b :: r) (List.pairwise_cons.mp h).2
    show (decide (b.1 < a.1) && fallsT (((b :: r).map brT).map firstT)) = true
    rw [ih, decide_eq_true h1]
    rfl
theorem good_isWisp {W : Wi} (g : GoodT W) : isWispT (wispT W) = true := by
  obtain ⟨⟨gd, s0, s1, _⟩, fl, l8⟩ := g
  have l1 := gd.1
  have hall : (W.2.map brT).all isStep = true := by
    rw [List.all_eq_true]
    intro t ht
    obtain ⟨b, hb, rfl⟩ := List.mem_map.mp ht
    have := gd.2.2 b hb
    show (decide (1 ≤ b.1) && decide (1 ≤ b.2)) = true
    rw [decide_eq_true (by omega), decide_eq_true (by omega)]
    rfl
  show (decide (0 ≤ W.1) && decide (W.1 ≤ 1) && (decide (1 ≤ (W.2.map brT).length) && decide ((W.2.map brT).length ≤ 8) && (W.2.map brT).all isStep && fallsT ((W.2.map brT).map firstT))) = true
  rw [hall, falls_of fl, List.length_map, decide_eq_true s0, decide_eq_true s1, decide_eq_true l1, decide_eq_true l8]
  rfl
theorem good_isRow {Ws : List Wi} (g : ∀ W ∈ Ws, GoodT W) (h60 : Ws.length ≤ 60) : isRowT (.tup (Ws.map wispT)) = true := by
  show (decide ((Ws.map wispT).length ≤ 60) && (Ws.map wispT).all isWispT) = true
  rw [List.length_map, decide_eq_true h60, Bool.true_and, List.all_eq_true]
  intro t ht
  obtain ⟨W, hW, rfl⟩ := List.mem_map.mp ht
  exact good_isWisp (g W hW)
theorem deep_all {ts : List Th} {n : Nat} (h : ∀ t ∈ ts, t.deep ≤ n) : Th.deepAll ts ≤ n := by
  induction ts with
  | nil => exact Nat.zero_le _
  | cons t r ih =>
    show max t.deep (Th.deepAll r) ≤ n
    have h1 := h t List.mem_cons_self
    have h2 := ih fun x hx => h x (List.mem_cons_of_mem _ hx)
    omega
theorem isRow_it {B : Int} {H : Hp} {v : V} {t : Th} (hB : B ≤ 2 ^ 250) (h : ThAt B H v t) (e : isRowT t = true) : IT t ∧ t.deep < 5 := by
  cases t with
  | int m => cases e
  | bl b => cases e
  | oth => cases e
  | tup ts =>
    obtain ⟨e1, e2⟩ := Bool.and_eq_true_iff.mp (show (decide (ts.length ≤ 60) && ts.all isWispT) = true from e)
    have e1 := of_decide_eq_true e1
    rw [List.all_eq_true] at e2
    obtain ⟨a, vs, rfl, _, hvl, hh⟩ := h.tupE
    have each : ∀ x ∈ ts, IT x ∧ x.deep ≤ 3 := fun x hx => by
      obtain ⟨i, hi, ei⟩ := List.getElem_of_mem hx
      have hx' := hh i _ _ (List.getElem?_eq_getElem (by omega)) (List.getElem?_eq_getElem hi)
      rw [ei] at hx'
      have ew := e2 x hx
      cases x with
      | int m => cases ew
      | bl b => cases ew
      | oth => cases ew
      | tup us =>
        match us, ew, hx' with
        | [], ew, _ => cases ew
        | [_], ew, _ => cases ew
        | _ :: _ :: _ :: _, ew, _ => cases ew
        | [s, st], ew, hx' =>
          obtain ⟨f1, f3⟩ := Bool.and_eq_true_iff.mp (show (whT s 0 && decide (numT s ≤ 1) && areSteps st) = true from ew)
          obtain ⟨f1, f2⟩ := Bool.and_eq_true_iff.mp f1
          obtain ⟨m, rfl, m0⟩ := wh_of f1
          obtain ⟨c, ws, _, _, hwl, hw⟩ := hx'.tupE
          have hwl : ws.length = 2 := hwl
          have b1 := (hw 0 _ (.int m) (List.getElem?_eq_getElem (by omega)) rfl).intB
          have hst := hw 1 _ st (List.getElem?_eq_getElem (by omega)) rfl
          have ist : IT st ∧ st.deep ≤ 2 := by
            cases st with
            | int m => cases f3
            | bl b => cases f3
            | oth => cases f3
            | tup ss =>
              obtain ⟨p1, _⟩ := Bool.and_eq_true_iff.mp (show (decide (1 ≤ ss.length) && decide (ss.length ≤ 8) && ss.all isStep && fallsT (ss.map firstT)) = true from f3)
              obtain ⟨p1, p2⟩ := Bool.and_eq_true_iff.mp p1
              obtain ⟨_, p3⟩ := Bool.and_eq_true_iff.mp p1
              have p3 := of_decide_eq_true p3
              rw [List.all_eq_true] at p2
              obtain ⟨_, ys, _, _, hyl, hy⟩ := hst.tupE
              refine ⟨.tup (by omega) fun y hy' => ?_, ?_⟩
              · obtain ⟨k, l, rfl, _⟩ := isStep_of (p2 y hy')
                obtain ⟨j, hj, ej⟩ := List.getElem_of_mem hy'
                have hyy := hy j _ _ (List.getElem?_eq_getElem (by omega)) (List.getElem?_eq_getElem hj)
                rw [ej] at hyy
                obtain ⟨_, zs, _, _, hzl, hz⟩ := hyy.tupE
                have hzl : zs.length = 2 := hzl
                have c1 := (hz 0 _ (.int k) (List.getElem?_eq_getElem (by omega)) rfl).intB
                have c2 := (hz 1 _ (.int l) (List.getElem?_eq_getElem (by omega)) rfl).intB
                refine .tup (by show 2 ≤ 60; decide) fun z hz => ?_
                simp only [List.mem_cons, List.not_mem_nil, or_false] at hz
                rcases hz with rfl | rfl
                · exact .int (by omega) (by omega)
                · exact .int (by omega) (by omega)
              · show Th.deepAll ss + 1 ≤ 2
                have := deep_all (ts := ss) (n := 1) fun y hy' => by
                  obtain ⟨k, l, rfl, _⟩ := isStep_of (p2 y hy')
                  exact Nat.le_refl _
                omega
          refine ⟨.tup (by show 2 ≤ 60; decide) fun z hz => ?_, ?_⟩
          · simp only [List.mem_cons, List.not_mem_nil, or_false] at hz
            rcases hz with rfl | rfl
            · exact .int (by omega) (by omega)
            · exact ist.1
          · show max 0 (max st.deep 0) + 1 ≤ 3
            have := ist.2
            omega
    refine ⟨.tup e1 fun x hx => (each x hx).1, ?_⟩
    show Th.deepAll ts + 1 < 5
    have := deep_all (ts := ts) (n := 3) fun x hx => (each x hx).2
    omega
theorem places_th {H : Hp} {o : Addr} {ms : List Int} (e : H o = some (.tup (ms.map V.int))) (bd : ∀ m ∈ ms, 0 ≤ m ∧ m ≤ 2 ^ 200) (h60 : ms.length ≤ 60) : ThAt (2 ^ 200) H (.ref o) (.tup (ms.map Th.int)) ∧ IT (.tup (ms.map Th.int)) ∧ (Th.tup (ms.map Th.int)).deep < 5 := by
  refine ⟨.tup e (by rw [List.length_map, List.length_map]) fun i v t h1 h2 => ?_, .tup (by rw [List.length_map]; exact h60) fun t ht => ?_, ?_⟩
  · rw [List.getElem?_map] at h1 h2
    cases em : ms[i]? with
    | none =>
      rw [em] at h1
      cases h1
    | some m =>
      rw [em] at h1 h2
      cases h1
      cases h2
      have := bd m (List.mem_of_getElem? em)
      exact .int m (by omega) (by omega)
  · obtain ⟨m, hm, rfl⟩ := List.mem_map.mp ht
    have := bd m hm
    exact .int (by omega) (by omega)
  · show Th.deepAll (ms.map Th.int) + 1 < 5
    have := deep_all (ts := ms.map Th.int) (n := 0) fun t ht => by
      obtain ⟨m, _, rfl⟩ := List.mem_map.mp ht
      exact Nat.le_refl _
    omega
/-! ### lists of a wisp, a place and None -/
def LstAt (H : Hp) (e : Addr) (L : Lw) : Prop := ∃ wa, H e = some (.lst [.ref wa, .int L.pl, .non]) ∧ WispAt H wa L.so L.ps
def lstD (L : Lw) : PyData := .list [wispD L.so L.ps, .int L.pl, .none]
def LstsAt (H : Hp) (D : Addr) (es : List Addr) (Ls : List Lw) : Prop := es.length = Ls.length ∧ ∀ (i : Nat) (e : Addr), es[i]? = some e → ∃ L, Ls[i]? = some L ∧ LstAt H e L ∧ e ≠ D
theorem LstsAt.nil {H : Hp} {D : Addr} : LstsAt H D [] [] := ⟨rfl, fun i e h => by cases h⟩
theorem LstAt.same {H H' : Hp} {e : Addr} {L : Lw} (s : Same H H') (h : LstAt H e L) : LstAt H' e L := by
  obtain ⟨wa, h1, h2⟩ := h
  exact ⟨wa, s _ _ h1, h2.mono (Tups.same s)⟩
theorem LstsAt.same {H H' : Hp} {D : Addr} {es : List Addr} {Ls : List Lw} (s : Same H H') (h : LstsAt H D es Ls) : LstsAt H' D es Ls :=
  ⟨h.1, fun i e he => by
    obtain ⟨L, h1, h2, h3⟩ := h.2 i e he
    exact ⟨L, h1, h2.same s, h3⟩⟩
theorem LstsAt.put {H : Hp} {D : Addr} {es : List Addr} {Ls : List Lw} {xs ys : List V} (h : LstsAt H D es Ls) (e : H D = some (.lst xs)) : LstsAt (upd H D (.lst ys)) D es Ls :=
  ⟨h.1, fun i c he => by
    obtain ⟨L, h1, ⟨wa, h2, h4⟩, h3⟩ := h.2 i c he
    exact ⟨L, h1, ⟨wa, (upd_ne h3).trans h2, h4.mono (Tups.ls e)⟩, h3⟩⟩
theorem LstsAt.snoc {H : Hp} {D c : Addr} {es : List Addr} {Ls : List Lw} {L : Lw} (h : LstsAt H D es Ls) (hc : LstAt H c L) (n : c ≠ D) : LstsAt H D (es ++ [c]) (Ls ++ [L]) := by
  refine ⟨by rw [List.length_append, List.length_append, h.1]; rfl, fun i e he => ?_⟩
  by_cases hi : i < es.length
  · rw [List.getElem?_append_left hi] at he
    obtain ⟨M, h1, h2, h3⟩ := h.2 i e he
    exact ⟨M, by rw [List.getElem?_append_left (by rw [← h.1]; exact hi)]; exact h1, h2, h3⟩
  · rw [List.getElem?_append_right (by omega)] at he
    have hz : i - es.length = 0 := by
      have := (List.getElem?_eq_some_iff.mp he).1
      have h1 : [c].length = 1 := rfl
      omega
    rw [hz] at he
    have : c = e := Option.some.inj he
    subst this
    refine ⟨L, ?_, hc, n⟩
    rw [List.getElem?_append_right (by rw [← h.1]; omega), ← h.1, hz]
    rfl
theorem lsts_dpA {K : PySem.W.Frag} {H : Hp} {D : Addr} : ∀ {es : List Addr} {Ls : List Lw}, LstsAt H D es Ls → DpAll K H (es.map V.ref) (Ls.map lstD)
  | [], [], _ => .nil
  | [], _ :: _, h => absurd h.1 (by simp)
  | _ :: _, [], h => absurd h.1 (by simp)
  | e :: es, L :: Ls, h => by
    obtain ⟨M, h1, ⟨wa, h2, h3⟩, _⟩ := h.2 0 e rfl
    have : L = M := Option.some.inj h1
    subst this
    exact .cons (.lst (SqL.of h2) (.cons h3.dp (.cons (.int _) (.cons .non .nil)))) (lsts_dpA ⟨Nat.succ.inj (by simpa using h.1), fun i b hb => h.2 (i + 1) b hb⟩)
theorem lsts_ne {K : PySem.W.Frag} {H : Hp} {a b D : Addr} {es fs : List Addr} {Ls : List Lw} {Q : VK} (ea : H a = some (.lst (es.map V.ref))) (eb : H b = some (.lst (fs.map V.ref))) (ha : LstsAt H D es Ls) (hb : LstsAt H b fs Ls) (g : ∀ L ∈ Ls, Good L.ps ∧ 0 ≤ L.so ∧ L.so ≤ 1 ∧ 0 ≤ L.pl ∧ L.pl < 2 ^ 250) (q : Q (.bl false) H) : rNeD K (.ref a) (.ref b) H Q := by
  have sh : SeqAt.shaped (.list (Ls.map lstD)) = true := by
    refine Sh.shaped (.lst fun x hx => ?_) ?_
    · obtain ⟨L, hL, rfl⟩ := List.mem_map.mp hx
      obtain ⟨g1, g2, g3, g4, g5⟩ := g L hL
      refine .lst fun y hy => ?_
      simp only [List.mem_cons, List.not_mem_nil, or_false] at hy
      rcases hy with rfl | rfl | rfl
      · exact wisp_sh g2 g3 g1
      · exact .int (log_lt g4 g5)
      · exact .non
    · refine Nat.le_trans (Nat.succ_le_succ (depth_all (n := 4) fun x hx => ?_)) (by decide)
      obtain ⟨L, hL, rfl⟩ := List.mem_map.mp hx
      show max (wispD L.so L.ps).depth (max 0 (max 0 0)) + 1 ≤ 4
      have := wisp_depth L.so L.ps
      omega
  refine ⟨.list (Ls.map lstD), .list (Ls.map lstD), .lst (SqL.of ea) (lsts_dpA ha), .lst (SqL.of eb) (lsts_dpA hb), sh, sh, ?_⟩
  rw [SeqAt.eqv_refl _ (SeqAt.canLay_of_shaped sh)]
  exact q
/-! ### max of a tuple of whole numbers, with a default -/
theorem maxT_raw {prog : Program} {w : World} {A : Around} {E : Value → Shared → Prop} {t : Shared} {l : Addr} {its : List Value} {ns : List Int} {dv : Value} {Q : Value → Shared → Prop} (hh : A.handled = none) (hl : t.heap.IsTuple l its.toArray) (hi : IntsAre its ns)
    (r : ∀ v h' tk, (∀ b o, t.heap.get? b = some o → h'.get? b = some o) → (ns = [] ∧ v = dv ∨ ∃ M u, v = .int M u ∧ M ∈ ns ∧ ∀ y, y ∈ ns → y ≤ M) → Q v { t with heap := h', toks := tk }) : wpAny (model prog w) A (call (.builtin "max") [.ref l] [("default", dv)]) Q E t := by
  obtain ⟨xs, e⟩ := hi.allInts.items
  have hn : numsOf (intItems xs).toList = ns := by rw [← e]; exact hi.numsOf
  rw [nums_intItems] at hn
  subst hn
  rw [e] at hl
  have lt : l < t.heap.objs.size := by
    obtain ⟨o, e, _⟩ := hl
    exact Heap.lt_size e
  have nn : (t.heap.push { cls := .type "tuple_iterator", data := .fields #[.ref l, .int 0 0] }).objs.size = t.heap.objs.size + 1 := Heap.size_push _ _
  refine maxD_walk (wpAny_pyIter_tuple hl ⟨_, _, _, _, _, _, _, rfl, Walks.tuple (A := A.in1) hh _ l (Nat.ne_of_lt lt) (intItems xs), ⟨⟨_, Heap.get?_push_size _ rfl, rfl, rfl⟩, ?_⟩, fun b hb => ?_, CmpOf.ints_gt (numAt xs) (fun _ _ => intItems_at), fun v h' tk hv hk => ?_⟩)
  · obtain ⟨o, e, r⟩ := hl
    exact ⟨o, Heap.get?_push_of_some _ e, r⟩
  · show b < (t.heap.push { cls := .type "tuple_iterator", data := .fields #[.ref l, .int 0 0] }).objs.size
    rw [nn]
    simp only [List.mem_cons, List.not_mem_nil, or_false] at hb
    rcases hb with rfl | rfl
    · exact Nat.lt_succ_self _
    · exact Nat.lt_succ_of_lt lt
  refine r v h' tk (fun b o e => hk b o (fun hm => by
      simp only [List.mem_cons, List.not_mem_nil, or_false] at hm
      rw [hm] at e
      exact absurd (Heap.lt_size e) (Nat.lt_irrefl _)) (Heap.get?_push_of_some _ e)) ?_
  rcases hv with ⟨h0, rfl⟩ | ⟨h0, hv⟩
  · refine .inl ⟨?_, rfl⟩
    have : xs.size = 0 := by simpa [intItems] using h0
    have : xs.toList = [] := List.eq_nil_of_length_eq_zero (by simpa using this)
    rw [this]
    rfl
  · have hs : 0 < xs.size := by simpa [intItems] using h0
    have hv : (intItems xs)[argBest (fun i j => decide (numAt xs i > numAt xs j)) (xs.size - 1)]? = some v := by simpa [intItems] using hv
    obtain ⟨u, rfl⟩ := intItems_at hv
    obtain ⟨h1, h2⟩ := argBest_gt (numAt xs) (xs.size - 1)
    refine .inr ⟨_, u, rfl, ?_, fun y hy => ?_⟩
    · rw [numAt_eq]
      exact PySem.getD_mem (by rw [List.length_map, Array.length_toList]; omega)
    · obtain ⟨j, hj, rfl⟩ := mem_getD hy
      rw [List.length_map, Array.length_toList] at hj
      rw [← numAt_eq]
      exact h2 j (by omega)
def rMaxT (K : PySem.W.Frag) : List V → List V → Hp → VK → Prop := fun xs zs H Q => ∃ (a : Addr) (ns : List Int) (d : Int), xs = [.ref a] ∧ zs = [.int d] ∧ SqT K H a (ns.map V.int) ∧ ∀ m, (ns = [] ∧ m = d ∨ m ∈ ns ∧ ∀ y, y ∈ ns → y ≤ m) → Q (.int m) H
theorem call_maxT {X : Cx} (hc : X.calm = true) : CallRK X (.builtin "max") ["default"] (rMaxT X.K) := by
  intro pins s σ H xs zs us ws Q I va vz h
  obtain ⟨a, ns, d, rfl, rfl, hs, q⟩ := h
  obtain ⟨its, rv, hl, _⟩ := I.tuple hs
  rw [Vals.ref1 va]
  cases vz with
  | cons r1 r2 =>
  cases r2
  obtain ⟨u, rfl⟩ := r1
  refine maxT_raw (I.ok.hd hc) hl rv.ints fun v h' tk hk hv => ?_
  rcases hv with ⟨h0, rfl⟩ | ⟨M, u2, rfl, h1, h2⟩
  · exact ⟨.int d, H, I.kept hk, ⟨_, rfl⟩, q d (.inl ⟨h0, rfl⟩)⟩
  · exact ⟨.int M, H, I.kept hk, ⟨_, rfl⟩, q M (.inr ⟨h1, h2⟩)⟩
/-! ### papers of sums -/
def Fal (ps : List (Int × Int)) : Prop := ps.Pairwise fun a b => b.1 ≤ a.1
theorem thick_under {t : Int} (t0 : 0 ≤ t) : ∀ (ps : List (Int × Int)) (k : Int), (∀ p ∈ ps, p.1 ≤ t) → thickAt ps k ≤ t
  | [], _, _ => t0
  | (u, g) :: r, k, h => by
    show (if k < g then u else thickAt r (k - g)) ≤ t
    split
    · exact h (u, g) (by simp)
    · exact thick_under t0 r _ fun p hp => h p (by simp [hp])
theorem thick_anti : ∀ (ps : List (Int × Int)) {j k : Int}, j ≤ k → Fal ps → (∀ p ∈ ps, 0 ≤ p.1) → thickAt ps k ≤ thickAt ps j
  | [], _, _, _, _, _ => Int.le_refl _
  | (t, g) :: r, j, k, h, f, n => by
    have f := List.pairwise_cons.mp f
    show (if k < g then t else thickAt r (k - g)) ≤ if j < g then t else thickAt r (j - g)
    split
    · rw [if_pos (by omega)]
      exact Int.le_refl _
    · split
      · exact thick_under (n (t, g) (by simp)) r _ f.1
      · exact thick_anti r (by omega) f.2 fun p hp => n p (by simp [hp])
def sumUp (f : Nat → Int) : Nat → Int
  | 0 => 0
  | j + 1 => sumUp f j + f j
theorem sumUp_le {f g : Nat → Int} : ∀ j, (∀ i, i < j → f i ≤ g i) → sumUp f j ≤ sumUp g j
  | 0, _ => Int.le_refl _
  | j + 1, h => by
    have h1 := sumUp_le j fun i hi => h i (by omega)
    have h2 := h j (by omega)
    show sumUp f j + f j ≤ sumUp g j + g j
    omega
theorem sumUp_tail {f : Nat → Int} {j : Nat} : ∀ {n : Nat}, j ≤ n → (∀ i, j ≤ i → i < n → f i = 0) → sumUp f n = sumUp f j
  | 0, h, _ => by
    have : j = 0 := by omega
    subst this
    rfl
  | n + 1, h, p => by
    by_cases e : j = n + 1
    · subst e
      rfl
    · show sumUp f n + f n = sumUp f j
      rw [sumUp_tail (f := f) (j := j) (n := n) (by omega) fun i h1 h2 => p i h1 (by omega), p n (by omega) (by omega), Int.add_zero]
def L0 : Lw := ⟨0, [], 0, none⟩
def thI (Fs : List Lw) (i : Nat) (p : Int) : Int := thickL (Fs.getD i L0) p
theorem thI_get {Fs : List Lw} {i : Nat} {L : Lw} (h : Fs[i]? = some L) (p : Int) : thI Fs i p = thickL L p := by
  unfold thI
  rw [List.getD_eq_getElem?_getD, h]
  rfl
theorem sum_take (Fs : List Lw) (p : Int) : ∀ j, j ≤ Fs.length → thickS (Fs.take j) p = sumUp (fun i => thI Fs i p) j
  | 0, _ => rfl
  | j + 1, h => by
    have e : Fs[j]? = some Fs[j] := List.getElem?_eq_getElem h
    rw [List.take_add_one, e]
    show thickS (Fs.take j ++ [Fs[j]]) p = sumUp _ j + thI Fs j p
    rw [thickS_app, thickS_one, sum_take Fs p j (by omega), thI_get e]
theorem falls_fal {ps : List (Int × Int)} (h : Falls ps) : Fal ps := h.imp fun {a b} z => Int.le_of_lt z
theorem laid_le {W : Wi} (g : GoodT W) {n m p : Int} (h1 : n ≤ m) (h2 : m ≤ p) : thickL (laidOf W n) p ≤ thickL (laidOf W m) p := by
  have e : ∀ k, k ≤ p → thickL (laidOf W k) p = thickAt W.2 (p - k) := fun k hk => by
    show (if p < k then 0 else thickAt W.2 (p - k)) = _
    rw [if_neg (by omega)]
  rw [e n (by omega), e m h2]
  exact thick_anti W.2 (by omega) (falls_fal g.2.1) fun x hx => by
    have := (g.1.1.2.2 x hx).1
    omega
theorem laidAll_take : ∀ (Ws : List Wi) (ms : List Int) (j : Nat), laidAll (Ws.take j) (ms.take j) = (laidAll Ws ms).take j
  | [], _, j => by
    rw [List.take_nil]
    show ([] : List Lw) = ([] : List Lw).take j
    rw [List.take_nil]
  | W :: r, [], j => by
    rw [List.take_nil]
    show laidAll ((W :: r).take j) [] = ([] : List Lw).take j
    rw [List.take_nil]
    cases j <;> rfl
  | W :: r, m :: s, 0 => rfl
  | W :: r, m :: s, j + 1 => by
    show laidOf W m :: laidAll (r.take j) (s.take j) = laidOf W m :: (laidAll r s).take j
    rw [laidAll_take r s j]
/-- a paper shows it thin: no schedule lasts beyond the place -/
theorem shown_thin {Ws : List Wi} {ms ns : List Int} {low place x : Int} (gw : ∀ W ∈ Ws, GoodT W) (hm : ms.length = Ws.length) (hn : ns.length = Ws.length) (rm : ms.Pairwise (· ≤ ·)) (rn : ns.Pairwise (· ≤ ·)) (p0 : 0 ≤ place) (m0 : ∀ m ∈ ms, 0 ≤ m)
    (late : ∀ (i : Nat) (m : Int), ms[i]? = some m → m ≤ place ∧ thickS (laidAll (Ws.take i) (ms.take i)) m < low) (all : thickS (laidAll Ws ms) place < low) (hx : IsFirst (laidAll Ws ns) low 0 x) : x ≤ place := Classical.byContradiction fun c => by
  obtain ⟨_, _, h3⟩ := hx
  have lF := laidAll_len Ws ms hm.symm
  have lO := laidAll_len Ws ns hn.symm
  -- up to i, at a place where no later one of the others is laid yet
  have low_at : ∀ (i : Nat) (p : Int), i ≤ Ws.length → (∀ (j : Nat) (m n : Int), j < i → ms[j]? = some m → ns[j]? = some n → n ≤ m ∧ m ≤ p) → (∀ (j : Nat) (n : Int), i ≤ j → ns[j]? = some n → p < n) → thickS (laidAll Ws ns) p ≤ thickS (laidAll (Ws.take i) (ms.take i)) p := fun i p hi h1 h2 => by
    have e1 := sum_take (laidAll Ws ns) p Ws.length (by omega)
    rw [List.take_of_length_le (by omega)] at e1
    have e2 := sum_take (laidAll Ws ms) p i (by omega)
    rw [e1, laidAll_take, e2, sumUp_tail (j := i) hi fun j hj1 hj2 => ?_]
    · refine sumUp_le i fun j hj => ?_
      have eW : Ws[j]? = some (Ws[j]'(by omega)) := List.getElem?_eq_getElem (by omega)
      have em : ms[j]? = some (ms[j]'(by omega)) := List.getElem?_eq_getElem (by omega)
      have en : ns[j]? = some (ns[j]'(by omega)) := List.getElem?_eq_getElem (by omega)
      rw [thI_get (laidAll_get eW en), thI_get (laidAll_get eW em)]
      obtain ⟨a1, a2⟩ := h1 j _ _ hj em en
      exact laid_le (gw _ (List.mem_of_getElem? eW)) a1 a2
    · have eW : Ws[j]? = some (Ws[j]'hj2) := List.getElem?_eq_getElem hj2
      have en : ns[j]? = some (ns[j]'(by omega)) := List.getElem?_eq_getElem (by omega)
      rw [thI_get (laidAll_get eW en)]
      exact laid_ahead (h2 j _ hj1 en)
  have up : ∀ (i : Nat), ∀ (j : Nat) (m n : Int), j < i → ms[j]? = some m → ns[j]? = some n → n ≤ m := fun i => by
    induction i with
    | zero =>
      intro j m n hj
      omega
    | succ i ih =>
      intro j m n hj em en
      by_cases hji : j < i
      · exact ih j m n hji em en
      · have : j = i := by omega
        subst this
        refine Classical.byContradiction fun cn => ?_
        have hj : j < Ws.length := by
          have := (List.getElem?_eq_some_iff.mp em).1
          omega
        obtain ⟨l1, l2⟩ := late j m em
        have h4 := low_at j m (by omega) (fun k mk nk hk e1 e2 => ⟨ih k mk nk hk e1 e2, ?_⟩) (fun k nk hk e2 => ?_)
        · have := h3 m (m0 m (List.mem_of_getElem? em)) (by omega)
          omega
        · obtain ⟨q1, q2⟩ := List.getElem?_eq_some_iff.mp e1
          obtain ⟨r1, r2⟩ := List.getElem?_eq_some_iff.mp em
          have := List.pairwise_iff_getElem.mp rm k j q1 r1 hk
          omega
        · obtain ⟨q1, q2⟩ := List.getElem?_eq_some_iff.mp e2
          obtain ⟨r1, r2⟩ := List.getElem?_eq_some_iff.mp en
          by_cases hkj : k = j
          · subst hkj
            omega
          · have := List.pairwise_iff_getElem.mp rn j k r1 q1 (by omega)
            omega
  have h4 := low_at Ws.length place (Nat.le_refl _) (fun j m n _ e1 e2 => ⟨up (j + 1) j m n (Nat.lt_succ_self _) e1 e2, (late j m e1).1⟩) (fun j n hj e => ?_)
  · rw [List.take_length, List.take_of_length_le (by omega)] at h4
    have := h3 place p0 (by omega)
    omega
  · have := (List.getElem?_eq_some_iff.mp e).1
    omega
/-! ### what is due of a thing of any kind -/
def dueGo (low place : Int) : List Lw → Int → List Wi → List Th → Bool
  | Ls, last, W :: r, t :: ts => (match t with
    | .int n => decide (last ≤ n) && decide (n ≤ place) && decide (thickS Ls n < low) && dueGo low place (Ls ++ [laidOf W n]) n r ts
    | _ => false)
  | Ls, _, _, _ => decide (thickS Ls place < low)
def dueT (Ws : List Wi) (low place : Int) : Th → Bool
  | .tup ts => decide (ts.length = Ws.length) && dueGo low place [] 0 Ws ts
  | _ => false
def lateGo (low place : Int) : List Lw → List Wi → List Int → Bool
  | Ls, W :: r, n :: ns => decide (n ≤ place) && decide (thickS Ls n < low) && lateGo low place (Ls ++ [laidOf W n]) r ns
  | Ls, _, _ => decide (thickS Ls place < low)
theorem due_late (low place : Int) : ∀ (ts : List Th) (Ws : List Wi) (Ls : List Lw) (last : Int), ts.length = Ws.length → dueGo low place Ls last Ws ts = (goUp last ts && lateGo low place Ls Ws (ts.map numT))
  | [], [], Ls, last, _ => rfl
  | [], _ :: _, _, _, h => by cases h
  | _ :: _, [], _, _, h => by cases h
  | t :: ts, W :: r, Ls, last, h => by
    have hl : ts.length = r.length := Nat.succ.inj h
    cases t with
    | int n =>
      have ih := due_late low place ts r (Ls ++ [laidOf W n]) n hl
      show (decide (last ≤ n) && decide (n ≤ place) && decide (thickS Ls n < low) && dueGo low place (Ls ++ [laidOf W n]) n r ts) = (decide (last ≤ n) && goUp n ts && (decide (n ≤ place) && decide (thickS Ls n < low) && lateGo low place (Ls ++ [laidOf W n]) r (ts.map numT)))
      rw [ih]
      cases decide (last ≤ n) <;> cases decide (n ≤ place) <;> cases decide (thickS Ls n < low) <;> cases goUp n ts <;> rfl
    | bl b => rfl
    | oth => rfl
    | tup us => rfl
theorem late_all (low place : Int) : ∀ (ms : List Int) (Ws : List Wi) (Ls : List Lw), ms.length = Ws.length → lateGo low place Ls Ws ms = (((List.range ms.length).map fun k => decide (ms.getD k 0 ≤ place) && decide (thickS (Ls ++ laidAll (Ws.take k) (ms.take k)) (ms.getD k 0) < low)).all id && decide (thickS (Ls ++ laidAll Ws ms) place < low))
  | [], [], Ls, _ => by
    show decide (thickS Ls place < low) = (true && decide (thickS (Ls ++ []) place < low))
    rw [List.append_nil, Bool.true_and]
  | [], _ :: _, _, h => by cases h
  | _ :: _, [], _, h => by cases h
  | n :: ns, W :: r, Ls, h => by
    have hl : ns.length = r.length := Nat.succ.inj h
    have ih := late_all low place ns r (Ls ++ [laidOf W n]) hl
    show (decide (n ≤ place) && decide (thickS Ls n < low) && lateGo low place (Ls ++ [laidOf W n]) r ns) = _
    rw [ih, show (n :: ns).length = ns.length + 1 from rfl, List.range_succ_eq_map, List.map_cons, List.all_cons, List.map_map]
    have e0 : (id (decide ((n :: ns).getD 0 0 ≤ place) && decide (thickS (Ls ++ laidAll ((W :: r).take 0) ((n :: ns).take 0)) ((n :: ns).getD 0 0) < low))) = (decide (n ≤ place) && decide (thickS Ls n < low)) := by
      show (decide (n ≤ place) && decide (thickS (Ls ++ []) n < low)) = _
      rw [List.append_nil]
    rw [e0]
    have ea : ∀ As Bs : List Lw, Ls ++ [laidOf W n] ++ Bs = Ls ++ (laidOf W n :: Bs) := fun _ Bs => by rw [List.append_assoc]; rfl
    have e1 : (List.range ns.length).map (fun k => decide (ns.getD k 0 ≤ place) && decide (thickS (Ls ++ [laidOf W n] ++ laidAll (r.take k) (ns.take k)) (ns.getD k 0) < low)) = (List.range ns.length).map ((fun k => decide ((n :: ns).getD k 0 ≤ place) && decide (thickS (Ls ++ laidAll ((W :: r).take k) ((n :: ns).take k)) ((n :: ns).getD k 0) < low)) ∘ Nat.succ) := List.map_congr_left fun k _ => by
      show _ = (decide (ns.getD k 0 ≤ place) && decide (thickS (Ls ++ (laidOf W n :: laidAll (r.take k) (ns.take k))) (ns.getD k 0) < low))
      rw [ea []]
    rw [e1, ea []]
    show _ = (_ && _ && decide (thickS (Ls ++ (laidOf W n :: laidAll r ns)) place < low))
    simp only [Bool.and_assoc]
theorem up_ints : ∀ {ts : List Th} {n : Int}, goUp n ts = true → ts = (ts.map numT).map Th.int ∧ (ts.map numT).Pairwise (· ≤ ·) ∧ ∀ m ∈ ts.map numT, n ≤ m
  | [], _, _ => ⟨rfl, List.Pairwise.nil, fun m hm => by cases hm⟩
  | t :: r, n, h => by
    obtain ⟨h1, h2⟩ := Bool.and_eq_true_iff.mp (show (whT t n && goUp (numT t) r) = true from h)
    obtain ⟨m, rfl, m0⟩ := wh_of h1
    obtain ⟨a, b, c⟩ := up_ints (ts := r) (n := m) h2
    refine ⟨?_, List.pairwise_cons.mpr ⟨c, b⟩, fun x hx => ?_⟩
    · show Th.int m :: r = Th.int m :: (r.map numT).map Th.int
      rw [← a]
    · rcases List.mem_cons.mp hx with rfl | hx
      · exact m0
      · have := c x hx
        have : m ≤ x := this
        omega
/-- what a paper that is right tells -/
theorem due_shows {Ws : List Wi} {low place : Int} {t : Th} (h : dueT Ws low place t = true) : ∃ ms : List Int, t = .tup (ms.map Th.int) ∧ ms.length = Ws.length ∧ ms.Pairwise (· ≤ ·) ∧ (∀ m ∈ ms, 0 ≤ m) ∧ (∀ (i : Nat) (m : Int), ms[i]? = some m → m ≤ place ∧ thickS (laidAll (Ws.take i) (ms.take i)) m < low) ∧ thickS (laidAll Ws ms) place < low := by
  cases t with
  | int n => cases h
  | bl b => cases h
  | oth => cases h
  | tup ts =>
    obtain ⟨h1, h2⟩ := Bool.and_eq_true_iff.mp (show (decide (ts.length = Ws.length) && dueGo low place [] 0 Ws ts) = true from h)
    have h1 := of_decide_eq_true h1
    rw [due_late low place ts Ws [] 0 h1] at h2
    obtain ⟨h3, h4⟩ := Bool.and_eq_true_iff.mp h2
    obtain ⟨a, b, c⟩ := up_ints h3
    rw [late_all low place _ Ws [] (by rw [List.length_map]; exact h1)] at h4
    obtain ⟨h5, h6⟩ := Bool.and_eq_true_iff.mp h4
    refine ⟨ts.map numT, by rw [← a], by rw [List.length_map]; exact h1, b, c, fun i m hi => ?_, of_decide_eq_true h6⟩
    rw [List.all_map, List.all_eq_true] at h5
    have hlt := (List.getElem?_eq_some_iff.mp hi).1
    have h7 := h5 i (List.mem_range.mpr hlt)
    have h7 : (decide ((ts.map numT).getD i 0 ≤ place) && decide (thickS ([] ++ laidAll (Ws.take i) ((ts.map numT).take i)) ((ts.map numT).getD i 0) < low)) = true := h7
    rw [List.getD_eq_getElem?_getD, hi] at h7
    obtain ⟨h8, h9⟩ := Bool.and_eq_true_iff.mp h7
    exact ⟨of_decide_eq_true h8, of_decide_eq_true h9⟩
def spOne25 : Sp := fun vs H Q _ => ∃ (p : Addr) (T : Nat), vs = [.ref p] ∧ PotC H p T ∧ T < 2 ^ 38 ∧
  ∀ H' a (W : Wi), WispAt H' a W.1 W.2 → GoodT W → H a = none → PotC H' p (T + 3) → Keep p p H H' → Q (.ref a) H'
/-- rows at hand -/
def RowT (H : Hp) (r : Addr) (Ws : List Wi) : Prop := ∃ as, H r = some (.tup (as.map V.ref)) ∧ RowAt H as Ws ∧ (∀ W ∈ Ws, GoodT W) ∧ Ws.length ≤ 60
theorem RowT.mono {H H' : Hp} {r : Addr} {Ws : List Wi} (h : RowT H r Ws) (t : Tups H H') : RowT H' r Ws := by
  obtain ⟨as, e, ra, g, l⟩ := h
  exact ⟨as, t _ _ e, ra.mono t, g, l⟩
theorem RowT.th {H : Hp} {r : Addr} {Ws : List Wi} (h : RowT H r Ws) : ThAt topB H (.ref r) (.tup (Ws.map wispT)) := by
  obtain ⟨as, e, ra, g, l⟩ := h
  exact (row_th e ra g).up (by decide)
theorem RowT.isRow {H : Hp} {r : Addr} {Ws : List Wi} (h : RowT H r Ws) : isRowT (.tup (Ws.map wispT)) = true := by
  obtain ⟨as, e, ra, g, l⟩ := h
  exact good_isRow g l
def spShows : Sp := fun vs H Q _ => ∃ (r : Addr) (u : V) (low place : Int) (Ws : List Wi) (t : Th), vs = [.ref r, .int low, .int place, u] ∧ RowT H r Ws ∧ 1 ≤ low ∧ low ≤ topB ∧ 0 ≤ place ∧ place ≤ topB ∧ ThAt topB H u t ∧ ∀ H', Same H H' → Q (.bl (dueT Ws low place t)) H'
def spDue25 : Sp := fun vs H Q _ => ∃ (r : Addr) (u : V) (low place : Int) (Ws : List Wi) (t : Th), vs = [.ref r, .int low, .int place, u] ∧ RowT H r Ws ∧ ThAt topB H u t ∧ ∀ H', Same H H' → Q (.bl (dueT Ws low place t)) H'
theorem dueT_tup (Ws : List Wi) (low place : Int) (ts : List Th) : dueT Ws low place (.tup ts) = (isSchedT Ws.length (.tup ts) && lateGo low place [] Ws (ts.map numT)) := by
  show (decide (ts.length = Ws.length) && dueGo low place [] 0 Ws ts) = (decide (ts.length = Ws.length) && goUp 0 ts && lateGo low place [] Ws (ts.map numT))
  by_cases h : ts.length = Ws.length
  · rw [due_late low place ts Ws [] 0 h, Bool.and_assoc]
  · rw [decide_eq_false h]
    rfl
theorem dueT_no {Ws : List Wi} {low place : Int} {t : Th} (h : isSchedT Ws.length t = false) : dueT Ws low place t = false := by
  cases t with
  | int n => rfl
  | bl b => rfl
  | oth => rfl
  | tup ts => rw [dueT_tup, h, Bool.false_and]
/-- a schedule at hand -/
theorem sched_at {H : Hp} {u : V} {t : Th} {n : Nat} (hu : ThAt topB H u t) (h : isSchedT n t = true) : ∃ (a : Addr) (ms : List Int), u = .ref a ∧ H a = some (.tup (ms.map V.int)) ∧ t = .tup (ms.map Th.int) ∧ ms.length = n ∧ ∀ m ∈ ms, 0 ≤ m := by
  cases t with
  | int n => cases h
  | bl b => cases h
  | oth => cases h
  | tup ts =>
    obtain ⟨h1, h2⟩ := Bool.and_eq_true_iff.mp (show (decide (ts.length = n) && goUp 0 ts) = true from h)
    have h1 := of_decide_eq_true h1
    obtain ⟨a, b, c⟩ := up_ints h2
    obtain ⟨ad, vs, rfl, e, hl, hh⟩ := hu.tupE
    refine ⟨ad, ts.map numT, rfl, ?_, by rw [← a], by rw [List.length_map]; exact h1, c⟩
    rw [e]
    congr 2
    refine List.ext_getElem? fun i => ?_
    by_cases hi : i < ts.length
    · have e1 : vs[i]? = some (vs[i]'(by omega)) := List.getElem?_eq_getElem (by omega)
      have e2 : ts[i]? = some (ts[i]'hi) := List.getElem?_eq_getElem hi
      have e3 : ts[i]? = (((ts.map numT).map Th.int)[i]?) := by rw [← a]
      rw [List.getElem?_map, List.getElem?_map, e2] at e3
      have e3 : ts[i]'hi = Th.int (numT (ts[i]'hi)) := Option.some.inj e3
      have h3 := hh i _ _ e1 e2
      rw [e3] at h3
      rw [e1, h3.intE, List.getElem?_map, List.getElem?_map, e2]
      rfl
    · rw [List.getElem?_eq_none (by omega), List.getElem?_eq_none (by rw [List.length_map, List.length_map]; omega)]
theorem numT_ints (ms : List Int) : (ms.map Th.int).map numT = ms := by
  rw [List.map_map]
  exact List.map_id ms
/-! ### places drawn -/
def LoB (B : Int) (Ls : List Lw) : Prop := ∀ L ∈ Ls, GoodL L ∧ L.pl ≤ B ∧ L.le = none ∧ longs L.ps < 2 ^ 110
theorem LoB.good {B : Int} {Ls : List Lw} (h : LoB B Ls) : ∀ L ∈ Ls, GoodL L := fun L hL => (h L hL).1
theorem LoB.snoc {B C : Int} {Ls : List Lw} {W : Wi} {n : Int} (h : LoB B Ls) (l : B ≤ C) (g : GoodT W) (n0 : 0 ≤ n) (n1 : n ≤ C) (hC : C < 2 ^ 130) : LoB C (Ls ++ [laidOf W n]) := fun L hL => by
  rcases List.mem_append.mp hL with hL | hL
  · have := h L hL
    exact ⟨this.1, by omega, this.2.2⟩
  · rw [List.mem_singleton.mp hL]
    exact ⟨good_laid g.1 n0 (by omega), n1, rfl, g.1.2.2.2⟩
theorem LoB.nil (B : Int) : LoB B [] := fun L hL => by cases hL
theorem LoB.key {B now k : Int} {Ls : List Lw} (h : LoB B Ls) (hn : now ≤ B + 2 ^ 110) (hk : BKey Ls now k) : k ≤ B + 2 ^ 110 := by
  rcases hk with rfl | ⟨L, hL, hk⟩
  · exact hn
  · obtain ⟨g, h1, h2, h3⟩ := h L hL
    have pos : ∀ p ∈ L.ps, 1 ≤ p.2 := fun p hp => (g.1.2.2 p hp).2.2.1
    rcases hk with rfl | hk | ⟨j, hj, rfl⟩
    · have : (0 : Int) < 2 ^ 110 := by decide
      omega
    · rw [h2] at hk
      cases hk
    · have e : longs L.ps = longs (L.ps.take (j + 1)) + longs (L.ps.drop (j + 1)) := by
        have : L.ps = L.ps.take (j + 1) ++ L.ps.drop (j + 1) := (List.take_append_drop _ _).symm
        conv => lhs; rw [this]
        unfold longs
        rw [List.map_append, List.sum_append]
      have := longs_nonneg (ps := L.ps.drop (j + 1)) fun p hp => pos p (List.mem_of_mem_drop hp)
      omega
theorem LoB.over {B p : Int} : ∀ {Ls : List Lw}, LoB B Ls → B + 2 ^ 110 ≤ p → thickS Ls p = 0
  | [], _, _ => rfl
  | L :: r, h, hp => by
    obtain ⟨g, h1, h2, h3⟩ := h L List.mem_cons_self
    have e : thickS (L :: r) p = thickL L p + thickS r p := rfl
    rw [e, LoB.over (Ls := r) (fun M hM => h M (List.mem_cons_of_mem _ hM)) hp, Int.add_zero]
    have hl : lastOf L ≤ L.pl + longs L.ps := clip_le
    have h4 : ¬ 0 < thickL L p := fun z => by
      have := (thick_runs g p).mp z
      omega
    have h5 : 0 ≤ thickL L p := by
      unfold thickL
      rw [h2]
      have nn : ∀ k, 0 ≤ thickAt L.ps k := fun k => by
        have hp : ∀ x ∈ L.ps, 1 ≤ x.1 := fun x hx => (g.1.2.2 x hx).1
        generalize L.ps = qs at hp
        induction qs generalizing k with
        | nil => exact Int.le_refl _
        | cons x r ih =>
          obtain ⟨t, gg⟩ := x
          show 0 ≤ if k < gg then t else thickAt r (k - gg)
          have := hp (t, gg) List.mem_cons_self
          have : 1 ≤ t := this
          split
          · omega
          · exact ih (k - gg) fun y hy => hp y (List.mem_cons_of_mem _ hy)
      split
      · exact Int.le_refl _
      · exact nn _
    omega
theorem LoB.first {B low now m : Int} {Ls : List Lw} (h : LoB B Ls) (l1 : 1 ≤ low) (hn : now ≤ B + 2 ^ 110) (hm : IsFirst Ls low now m) : m ≤ B + 2 ^ 110 := Classical.byContradiction fun c => by
  have := hm.2.2 (B + 2 ^ 110) hn (by omega)
  rw [h.over (Int.le_refl _)] at this
  omega
def spThinPl : Sp := fun vs H Q _ => ∃ (a : Addr) (Ls : List Lw) (low now B : Int), vs = [.ref a, .int low, .int now] ∧ StrandAt H a Ls ∧ Ls.length ≤ 60 ∧ LoB B Ls ∧ 1 ≤ low ∧ 0 ≤ now ∧ now ≤ B + 2 ^ 110 ∧
  ∀ H' o (ns : List Int), Same H H' → H o = none → H' o = some (.lst (ns.map V.int)) → 1 ≤ ns.length → ns.length ≤ 5 → (∀ n ∈ ns, now ≤ n ∧ n ≤ B + 2 ^ 110 + 2) → Q (.ref o) H'
def spPaper : Sp := fun vs H Q _ => ∃ (p : Addr) (T : Nat) (r : Addr) (Ws : List Wi) (low : Int), vs = [.ref p, .ref r, .int low] ∧ PotC H p T ∧ T < 2 ^ 37 ∧ RowT H r Ws ∧ 1 ≤ low ∧
  ∀ H' o (ms : List Int), PotC H' p (T + 100) → Keep p p H H' → H' o = some (.tup (ms.map V.int)) → ms.length = Ws.length → (∀ m ∈ ms, 0 ≤ m ∧ m ≤ 2 ^ 117) → Q (.ref o) H'
def spThinBy : Sp := fun vs H Q _ => ∃ (p : Addr) (T : Nat) (r : Addr) (Ws : List Wi) (low place : Int) (ms : List Int), vs = [.ref p, .ref r, .int low, .int place] ∧ PotC H p T ∧ T < 2 ^ 37 ∧ RowT H r Ws ∧ 1 ≤ low ∧ 0 ≤ place ∧ place ≤ 2 ^ 118 ∧ dueT Ws low place (.tup (ms.map Th.int)) = true ∧
  ∀ H', PotC H' p (T + 100) → Keep p p H H' → Q (.bl true) H'
def spWrong : Sp := fun vs H Q _ => ∃ (p : Addr) (T : Nat) (o : Addr) (ms : List Int) (place : Int), vs = [.ref p, .ref o, .int place] ∧ PotC H p T ∧ T < 2 ^ 37 ∧ H o = some (.tup (ms.map V.int)) ∧ ms.length ≤ 60 ∧ (∀ m ∈ ms, 0 ≤ m ∧ m ≤ 2 ^ 117) ∧ 0 ≤ place ∧ place ≤ 2 ^ 118 ∧
  ∀ H' o' (ns : List Int), PotC H' p (T + 5) → Keep p p H H' → H' o' = some (.tup (ns.map V.int)) → ns.length ≤ 61 → (∀ n ∈ ns, 0 ≤ n ∧ n ≤ 2 ^ 120) → Q (.ref o') H'
theorem cut_only (xs : List V) (y : V) : cutV (xs ++ [y]) (some (-1)) none = [y] := by
  unfold cutV HT.sIx
  simp
  rw [show (-1 + ((xs.length : Int) + 1)).toNat = xs.length by omega, List.drop_left']
  all_goals simp
theorem ints_th {B : Int} {H : Hp} {o : Addr} {ms : List Int} (e : H o = some (.tup (ms.map V.int))) (bd : ∀ m ∈ ms, 0 ≤ m ∧ m ≤ B) : ThAt B H (.ref o) (.tup (ms.map Th.int)) := by
  refine .tup e (by rw [List.length_map, List.length_map]) fun i v t h1 h2 => ?_
  rw [List.getElem?_map] at h1 h2
  cases em : ms[i]? with
  | none =>
    rw [em] at h1
    cases h1
  | some m =>
    rw [em] at h1 h2
    cases h1
    cases h2
    have := bd m (List.mem_of_getElem? em)
    exact .int m (by omega) (by omega)
def spOdd1 : Sp := fun vs H Q _ => vs = [] ∧ ∀ H' o xs, Same H H' → H o = none → H' o = some (.lst xs) → 1 ≤ xs.length → xs.length ≤ 20 → (∀ x ∈ xs, ∃ t, ThAt topB H' x t) → Q (.ref o) H'
/-! ### rows drawn late with breaks -/
theorem laysB_take (bs : List (Int × Int)) (Ws : List Wi) (ms : List Int) (j : Nat) : laysB bs (Ws.take j) (ms.take j) = (laysB bs Ws ms).take j := by
  unfold laysB
  rw [laidAll_take, List.map_take]
theorem laysB_snoc {bs : List (Int × Int)} {Ws : List Wi} {ms : List Int} {W : Wi} {m : Int} (h : Ws.length = ms.length) : laysB bs (Ws ++ [W]) (ms ++ [m]) = laysB bs Ws ms ++ [brkL bs (laidOf W m)] := by
  unfold laysB
  rw [laidAll_snoc _ _ _ _ h, List.map_append]
  rfl
theorem laysB_len {bs : List (Int × Int)} {Ws : List Wi} {ms : List Int} (h : Ws.length = ms.length) : (laysB bs Ws ms).length = Ws.length := by
  unfold laysB
  rw [List.length_map, laidAll_len _ _ h]
theorem thickL_pos {L : Lw} (g : GoodL L) (p : Int) : 0 ≤ thickL L p := by
  unfold thickL
  split
  · exact Int.le_refl _
  · cases L.le with
    | none => exact thick_nonneg _ _ fun q hq => Int.le_trans (by decide) (g.1.2.2 q hq).1
    | some n =>
      show 0 ≤ if n ≤ p then 0 else _
      split
      · exact Int.le_refl _
      · exact thick_nonneg _ _ fun q hq => Int.le_trans (by decide) (g.1.2.2 q hq).1
theorem thickS_pos : ∀ {Ls : List Lw}, (∀ L ∈ Ls, GoodL L) → ∀ p : Int, 0 ≤ thickS Ls p
  | [], _, _ => Int.le_refl _
  | L :: r, g, p => by
    have e : thickS (L :: r) p = thickL L p + thickS r p := rfl
    have h1 := thickL_pos (g L List.mem_cons_self) p
    have h2 := thickS_pos (fun M hM => g M (List.mem_cons_of_mem _ hM)) p
    omega
theorem thickS_take {Ls : List Lw} (g : ∀ L ∈ Ls, GoodL L) (j : Nat) (p : Int) : thickS (Ls.take j) p ≤ thickS Ls p := by
  have e : thickS Ls p = thickS (Ls.take j) p + thickS (Ls.drop j) p := by
    rw [← thickS_app, List.take_append_drop]
  have := thickS_pos (Ls := Ls.drop j) (fun L hL => g L (List.mem_of_mem_drop hL)) p
  omega
def LateB (bs : List (Int × Int)) (Ws : List Wi) (low : Int) (ms : List Int) : Prop := ms.length = Ws.length ∧ ∀ (i : Nat) (m : Int), ms[i]? = some m → IsFirst (laysB bs (Ws.take i) (ms.take i)) low 0 m
theorem lateB_eq {bs : List (Int × Int)} {Ws : List Wi} {low : Int} {ms ns : List Int} (h1 : LateB bs Ws low ms) (h2 : LateB bs Ws low ns) : ms = ns := by
  have key : ∀ i, ms.take i = ns.take i := by
    intro i
    induction i with
    | zero => rfl
    | succ i ih =>
      rw [List.take_add_one, List.take_add_one, ih]
      congr 1
      by_cases hi : i < ms.length
      · have hi2 : i < ns.length := by rw [h2.1, ← h1.1]; exact hi
        have e1 : ms[i]? = some ms[i] := List.getElem?_eq_getElem hi
        have e2 : ns[i]? = some ns[i] := List.getElem?_eq_getElem hi2
        have f1 := h1.2 i _ e1
        have f2 := h2.2 i _ e2
        rw [ih] at f1
        rw [e1, e2, first_eq f1 f2]
      · rw [List.getElem?_eq_none (by omega), List.getElem?_eq_none (by rw [h2.1, ← h1.1]; omega)]
  have := key ms.length
  rw [List.take_length, List.take_of_length_le (by rw [h1.1, h2.1]; exact Nat.le_refl _)] at this
  exact this
theorem lateB_none {Ws : List Wi} {low : Int} {ms : List Int} (h : LateB [] Ws low ms) : LateP [] Ws low 0 ms := ⟨h.1, fun i m e => by
  have := h.2 i m e
  rw [laysB_none] at this
  exact this⟩
theorem last_brk (bs : List (Int × Int)) (W : Wi) (m : Int) : lastOf (brkL bs (laidOf W m)) ≤ m + longs W.2 := clip_le
def SoFarB (bs : List (Int × Int)) (Ws : List Wi) (low : Int) (i : Nat) (ms : List Int) : Prop := ms.length = i ∧ (∀ (j : Nat) (m : Int), ms[j]? = some m → IsFirst (laysB bs (Ws.take j) (ms.take j)) low 0 m) ∧ ∀ m ∈ ms, 0 ≤ m ∧ m ≤ (i : Int) * 2 ^ 110
theorem mul110 (i : Nat) : ((i + 1 : Nat) : Int) * 2 ^ 110 = (i : Int) * 2 ^ 110 + 2 ^ 110 := by
  rw [Int.natCast_add, Int.add_mul]
  rfl
theorem so_farB_good {bs : List (Int × Int)} {Ws : List Wi} {low : Int} (gb : GoodB bs) (gw : ∀ W ∈ Ws, GoodW W) (h60 : Ws.length ≤ 60) {i : Nat} {ms : List Int} (h : SoFarB bs Ws low i ms) (hi : i ≤ Ws.length) :
    (∀ L ∈ laysB bs (Ws.take i) ms, GoodL L) ∧ (laysB bs (Ws.take i) ms).length ≤ 60 ∧ ∀ L ∈ laysB bs (Ws.take i) ms, lastOf L ≤ ((i + 1 : Nat) : Int) * 2 ^ 110 := by
  have hi60 : (i : Int) ≤ 60 := by omega
  have e1 := mul110 i
  have e2 : (i : Int) * 2 ^ 110 ≤ 60 * 2 ^ 110 := Int.mul_le_mul_of_nonneg_right hi60 (by decide)
  refine ⟨laysB_good gb (fun W hW => gw W (List.mem_of_mem_take hW)) fun m hm => ?_, ?_, fun L hL => ?_⟩
  · have := h.2.2 m hm
    omega
  · rw [laysB_len (by rw [List.length_take, h.1]; omega), List.length_take]
    omega
  · obtain ⟨W, hW, m, hm, rfl⟩ := laysB_mem hL
    have h1 := h.2.2 m hm
    have h2 := (gw W (List.mem_of_mem_take hW)).2.2.2
    have h3 := last_brk bs W m
    omega
theorem so_farB_snoc {bs : List (Int × Int)} {Ws : List Wi} {low : Int} {i : Nat} {ms : List Int} {m : Int} (sf : SoFarB bs Ws low i ms) (hm : IsFirst (laysB bs (Ws.take i) ms) low 0 m) (hb : m ≤ ((i + 1 : Nat) : Int) * 2 ^ 110) : SoFarB bs Ws low (i + 1) (ms ++ [m]) := by
  refine ⟨by rw [List.length_append, sf.1]; rfl, fun j n e => ?_, fun n hn => ?_⟩
  · by_cases hj : j < ms.length
    · rw [List.getElem?_append_left hj] at e
      rw [List.take_append_of_le_length (by omega)]
      exact sf.2.1 j n e
    · have hji : j = ms.length := by
        have := (List.getElem?_eq_some_iff.mp e).1
        rw [List.length_append] at this
        have : j < ms.length + 1 := this
        omega
      subst hji
      rw [List.getElem?_append_right (Nat.le_refl _), Nat.sub_self] at e
      have : m = n := Option.some.inj e
      subst this
      rw [List.take_append_of_le_length (Nat.le_refl _), List.take_length, sf.1]
      exact hm
  · rcases List.mem_append.mp hn with hn | hn
    · have h1 := sf.2.2 n hn
      have := mul110 i
      omega
    · rw [List.mem_singleton.mp hn]
      exact ⟨hm.1, hb⟩
/-- what a row is drawn from with breaks -/
structure FromB (bs : List (Int × Int)) (Ws : List Wi) (low : Int) : Prop where
  gb : GoodB bs
  gw : ∀ W ∈ Ws, GoodW W
  few : Ws.length ≤ 60
  l1 : 1 ≤ low
def MsOk (ms : List Int) : Prop := ∀ m ∈ ms, 0 ≤ m ∧ m < 2 ^ 120
theorem lateB_good {bs : List (Int × Int)} {Ws : List Wi} {low : Int} {ms : List Int} (F : FromB bs Ws low) (h : LateB bs Ws low ms) (hb : MsOk ms) : (∀ L ∈ laysB bs Ws ms, GoodL L) ∧ (laysB bs Ws ms).length ≤ 60 :=
  ⟨laysB_good F.gb F.gw fun m hm => ⟨(hb m hm).1, Int.lt_trans (hb m hm).2 (by decide)⟩, by rw [laysB_len h.1.symm]; exact F.few⟩
theorem so_farB_late {bs : List (Int × Int)} {Ws : List Wi} {low : Int} {ms : List Int} (F : FromB bs Ws low) (sf : SoFarB bs Ws low Ws.length ms) : LateB bs Ws low ms ∧ MsOk ms := by
  refine ⟨⟨sf.1, sf.2.1⟩, fun m hm => ?_⟩
  have h1 := sf.2.2 m hm
  have h2 := F.few
  have h3 : (Ws.length : Int) * 2 ^ 110 ≤ 60 * 2 ^ 110 := Int.mul_le_mul_of_nonneg_right (by omega) (by decide)
  exact ⟨h1.1, by omega⟩
def spDrawnWith : Sp := fun vs H Q _ => ∃ (a b : Addr) (low : Int) (as : List Addr) (Ws : List Wi) (bs : List (Int × Int)), vs = [.ref a, .int low, .ref b] ∧ H a = some (.tup (as.map V.ref)) ∧ RowAt H as Ws ∧ BrAt H b bs ∧ FromB bs Ws low ∧
  ∀ H' o ms, Same H H' → H' o = some (.tup (ms.map V.int)) → LateB bs Ws low ms → MsOk ms → Q (.ref o) H'
def spLastingWith : Sp := fun vs H Q _ => ∃ (a b : Addr) (low : Int) (as : List Addr) (Ws : List Wi) (bs : List (Int × Int)), vs = [.ref a, .int low, .ref b] ∧ H a = some (.tup (as.map V.ref)) ∧ RowAt H as Ws ∧ BrAt H b bs ∧ FromB bs Ws low ∧
  ∀ H' ms m, Same H H' → LateB bs Ws low ms → MsOk ms → IsFirst (laysB bs Ws ms) low 0 m → Q (.int m) H'
def spFallen : Sp := fun vs H Q _ => ∃ (a c b : Addr) (as : List Addr) (Ws : List Wi) (ms : List Int) (bs : List (Int × Int)), vs = [.ref a, .ref c, .ref b] ∧ H a = some (.tup (as.map V.ref)) ∧ RowAt H as Ws ∧ H c = some (.lst (ms.map V.int)) ∧ Ws.length = ms.length ∧ Ws.length ≤ 60 ∧ BrAt H b bs ∧ GoodB bs ∧
  ∀ H' o, Same H H' → H o = none → StrandAt H' o (laysB bs Ws ms) → Q (.ref o) H'
/-- a pair of the moments and the moment at last -/
def TwoAt (H : Hp) (o : Addr) (ms : List Int) (m : Int) : Prop := ∃ t, H o = some (.tup [.ref t, .int m]) ∧ H t = some (.tup (ms.map V.int))
theorem TwoAt.mono {H H' : Hp} {o : Addr} {ms : List Int} {m : Int} (h : TwoAt H o ms m) (t : Tups H H') : TwoAt H' o ms m := by
  obtain ⟨u, h1, h2⟩ := h
  exact ⟨u, t _ _ h1, t _ _ h2⟩
def spLateWith : Sp := fun vs H Q _ => ∃ (a b : Addr) (low : Int) (as : List Addr) (Ws : List Wi) (bs : List (Int × Int)), vs = [.ref a, .int low, .ref b] ∧ H a = some (.tup (as.map V.ref)) ∧ RowAt H as Ws ∧ BrAt H b bs ∧ FromB bs Ws low ∧
  ∀ H' o ms m, Same H H' → H o = none → TwoAt H' o ms m → LateB bs Ws low ms → MsOk ms → IsFirst (laysB bs Ws ms) low 0 m → Q (.ref o) H'
def spByMom : Sp := fun vs H Q _ => ∃ (a b : Addr) (low most : Int) (as : List Addr) (Ws : List Wi) (bs : List (Int × Int)) (ms : List Int) (m : Int), vs = [.ref a, .int low, .ref b, .int most] ∧ H a = some (.tup (as.map V.ref)) ∧ RowAt H as Ws ∧ BrAt H b bs ∧ FromB bs Ws low ∧ LateB bs Ws low ms ∧ MsOk ms ∧ IsFirst (laysB bs Ws ms) low 0 m ∧ m < most ∧ most ≤ 1000 ∧
  ∀ H' o, Same H H' → TwoAt H' o ms m → Q (.ref o) H'
theorem brk_ahead {bs : List (Int × Int)} {W : Wi} {m p : Int} (h : p < m) : thickL (brkL bs (laidOf W m)) p = 0 := by
  unfold thickL
  rw [if_pos (show p < (brkL bs (laidOf W m)).pl from h)]
/-! #### moment by moment -/
def aliveB (p : Int) (L : Lw) : Bool := match L.le with
  | none => true
  | some n => decide (p < n)
theorem thick_dead {p : Int} {L : Lw} (h : aliveB p L = false) : thickL L p = 0 := by
  unfold thickL
  unfold aliveB at h
  split
  · rfl
  · cases e : L.le with
    | none =>
      rw [e] at h
      cases h
    | some n =>
      rw [e] at h
      have : ¬ p < n := of_decide_eq_false h
      show (if n ≤ p then 0 else _) = _
      rw [if_pos (by omega)]
theorem thick_alive {p : Int} {L : Lw} (h : aliveB p L = true) (hp : L.pl ≤ p) : thickL L p = thickAt L.ps (p - L.pl) := by
  unfold thickL
  unfold aliveB at h
  rw [if_neg (by omega)]
  cases e : L.le with
  | none => rfl
  | some n =>
    rw [e] at h
    have : p < n := of_decide_eq_true h
    show (if n ≤ p then 0 else _) = _
    rw [if_neg (by omega)]
theorem thickS_alive (p : Int) : ∀ Ls : List Lw, (∀ L ∈ Ls, L.pl ≤ p) → thickS Ls p = ((Ls.filter (aliveB p)).map fun L => thickAt L.ps (p - L.pl)).sum
  | [], _ => rfl
  | L :: r, h => by
    have e : thickS (L :: r) p = thickL L p + thickS r p := rfl
    rw [e, thickS_alive p r fun M hM => h M (List.mem_cons_of_mem _ hM)]
    cases c : aliveB p L with
    | true =>
      rw [List.filter_cons_of_pos c, List.map_cons, List.sum_cons, thick_alive c (h L List.mem_cons_self)]
    | false =>
      rw [List.filter_cons_of_neg (by rw [c]; decide), thick_dead c, Int.zero_add]
/-- a moment that is no break changes nothing -/
theorem alive_still {bs : List (Int × Int)} {p : Int} (hp : p ∉ bs.map (·.1)) {Ls : List Lw} (h : ∀ L ∈ Ls, L.le = nextB bs L.pl) : Ls.filter (aliveB (p - 1)) = Ls.filter (aliveB p) := by
  refine List.filter_congr fun L hL => ?_
  unfold aliveB
  rw [h L hL]
  cases e : nextB bs L.pl with
  | none => rfl
  | some n =>
    have := (next_of e).2
    have hn : n ≠ p := fun z => hp (z ▸ this)
    show decide (p - 1 < n) = decide (p < n)
    by_cases c : p < n
    · rw [decide_eq_true c, decide_eq_true (by omega)]
    · rw [decide_eq_false c, decide_eq_false (by omega)]
/-- at a break nothing that was laid ahead of it is alive -/
theorem alive_none {bs : List (Int × Int)} (gb : (bs.map (·.1)).Pairwise (· < ·)) {p : Int} (hp : p ∈ bs.map (·.1)) {Ls : List Lw} (h : ∀ L ∈ Ls, L.le = nextB bs L.pl) (ha : ∀ L ∈ Ls, L.pl < p) : Ls.filter (aliveB p) = [] := by
  refine List.filter_eq_nil_iff.mpr fun L hL => ?_
  obtain ⟨n, e, hn⟩ := next_le gb hp (ha L hL)
  unfold aliveB
  rw [h L hL, e]
  show ¬ decide (p < n) = true
  rw [decide_eq_false (by omega)]
  decide
theorem laysB_le {bs : List (Int × Int)} {Ws : List Wi} {ms : List Int} : ∀ L ∈ laysB bs Ws ms, L.le = nextB bs L.pl := fun L hL => by
  obtain ⟨W, _, m, _, rfl⟩ := laysB_mem hL
  rfl
theorem alive_new {bs : List (Int × Int)} {W : Wi} {m : Int} : aliveB m (brkL bs (laidOf W m)) = true := by
  show (match nextB bs m with | none => true | some n => decide (m < n)) = true
  cases e : nextB bs m with
  | none => rfl
  | some n => exact decide_eq_true (next_of e).1
def RunsAt (H : Hp) (as : List Addr) (Ls : List Lw) : Prop := as.length = Ls.length ∧ ∀ (i : Nat) (a : Addr), as[i]? = some a → ∃ (L : Lw) (c : Addr), Ls[i]? = some L ∧ H a = some (.tup [.ref c, .int L.pl]) ∧ WispAt H c L.so L.ps
theorem RunsAt.mono {H H' : Hp} {as : List Addr} {Ls : List Lw} (h : RunsAt H as Ls) (t : Tups H H') : RunsAt H' as Ls := ⟨h.1, fun i a e => by
  obtain ⟨L, c, h1, h2, h3⟩ := h.2 i a e
  exact ⟨L, c, h1, t _ _ h2, h3.mono t⟩⟩
theorem RunsAt.nil {H : Hp} : RunsAt H [] [] := ⟨rfl, fun i a e => by simp at e⟩
theorem RunsAt.snoc {H : Hp} {as : List Addr} {Ls : List Lw} {a c : Addr} {L : Lw} (h : RunsAt H as Ls) (h1 : H a = some (.tup [.ref c, .int L.pl])) (h2 : WispAt H c L.so L.ps) : RunsAt H (as ++ [a]) (Ls ++ [L]) := by
  refine ⟨by rw [List.length_append, List.length_append, h.1]; rfl, fun i b hb => ?_⟩
  by_cases hi : i < as.length
  · rw [List.getElem?_append_left hi] at hb
    obtain ⟨M, d, g1, g2⟩ := h.2 i b hb
    exact ⟨M, d, by rw [List.getElem?_append_left (by rw [← h.1]; exact hi)]; exact g1, g2⟩
  · have hz : i = as.length := by
      have := (List.getElem?_eq_some_iff.mp hb).1
      rw [List.length_append] at this
      have : i < as.length + 1 := this
      omega
    subst hz
    rw [List.getElem?_append_right (Nat.le_refl _), Nat.sub_self] at hb
    have : a = b := Option.some.inj hb
    subst this
    refine ⟨L, c, ?_, h1, h2⟩
    rw [h.1, List.getElem?_append_right (Nat.le_refl _), Nat.sub_self]
    rfl
/-- a row, low, its breaks and what is due -/
def LotW (H : Hp) (e : Addr) : Prop := ∃ (r b d : Addr) (low : Int) (as : List Addr) (Ws : List Wi) (bs : List (Int × Int)) (ms : List Int) (m : Int), H e = some (.tup [.ref r, .int low, .ref b, .ref d]) ∧ H r = some (.tup (as.map V.ref)) ∧ RowAt H as Ws ∧ BrAt H b bs ∧ FromB bs Ws low ∧ TwoAt H d ms m ∧ LateB bs Ws low ms ∧ MsOk ms ∧ IsFirst (laysB bs Ws ms) low 0 m
theorem LotW.mono {H H' : Hp} {e : Addr} (h : LotW H e) (t : Tups H H') : LotW H' e := by
  obtain ⟨r, b, d, low, as, Ws, bs, ms, m, h1, h2, h3, h4, h5, h6, h7⟩ := h
  exact ⟨r, b, d, low, as, Ws, bs, ms, m, t _ _ h1, t _ _ h2, h3.mono t, h4.mono t, h5, h6.mono t, h7⟩
def spLot36 : Sp := fun vs H Q _ => ∃ (p : Addr) (T : Nat) (sty most : Int), vs = [.ref p, .int sty, .int most] ∧ PotC H p T ∧ T < 2 ^ 30 ∧ 0 ≤ sty ∧ sty < 3 ∧ 0 ≤ most ∧ most ≤ 60 ∧
  ∀ H' e, Keep p p H H' → LotW H' e → Q (.ref e) H'
theorem two_dp {K : PySem.W.Frag} {H : Hp} {o : Addr} {ms : List Int} {m : Int} (h : TwoAt H o ms m) : Dp K H (.ref o) (.tuple [.tuple (ms.map PyData.int), .int m]) := by
  obtain ⟨t, h1, h2⟩ := h
  exact .tup (SqT.of h1) (.cons (.tup (SqT.of h2) (ints_dp ms)) (.cons (.int m) .nil))
theorem two_sh (ms : List Int) (m : Int) : SeqAt.shaped (.tuple [.tuple (ms.map PyData.int), .int m]) = true := by
  have h1 := Bool.and_eq_true_iff.mp (ints_shaped ms)
  have h2 : (PyData.tuple (ms.map PyData.int)).depth ≤ 64 := of_decide_eq_true h1.2
  refine Bool.and_eq_true_iff.mpr ⟨Bool.and_eq_true_iff.mpr ⟨h1.1, rfl⟩, decide_eq_true ?_⟩
  have h3 := ints_d1' ms
  show max (PyData.tuple (ms.map PyData.int)).depth (max 0 0) + 1 ≤ 64
  omega
theorem two_ne {K : PySem.W.Frag} {H : Hp} {a b : Addr} {ms : List Int} {m : Int} {Q : VK} (ha : TwoAt H a ms m) (hb : TwoAt H b ms m) (q : Q (.bl false) H) : rNeD K (.ref a) (.ref b) H Q := by
  refine ⟨_, _, two_dp ha, two_dp hb, two_sh ms m, two_sh ms m, ?_⟩
  rw [SeqAt.eqv_refl _ (Bool.and_eq_true_iff.mp (two_sh ms m)).1]
  exact q
theorem inV_int (n : Int) (ns : List Int) : inV (.int n) (ns.map V.int) = decide (n ∈ ns) := by
  induction ns with
  | nil => rfl
  | cons x r ih =>
    have h : inV (.int n) ((x :: r).map V.int) = (eqV (.int x) (.int n) || inV (.int n) (r.map V.int)) := rfl
    rw [h, ih]
    show ((x == n) || decide (n ∈ r)) = decide (n ∈ x :: r)
    by_cases e : x = n
    · simp [e]
    · have e2 : ¬ n = x := fun z => e z.symm
      simp [e, e2]
theorem flat_ints (ns : List Int) : (ns.map V.int).all flatV = true := by
  rw [List.all_eq_true]
  intro x hx
  obtain ⟨n, _, rfl⟩ := List.mem_map.mp hx
  rfl
/-! ### no schedule lasts longer -/
def spDWispF : Sp := fun vs H Q _ => ∃ (p : Addr) (T : Nat) (sty : Int), vs = [.ref p, .int sty] ∧ PotC H p T ∧ T < 2 ^ 37 ∧ 0 ≤ sty ∧ sty < 3 ∧
  ∀ H' a W, WispAt H' a W.1 W.2 → GoodW W → Fal W.2 → H a = none → PotC H' p (T + 100) → Keep p p H H' → Q (.ref a) H'
theorem sumUp_mono {f : Nat → Int} {j : Nat} : ∀ {n : Nat}, j ≤ n → (∀ i, i < n → 0 ≤ f i) → sumUp f j ≤ sumUp f n
  | 0, h, _ => by
    have : j = 0 := by omega
    subst this
    exact Int.le_refl _
  | n + 1, h, p => by
    by_cases e : j = n + 1
    · subst e
      exact Int.le_refl _
    · have h1 := sumUp_mono (f := f) (j := j) (n := n) (by omega) fun i hi => p i (by omega)
      have h2 := p n (by omega)
      show sumUp f j ≤ sumUp f n + f n
      omega
def FirstF (F : Int → Int) (low now m : Int) : Prop := now ≤ m ∧ F m < low ∧ ∀ p, now ≤ p → p < m → low ≤ F p
/-- a row drawn late (f at m) and another schedule of it (o at k), over what is there already (B) -/
structure Sched (n : Nat) (B : Int → Int) (f o : Nat → Int → Int) (m k : Nat → Int) (low now : Int) : Prop where
  pos : ∀ i p, i < n → 0 ≤ f i p
  ahead : ∀ i p, i < n → p < k i → o i p = 0
  over : ∀ i p, i < n → k i ≤ m i → m i ≤ p → o i p ≤ f i p
  late : ∀ j, j < n → FirstF (fun p => B p + sumUp (fun i => f i p) j) low now (m j)
  rise : ∀ i j, i ≤ j → j < n → k i ≤ k j
theorem Sched.rises {n : Nat} {B : Int → Int} {f o : Nat → Int → Int} {m k : Nat → Int} {low now : Int} (S : Sched n B f o m k low now) {i : Nat} {F : Int → Int} {x : Int} (hi : i < n) (hF : FirstF F low now x) (h : ∀ p, B p + sumUp (fun i => f i p) i ≤ F p) : m i ≤ x := by
  rcases Int.lt_or_le x (m i) with z | z
  · have h1 := (S.late i hi).2.2 x hF.1 z
    have h2 := hF.2.1
    have h3 := h x
    have h1 : low ≤ B x + sumUp (fun i => f i x) i := h1
    omega
  · exact z
theorem Sched.upto {n : Nat} {B : Int → Int} {f o : Nat → Int → Int} {m k : Nat → Int} {low now : Int} (S : Sched n B f o m k low now) {i j : Nat} (hij : i ≤ j) (hj : j ≤ n) (p : Int) : B p + sumUp (fun i => f i p) i ≤ B p + sumUp (fun i => f i p) j := by
  have := sumUp_mono (f := fun i => f i p) hij fun a ha => S.pos a p (by omega)
  omega
theorem Sched.late_rise {n : Nat} {B : Int → Int} {f o : Nat → Int → Int} {m k : Nat → Int} {low now : Int} (S : Sched n B f o m k low now) {i j : Nat} (hij : i ≤ j) (hj : j < n) : m i ≤ m j := S.rises (by omega) (S.late j hj) (S.upto hij (by omega))
/-- at a place where j of them are laid late, and of the other schedule none behind these, it is no thicker -/
theorem Sched.under {n : Nat} {B : Int → Int} {f o : Nat → Int → Int} {m k : Nat → Int} {low now : Int} (S : Sched n B f o m k low now) {j : Nat} (hj : j ≤ n) {p : Int} (h1 : ∀ i, i < j → k i ≤ m i ∧ m i ≤ p) (h2 : ∀ i, j ≤ i → i < n → p < k i) : B p + sumUp (fun i => o i p) n ≤ B p + sumUp (fun i => f i p) j := by
  rw [sumUp_tail (f := fun i => o i p) hj fun i a b => S.ahead i p b (h2 i a b)]
  have := sumUp_le (f := fun i => o i p) (g := fun i => f i p) j fun i hi => S.over i p (by omega) (h1 i hi).1 (h1 i hi).2
  omega
theorem Sched.ahead_of {n : Nat} {B : Int → Int} {f o : Nat → Int → Int} {m k : Nat → Int} {low now : Int} (S : Sched n B f o m k low now) {thin : Int} (ht : FirstF (fun p => B p + sumUp (fun i => o i p) n) low now thin) : ∀ j, j < n → m j < thin → k j ≤ m j := by
  intro j
  induction j using Nat.strongRecOn with
  | _ j ih =>
    intro hj hm
    rcases Int.lt_or_le (m j) (k j) with z | z
    · have h1 := S.under (j := j) (p := m j) (by omega) (fun i hi => ⟨ih i hi (by omega) (by have := S.late_rise (i := i) (j := j) (by omega) hj; omega), S.late_rise (by omega) hj⟩) (fun i a b => by
        have := S.rise j i a b
        omega)
      have h2 := (S.late j hj)
      have h3 := ht.2.2 (m j) h2.1 hm
      have h4 := h2.2.1
      have h3 : low ≤ B (m j) + sumUp (fun i => o i (m j)) n := h3
      have h4 : B (m j) + sumUp (fun i => f i (m j)) j < low := h4
      omega
    · exact z
theorem Sched.not_longer {n : Nat} {B : Int → Int} {f o : Nat → Int → Int} {m k : Nat → Int} {low now : Int} (S : Sched n B f o m k low now) {thin last : Int} (ht : FirstF (fun p => B p + sumUp (fun i => o i p) n) low now thin) (hl : FirstF (fun p => B p + sumUp (fun i => f i p) n) low now last) : thin ≤ last := by
  rcases Int.lt_or_le last thin with z | z
  · have h0 : ∀ i, i < n → m i ≤ last := fun i hi => S.rises hi hl (S.upto (by omega) (Nat.le_refl _))
    have h1 := S.under (j := n) (p := last) (Nat.le_refl _) (fun i hi => ⟨S.ahead_of ht i hi (by have := h0 i hi; omega), h0 i hi⟩) (fun i a b => by omega)
    have h3 := ht.2.2 last hl.1 z
    have h4 := hl.2.1
    have h3 : low ≤ B last + sumUp (fun i => o i last) n := h3
    have h4 : B last + sumUp (fun i => f i last) n < low := h4
    omega
  · exact z
/-- another schedule's laid wisps: let at the next break or ahead of it -/
def OtherOk (bs : List (Int × Int)) (Ws : List Wi) (ns : List Int) (Os : List Lw) : Prop := Os.length = Ws.length ∧ ns.length = Ws.length ∧ ∀ (i : Nat) (W : Wi) (n : Int), Ws[i]? = some W → ns[i]? = some n → ∃ le, Os[i]? = some ⟨W.1, W.2, n, le⟩ ∧ ∀ x, nextB bs n = some x → ∃ y, le = some y ∧ y ≤ x
theorem over_other {bs : List (Int × Int)} (gb : (bs.map (·.1)).Pairwise (· < ·)) {W : Wi} (gW : GoodW W) (fW : Fal W.2) {n m p : Int} {le : Option Int} (hle : ∀ x, nextB bs n = some x → ∃ y, le = some y ∧ y ≤ x) (h1 : n ≤ m) (h2 : m ≤ p) : thickL ⟨W.1, W.2, n, le⟩ p ≤ thickL (brkL bs (laidOf W m)) p := by
  have nn : ∀ x ∈ W.2, 0 ≤ x.1 := fun x hx => Int.le_trans (by decide) (gW.1.2.2 x hx).1
  have a1 : thickAt W.2 (p - n) ≤ thickAt W.2 (p - m) := thick_anti _ (by omega) fW nn
  have a0 : 0 ≤ thickAt W.2 (p - m) := thick_nonneg _ _ nn
  show (if p < n then 0 else match le with | none => thickAt W.2 (p - n) | some y => if y ≤ p then 0 else thickAt W.2 (p - n)) ≤ (if p < m then 0 else match nextB bs m with | none => thickAt W.2 (p - m) | some y => if y ≤ p then 0 else thickAt W.2 (p - m))
  rw [if_neg (by omega), if_neg (by omega)]
  cases e : nextB bs m with
  | none =>
    show _ ≤ thickAt W.2 (p - m)
    cases le with
    | none => exact a1
    | some y =>
      show (if y ≤ p then 0 else thickAt W.2 (p - n)) ≤ _
      split
      · exact a0
      · exact a1
  | some x =>
    obtain ⟨x1, x2⟩ := next_of e
    obtain ⟨z, hz, hzx⟩ := next_le gb x2 (show n < x by omega)
    obtain ⟨y, rfl, hy⟩ := hle z hz
    show (if y ≤ p then 0 else thickAt W.2 (p - n)) ≤ if x ≤ p then 0 else thickAt W.2 (p - m)
    by_cases c : x ≤ p
    · rw [if_pos c, if_pos (by omega)]
      exact Int.le_refl _
    · rw [if_neg c]
      split
      · exact a0
      · exact a1
theorem sched_of {Ls : List Lw} {bs : List (Int × Int)} {Ws : List Wi} {low now : Int} {ms ns : List Int} {Os : List Lw} (gb : (bs.map (·.1)).Pairwise (· < ·)) (gw : ∀ W ∈ Ws, GoodW W ∧ Fal W.2) (gF : ∀ L ∈ laysB bs Ws ms, GoodL L) (hl : ms.length = Ws.length) (lp : ∀ (i : Nat) (m : Int), ms[i]? = some m → IsFirst (Ls ++ laysB bs (Ws.take i) (ms.take i)) low now m) (oth : OtherOk bs Ws ns Os) (rise : ns.Pairwise (· ≤ ·)) :
    Sched Ws.length (thickS Ls) (thI (laysB bs Ws ms)) (thI Os) (fun i => ms.getD i 0) (fun i => ns.getD i 0) low now := by
  have gs : ∀ i, i < Ws.length → ∃ W m n le, Ws[i]? = some W ∧ ms[i]? = some m ∧ ns[i]? = some n ∧ Os[i]? = some ⟨W.1, W.2, n, le⟩ ∧ (∀ x, nextB bs n = some x → ∃ y, le = some y ∧ y ≤ x) ∧ (laysB bs Ws ms)[i]? = some (brkL bs (laidOf W m)) ∧ ms.getD i 0 = m ∧ ns.getD i 0 = n ∧ W ∈ Ws := fun i hi => by
    have e1 : Ws[i]? = some Ws[i] := List.getElem?_eq_getElem hi
    have hi2 : i < ms.length := by omega
    have hi3 : i < ns.length := by rw [oth.2.1]; exact hi
    have e2 : ms[i]? = some ms[i] := List.getElem?_eq_getElem hi2
    have e3 : ns[i]? = some ns[i] := List.getElem?_eq_getElem hi3
    obtain ⟨le, e4, e5⟩ := oth.2.2 i _ _ e1 e3
    refine ⟨_, _, _, le, e1, e2, e3, e4, e5, ?_, ?_, ?_, List.getElem_mem hi⟩
    · unfold laysB
      rw [List.getElem?_map, laidAll_get e1 e2]
      rfl
    · rw [List.getD_eq_getElem?_getD, e2]
      rfl
    · rw [List.getD_eq_getElem?_getD, e3]
      rfl
  refine ⟨fun i p hi => ?_, fun i p hi hp => ?_, fun i p hi h1 h2 => ?_, fun j hj => ?_, fun i j hij hj => ?_⟩
  · obtain ⟨W, m, n, le, e1, e2, e3, e4, e5, e6, e7, e8, e9⟩ := gs i hi
    rw [thI_get e6]
    exact thickL_pos (gF _ (List.mem_of_getElem? e6)) p
  · obtain ⟨W, m, n, le, e1, e2, e3, e4, e5, e6, e7, e8, e9⟩ := gs i hi
    rw [thI_get e4]
    have hp : p < n := by rw [← e8]; exact hp
    show (if p < n then 0 else _) = (0 : Int)
    rw [if_pos hp]
  · obtain ⟨W, m, n, le, e1, e2, e3, e4, e5, e6, e7, e8, e9⟩ := gs i hi
    rw [thI_get e4, thI_get e6]
    have h1 : n ≤ m := by rw [← e7, ← e8]; exact h1
    have h2 : m ≤ p := by rw [← e7]; exact h2
    exact over_other gb (gw W e9).1 (gw W e9).2 e5 h1 h2
  · obtain ⟨W, m, n, le, e1, e2, e3, e4, e5, e6, e7, e8, e9⟩ := gs j hj
    have h := lp j m e2
    rw [laysB_take] at h
    have hlen : (laysB bs Ws ms).length = Ws.length := laysB_len hl.symm
    have ef : ∀ p, thickS (Ls ++ (laysB bs Ws ms).take j) p = thickS Ls p + sumUp (fun i => thI (laysB bs Ws ms) i p) j := fun p => by
      rw [thickS_app, sum_take _ p j (by omega)]
    show FirstF _ low now (ms.getD j 0)
    rw [e7]
    refine ⟨h.1, ?_, fun p p1 p2 => ?_⟩
    · show thickS Ls m + sumUp _ j < low
      rw [← ef]
      exact h.2.1
    · show low ≤ thickS Ls p + sumUp _ j
      rw [← ef]
      exact h.2.2 p p1 p2
  · obtain ⟨_, _, n, _, _, _, e3, _, _, _, _, e8, _⟩ := gs i (by omega)
    obtain ⟨_, _, n', _, _, _, e3', _, _, _, _, e8', _⟩ := gs j hj
    show ns.getD i 0 ≤ ns.getD j 0
    rw [e8, e8']
    by_cases e : i = j
    · subst e
      rw [e3] at e3'
      cases e3'
      exact Int.le_refl _
    · obtain ⟨i1, g1⟩ := List.getElem?_eq_some_iff.mp e3
      obtain ⟨j1, g2⟩ := List.getElem?_eq_some_iff.mp e3'
      have := List.pairwise_iff_getElem.mp rise i j i1 j1 (by omega)
      rw [g1, g2] at this
      exact this
theorem first_sum {Ls Fs : List Lw} {low now x : Int} {n : Nat} (h : IsFirst (Ls ++ Fs) low now x) (hn : Fs.length = n) : FirstF (fun p => thickS Ls p + sumUp (fun i => thI Fs i p) n) low now x := by
  have ef : ∀ p, thickS (Ls ++ Fs) p = thickS Ls p + sumUp (fun i => thI Fs i p) n := fun p => by
    rw [thickS_app, ← sum_take Fs p n (by omega), List.take_of_length_le (by omega)]
  refine ⟨h.1, ?_, fun p p1 p2 => ?_⟩
  · show thickS Ls x + sumUp _ n < low
    rw [← ef]
    exact h.2.1
  · show low ≤ thickS Ls p + sumUp _ n
    rw [← ef]
    exact h.2.2 p p1 p2
theorem no_longer {Ls : List Lw} {bs : List (Int × Int)} {Ws : List Wi} {low now last thin : Int} {ms ns : List Int} {Os : List Lw} (gb : (bs.map (·.1)).Pairwise (· < ·)) (gw : ∀ W ∈ Ws, GoodW W ∧ Fal W.2) (gF : ∀ L ∈ laysB bs Ws ms, GoodL L) (hl : ms.length = Ws.length) (lp : ∀ (i : Nat) (m : Int), ms[i]? = some m → IsFirst (Ls ++ laysB bs (Ws.take i) (ms.take i)) low now m) (oth : OtherOk bs Ws ns Os) (rise : ns.Pairwise (· ≤ ·))
    (hlast : IsFirst (Ls ++ laysB bs Ws ms) low now last) (hthin : IsFirst (Ls ++ Os) low now thin) : thin ≤ last ∧ ∀ (j : Nat) (m n : Int), ms[j]? = some m → ns[j]? = some n → m < thin → n ≤ m := by
  have S := sched_of gb gw gF hl lp oth rise
  have t1 := first_sum hthin oth.1
  have t2 := first_sum hlast (laysB_len hl.symm)
  refine ⟨S.not_longer t1 t2, fun j m n hm hn hmt => ?_⟩
  have hj : j < Ws.length := by
    rw [← hl]
    exact (List.getElem?_eq_some_iff.mp hm).1
  have := S.ahead_of t1 j hj (by show ms.getD j 0 < thin; rw [List.getD_eq_getElem?_getD, hm]; exact hmt)
  have e1 : ms.getD j 0 = m := by rw [List.getD_eq_getElem?_getD, hm]; rfl
  have e2 : ns.getD j 0 = n := by rw [List.getD_eq_getElem?_getD, hn]; rfl
  have this : ns.getD j 0 ≤ ms.getD j 0 := this
  omega
theorem count_le {t : Int} : ∀ (ms ns : List Int), ms.length = ns.length → (∀ (j : Nat) (m n : Int), ms[j]? = some m → ns[j]? = some n → m < t → n < t) → (ms.filter fun m => decide (m < t)).length ≤ (ns.filter fun m => decide (m < t)).length
  | [], [], _, _ => Nat.le_refl _
  | m :: r, n :: s, hl, h => by
    have ih := count_le r s (Nat.succ.inj hl) fun j a b ha hb => h (j + 1) a b ha hb
    have h0 := h 0 m n rfl rfl
    by_cases c : m < t
    · rw [List.filter_cons_of_pos (p := fun m => decide (m < t)) (decide_eq_true c), List.filter_cons_of_pos (p := fun m => decide (m < t)) (decide_eq_true (h0 c))]
      exact Nat.succ_le_succ ih
    · rw [List.filter_cons_of_neg (by rw [decide_eq_false c]; decide)]
      by_cases c2 : n < t
      · rw [List.filter_cons_of_pos (p := fun m => decide (m < t)) (decide_eq_true c2)]
        exact Nat.le_succ_of_le ih
      · rw [List.filter_cons_of_neg (by rw [decide_eq_false c2]; decide)]
        exact ih
  | [], _ :: _, hl, _ => by cases hl
  | _ :: _, [], hl, _ => by cases hl
def cnt (ms : List Int) (t : Int) : Nat := (ms.filter fun m => decide (m < t)).length
def spMany : Sp := fun vs H Q _ => ∃ (a : Addr) (t : Int) (ns : List Int), vs = [.ref a, .int t] ∧ (H a = some (.lst (ns.map V.int)) ∨ H a = some (.tup (ns.map V.int))) ∧ ns.length ≤ 60 ∧ ∀ H', Same H H' → Q (.int (cnt ns t : Nat)) H'
def spLaidSome23 : Sp := fun vs H Q _ => ∃ (p : Addr) (T : Nat) (sty : Int), vs = [.ref p, .int sty] ∧ PotC H p T ∧ T < 2 ^ 36 ∧ 0 ≤ sty ∧ sty < 3 ∧
  ∀ H' c Ls, StrandAt H' c Ls → Ls.length ≤ 2 → (∀ L ∈ Ls, GoodL L) → (∀ L ∈ Ls, lastOf L ≤ 2 ^ 115) → PotC H' p (T + 400) → Keep p p H H' → Q (.ref c) H'
def spBetw23 : Sp := fun vs H Q _ => ∃ (p : Addr) (T : Nat) (lo hi : Int), vs = [.ref p, .int lo, .int hi] ∧ PotC H p T ∧ T < 2 ^ 36 ∧ lo ≤ hi ∧ ∀ H' d, lo ≤ d → d ≤ hi → PotC H' p (T + 2) → Keep p p H H' → Q (.int d) H'
def Other (now : Int) (ms ns : List Int) : Prop := ns.length = ms.length ∧ ns.Pairwise (· ≤ ·) ∧ ∀ n ∈ ns, now ≤ n ∧ n ≤ 2 ^ 125
def spOther : Sp := fun vs H Q _ => ∃ (p c : Addr) (T : Nat) (now : Int) (ms : List Int), vs = [.ref p, .ref c, .int now] ∧ PotC H p T ∧ T < 2 ^ 35 ∧ H c = some (.tup (ms.map V.int)) ∧ ms.length ≤ 60 ∧ (∀ m ∈ ms, m < 2 ^ 125) ∧ now ≤ 2 ^ 125 ∧
  ∀ H' o ns, H' o = some (.lst (ns.map V.int)) → Other now ms ns → H o = none → PotC H' p (T + 200) → Keep p p H H' → Q (.ref o) H'
def spLaid23 : Sp := fun vs H Q _ => ∃ (p a c : Addr) (T : Nat) (as : List Addr) (Ws : List Wi) (ns : List Int), vs = [.ref p, .ref a, .ref c] ∧ PotC H p T ∧ T < 2 ^ 35 ∧ H a = some (.tup (as.map V.ref)) ∧ RowAt H as Ws ∧ Ws.length ≤ 20 ∧ (∀ W ∈ Ws, GoodW W) ∧ H c = some (.lst (ns.map V.int)) ∧ c ≠ p ∧ ns.length = Ws.length ∧ (∀ n ∈ ns, 0 ≤ n ∧ n ≤ 2 ^ 125) ∧
  ∀ H' o Os, StrandAt H' o Os → OtherOk [] Ws ns Os → (∀ L ∈ Os, GoodL L) → PotC H' p (T + 200) → Keep p p H H' → Q (.ref o) H'
/-! ### drawn to a length -/
inductive TS : PyData → Prop where
  | int (i : Int) : TS (.int i)
  | str (s : Str) (h : SeqAt.shaped (.str s) = true) : TS (.str s)
  | tup {xs : List PyData} (h : ∀ x ∈ xs, TS x) (hl : xs.length ≤ 1000) : TS (.tuple xs)
def spSame24 (K : PySem.W.Frag) (n : Nat) : Sp := fun vs H Q _ => ∃ (x y : V) (d : PyData), vs = [x, y] ∧ TS d ∧ d.depth < n ∧ Dp K H x d ∧ Dp K H y d ∧ ∀ H', Same H H' → Q (.bl true) H'
def ansD (Ws : List Wi) (ms : List Int) (m len : Int) : PyData :=
  if m < len then .tuple [.str "thin", .int m, .tuple (((laidAll Ws ms).map fun L => thickL L m).map PyData.int)]
  else .tuple [.str "drawn", .tuple ((ms.filter fun n => decide (n < len)).map PyData.int)]
theorem ts_ints {ns : List Int} (h : ns.length ≤ 1000) : TS (.tuple (ns.map PyData.int)) := .tup (fun x hx => by
  obtain ⟨n, _, rfl⟩ := List.mem_map.mp hx
  exact .int n) (by rw [List.length_map]; exact h)
theorem ans_ts {Ws : List Wi} {ms : List Int} {m len : Int} (h : Ws.length = ms.length) (h60 : ms.length ≤ 60) : TS (ansD Ws ms m len) := by
  unfold ansD
  split
  · refine .tup (fun x hx => ?_) (by show 3 ≤ 1000; decide)
    simp only [List.mem_cons, List.not_mem_nil, or_false] at hx
    rcases hx with rfl | rfl | rfl
    · exact .str _ (by decide +kernel)
    · exact .int _
    · exact ts_ints (by rw [List.length_map, laidAll_len _ _ h]; omega)
  · refine .tup (fun x hx => ?_) (by show 2 ≤ 1000; decide)
    simp only [List.mem_cons, List.not_mem_nil, or_false] at hx
    rcases hx with rfl | rfl
    · exact .str _ (by decide +kernel)
    · exact ts_ints (Nat.le_trans (List.length_filter_le _ _) (by omega))
theorem ans_depth (Ws : List Wi) (ms : List Int) (m len : Int) : (ansD Ws ms m len).depth < 4 := by
  unfold ansD
  split
  · have := ints_d1' ((laidAll Ws ms).map fun L => thickL L m)
    show max 0 (max 0 (max (PyData.tuple (((laidAll Ws ms).map fun L => thickL L m).map PyData.int)).depth 0)) + 1 < 4
    omega
  · have := ints_d1' (ms.filter fun n => decide (n < len))
    show max 0 (max (PyData.tuple ((ms.filter fun n => decide (n < len)).map PyData.int)).depth 0) + 1 < 4
    omega
def spDrawnTo (K : PySem.W.Frag) : Sp := fun vs H Q _ => ∃ (a : Addr) (low len : Int) (as : List Addr) (Ws : List Wi), vs = [.ref a, .int low, .int len] ∧ H a = some (.tup (as.map V.ref)) ∧ RowAt H as Ws ∧ From [] Ws low 0 ∧
  ∀ H' o ms m, Same H H' → LateP [] Ws low 0 ms → IsFirst (laidAll Ws ms) low 0 m → Dp K H' (.ref o) (ansD Ws ms m len) → Q (.ref o) H'
def spDue24 (K : PySem.W.Frag) : Sp := fun vs H Q _ => ∃ (a t : Addr) (m len : Int) (as : List Addr) (Ws : List Wi) (ms : List Int), vs = [.ref a, .ref t, .int m, .int len] ∧ H a = some (.tup (as.map V.ref)) ∧ RowAt H as Ws ∧ H t = some (.tup (ms.map V.int)) ∧ Ws.length = ms.length ∧ ms.length ≤ 60 ∧ (∀ n ∈ ms, n ≤ m) ∧
  ∀ H' o, Same H H' → H o = none → Dp K H' (.ref o) (ansD Ws ms m len) → Q (.ref o) H'
theorem thickL_nonneg {L : Lw} (g : GoodL L) (p : Int) : 0 ≤ thickL L p := by
  unfold thickL
  split
  · exact Int.le_refl _
  · cases L.le with
    | none => exact thick_nonneg _ _ fun q hq => Int.le_trans (by decide) (g.1.2.2 q hq).1
    | some n =>
      show 0 ≤ if n ≤ p then 0 else _
      split
      · exact Int.le_refl _
      · exact thick_nonneg _ _ fun q hq => Int.le_trans (by decide) (g.1.2.2 q hq).1
theorem thickS_nonneg {Ls : List Lw} (g : ∀ L ∈ Ls, GoodL L) (p : Int) : 0 ≤ thickS Ls p := by
  induction Ls with
  | nil => exact Int.le_refl _
  | cons L r ih =>
    have h1 := thickL_nonneg (g L (by simp)) p
    have h2 := ih fun M hM => g M (by simp [hM])
    show 0 ≤ ((L :: r).map fun L => thickL L p).sum
    rw [List.map_cons, List.sum_cons]
    have h2 : 0 ≤ (r.map fun L => thickL L p).sum := h2
    omega
theorem laidAll_nil (Ws : List Wi) : laidAll Ws [] = [] := by cases Ws <;> rfl
theorem laidAll_split : ∀ (Ws : List Wi) (ms : List Int) (i : Nat), laidAll Ws ms = laidAll (Ws.take i) (ms.take i) ++ laidAll (Ws.drop i) (ms.drop i)
  | [], _, i => by simp [laidAll]
  | _ :: _, [], i => by
    rw [List.take_nil, List.drop_nil, laidAll_nil, laidAll_nil, laidAll_nil]
    rfl
  | W :: r, m :: s, 0 => rfl
  | W :: r, m :: s, i + 1 => congrArg (laidOf W m :: ·) (laidAll_split r s i)
/-- none is laid behind the place at last -/
theorem late_le {Ws : List Wi} {low m : Int} {ms : List Int} (g : ∀ L ∈ laidAll Ws ms, GoodL L) (lp : LateP [] Ws low 0 ms) (hm : IsFirst (laidAll Ws ms) low 0 m) : ∀ n ∈ ms, n ≤ m := fun n hn => by
  obtain ⟨i, hi, e⟩ := List.getElem_of_mem hn
  have f := lp.2 i n (by rw [← e]; exact List.getElem?_eq_getElem hi)
  have f : IsFirst (laidAll (Ws.take i) (ms.take i)) low 0 n := f
  have sp := laidAll_split Ws ms i
  rcases Int.lt_or_le m n with h | h
  · have h1 := f.2.2 m hm.1 h
    have h2 := hm.2.1
    rw [sp, thickS_app] at h2
    have h3 := thickS_nonneg (Ls := laidAll (Ws.drop i) (ms.drop i)) (fun L hL => g L (by rw [sp]; exact List.mem_append_right _ hL)) m
    omega
  · exact h
theorem thick_laid {W : Wi} {n m : Int} (h : n ≤ m) : thickL (laidOf W n) m = thickAt W.2 (m - n) := by
  unfold thickL
  rw [if_neg (show ¬ m < (laidOf W n).pl by show ¬ m < n; omega)]
  rfl
theorem DpAll.ints {K : PySem.W.Frag} {H : Hp} (ns : List Int) : DpAll K H (ns.map V.int) (ns.map PyData.int) := by
  induction ns with
  | nil => exact .nil
  | cons n r ih => exact .cons (.int n) ih
theorem sqt_put {K : PySem.W.Frag} {H : Hp} {D a : Addr} {ys xs : List V} {o : HO} (e : H D = some (.lst ys)) (h : SqT K H a xs) : SqT K (upd H D o) a xs := by
  rcases h with (h | ⟨u, h⟩) | h
  · refine .inl (.inl ((upd_ne fun z => ?_).trans h))
    rw [z, e] at h
    cases h
  · refine .inl (.inr ⟨u, (upd_ne fun z => ?_).trans h⟩)
    rw [z, e] at h
    cases h
  · exact .inr h
mutual
theorem dp_put {K : PySem.W.Frag} {H : Hp} {D : Addr} {ys : List V} {o : HO} (e : H D = some (.lst ys)) : ∀ {v : V} (d : PyData), TS d → Dp K H v d → Dp K (upd H D o) v d
  | _, .none, t, .non => by cases t
  | _, .bool _, t, .bl _ => by cases t
  | _, .int _, _, .int _ => .int _
  | _, .str _, _, .str _ => .str _
  | _, .list ds, t, .lst h a => by cases t
  | _, .tuple ds, t, .tup h a => .tup (sqt_put e h) (dpAll_put e ds (by cases t; assumption) a)
theorem dpAll_put {K : PySem.W.Frag} {H : Hp} {D : Addr} {ys : List V} {o : HO} (e : H D = some (.lst ys)) : ∀ {vs : List V} (ds : List PyData), (∀ x ∈ ds, TS x) → DpAll K H vs ds → DpAll K (upd H D o) vs ds
  | _, [], _, .nil => .nil
  | _, d :: ds, t, .cons h a => .cons (dp_put e d (t d (by simp)) h) (dpAll_put e ds (fun x hx => t x (by simp [hx])) a)
end
/-! ### wide rows -/
def wideB (low high : Int) (Ws : List Wi) : Bool := Ws.all fun W => decide (low - 1 + thickAt W.2 0 ≤ high)
def spIsWide : Sp := fun vs H Q _ => ∃ (a : Addr) (low high : Int) (as : List Addr) (Ws : List Wi), vs = [.ref a, .int low, .int high] ∧ H a = some (.tup (as.map V.ref)) ∧ RowAt H as Ws ∧ Ws.length ≤ 60 ∧ (∀ W ∈ Ws, GoodW W) ∧ ∀ H', Same H H' → Q (.bl (wideB low high Ws)) H'
def spNever : Sp := fun vs H Q _ => ∃ (a b : Addr) (high : Int) (as : List Addr) (Ws : List Wi) (ms : List Int), vs = [.ref a, .ref b, .int high] ∧ H a = some (.tup (as.map V.ref)) ∧ RowAt H as Ws ∧ H b = some (.tup (ms.map V.int)) ∧ Ws.length = ms.length ∧ Ws.length ≤ 60 ∧ (∀ L ∈ laidAll Ws ms, GoodL L) ∧ (∀ p, thickS (laidAll Ws ms) p ≤ high) ∧ ∀ H', Same H H' → Q (.bl true) H'
theorem laid_anti {W : Wi} (g : GoodW W) (f : Fal W.2) {n p q : Int} (h1 : n ≤ p) (h2 : p ≤ q) : thickL (laidOf W n) q ≤ thickL (laidOf W n) p := by
  rw [thick_laid h1, thick_laid (Int.le_trans h1 h2)]
  exact thick_anti _ (by omega) f fun x hx => Int.le_trans (by decide) (g.1.2.2 x hx).1
theorem row_anti : ∀ (Ws : List Wi) (ms : List Int) {p q : Int}, p ≤ q → (∀ W ∈ Ws, GoodW W ∧ Fal W.2) → (∀ n ∈ ms, n ≤ p) → thickS (laidAll Ws ms) q ≤ thickS (laidAll Ws ms) p
  | W :: r, m :: s, p, q, h, g, n => by
    have h1 := laid_anti (g W (by simp)).1 (g W (by simp)).2 (n m (by simp)) h
    have h2 := row_anti r s h (fun V hV => g V (by simp [hV])) (fun x hx => n x (by simp [hx]))
    have e : ∀ x, thickS (laidAll (W :: r) (m :: s)) x = thickL (laidOf W m) x + thickS (laidAll r s) x := fun x => by
      show thickS ([laidOf W m] ++ laidAll r s) x = _
      rw [thickS_app, thickS_one]
    rw [e, e]
    omega
  | [], _, p, q, _, _, _ => Int.le_refl 0
  | _ :: _, [], p, q, _, _, _ => Int.le_refl 0
theorem row_ahead : ∀ (Ws : List Wi) (ms : List Int) {p : Int}, (∀ n ∈ ms, p < n) → thickS (laidAll Ws ms) p = 0
  | W :: r, m :: s, p, n => by
    show thickS ([laidOf W m] ++ laidAll r s) p = _
    rw [thickS_app, thickS_one, laid_ahead (n m (by simp)), row_ahead r s fun x hx => n x (by simp [hx])]
    rfl
  | [], _, p, _ => by simp [laidAll, thickS]
  | _ :: _, [], p, _ => by simp [laidAll, thickS]
theorem first_at {W : Wi} (g : GoodW W) (n : Int) : thickL (laidOf W n) n = thickAt W.2 0 := by
  rw [thick_laid (Int.le_refl _), Int.sub_self]
theorem late_take {Ws : List Wi} {low : Int} {ms : List Int} (g : ∀ L ∈ laidAll Ws ms, GoodL L) (lp : LateP [] Ws low 0 ms) {i : Nat} {m : Int} (hi : ms[i]? = some m) : ∀ n ∈ ms.take i, n ≤ m := fun n hn => by
  have f : IsFirst (laidAll (Ws.take i) (ms.take i)) low 0 m := lp.2 i m hi
  have sp := laidAll_split Ws ms i
  refine late_le (Ws := Ws.take i) (low := low) (fun L hL => g L (by rw [sp]; exact List.mem_append_left _ hL)) ⟨?_, fun j x hx => ?_⟩ f n hn
  · rw [List.length_take, List.length_take, lp.1]
  · rw [List.getElem?_take] at hx
    split at hx
    · next hj =>
      have := lp.2 j x hx
      rw [List.take_take, List.take_take, Nat.min_eq_left (Nat.le_of_lt hj)]
      exact this
    · cases hx
/-- a wide row is nowhere too thick -/
theorem wide_never {Ws : List Wi} {low high : Int} {ms : List Int} (gw : ∀ W ∈ Ws, GoodW W ∧ Fal W.2) (g : ∀ L ∈ laidAll Ws ms, GoodL L) (lp : LateP [] Ws low 0 ms) (h0 : 0 ≤ high) (hw : wideB low high Ws = true) (p : Int) : thickS (laidAll Ws ms) p ≤ high := by
  have key : ∀ i, i ≤ ms.length → thickS (laidAll (Ws.take i) (ms.take i)) p ≤ high := by
    intro i
    induction i with
    | zero =>
      intro _
      show thickS (laidAll [] []) p ≤ high
      exact h0
    | succ i ih =>
      intro hi
      have hi1 : i < ms.length := hi
      have hi2 : i < Ws.length := by rw [← lp.1]; exact hi1
      have em : ms[i]? = some ms[i] := List.getElem?_eq_getElem hi1
      have eW : Ws[i]? = some Ws[i] := List.getElem?_eq_getElem hi2
      have gi := gw _ (List.getElem_mem hi2)
      have f : IsFirst (laidAll (Ws.take i) (ms.take i)) low 0 ms[i] := lp.2 i _ em
      have et : laidAll (Ws.take (i + 1)) (ms.take (i + 1)) = laidAll (Ws.take i) (ms.take i) ++ [laidOf Ws[i] ms[i]] := by
        rw [List.take_add_one, List.take_add_one, em, eW]
        exact laidAll_snoc _ _ _ _ (by rw [List.length_take, List.length_take, lp.1])
      rw [et, thickS_app, thickS_one]
      by_cases hp : p < ms[i]
      · rw [laid_ahead hp, Int.add_zero]
        exact ih (by omega)
      · have h1 := row_anti (Ws.take i) (ms.take i) (p := ms[i]) (q := p) (by omega) (fun W hW => gw W (List.mem_of_mem_take hW)) (late_take g lp em)
        have h2 := laid_anti gi.1 gi.2 (Int.le_refl ms[i]) (show ms[i] ≤ p by omega)
        rw [first_at gi.1] at h2
        have h3 := f.2.1
        have h4 : low - 1 + thickAt Ws[i].2 0 ≤ high := of_decide_eq_true (List.all_eq_true.mp hw _ (List.getElem_mem hi2))
        omega
  have := key ms.length (Nat.le_refl _)
  rw [List.take_length, List.take_of_length_le (by rw [lp.1]; exact Nat.le_refl _)] at this
  exact this
theorem RowAt.drop {H : Hp} {as : List Addr} {Ws : List Wi} (h : RowAt H as Ws) (n : Nat) : RowAt H (as.drop n) (Ws.drop n) := by
  refine ⟨by rw [List.length_drop, List.length_drop, h.1], fun i a e => ?_⟩
  rw [List.getElem?_drop] at e
  obtain ⟨W, h1, h2⟩ := h.2 _ a e
  exact ⟨W, by rw [List.getElem?_drop]; exact h1, h2⟩
theorem RowAt.app {H : Hp} {as bs : List Addr} {Ws Vs : List Wi} (h : RowAt H as Ws) (g : RowAt H bs Vs) : RowAt H (as ++ bs) (Ws ++ Vs) := by
  refine ⟨by rw [List.length_append, List.length_append, h.1, g.1], fun i a e => ?_⟩
  by_cases hi : i < as.length
  · rw [List.getElem?_append_left hi] at e
    obtain ⟨L, h1, h2⟩ := h.2 i a e
    exact ⟨L, by rw [List.getElem?_append_left (by rw [← h.1]; exact hi)]; exact h1, h2⟩
  · rw [List.getElem?_append_right (by omega)] at e
    obtain ⟨L, h1, h2⟩ := g.2 _ a e
    exact ⟨L, by rw [List.getElem?_append_right (by rw [← h.1]; omega), ← h.1]; exact h1, h2⟩
/-! ### zip where the second one is no longer -/
/-! ### what is good is told so -/
def spIsWhole : Sp := fun vs H Q _ => ∃ i n : Int, vs = [.int i, .int n] ∧ Q (.bl (decide (n ≤ i))) H
def spIsTuple : Sp := fun vs H Q _ => ∃ (a : Addr) (xs : List V) (m n : Int), vs = [.ref a, .int m, .int n] ∧ H a = some (.tup xs) ∧ m ≤ xs.length ∧ (xs.length : Int) ≤ n ∧ Q (.bl true) H
def spIsStep : Sp := fun vs H Q _ => ∃ (a : Addr) (t g : Int), vs = [.ref a] ∧ H a = some (.tup [.int t, .int g]) ∧ 1 ≤ t ∧ 1 ≤ g ∧ Q (.bl true) H
def spAreSteps : Sp := fun vs H Q _ => ∃ (a : Addr) (as : List Addr) (ps : List (Int × Int)), vs = [.ref a] ∧ H a = some (.tup (as.map V.ref)) ∧ TupsAt H as (ps.map stepV) ∧ GoodP ps ∧ Falls ps ∧ ∀ H', Same H H' → Q (.bl true) H'
def spIsWisp : Sp := fun vs H Q _ => ∃ (a : Addr) (s : Int) (ps : List (Int × Int)), vs = [.ref a] ∧ WispAt H a s ps ∧ 0 ≤ s ∧ s ≤ 1 ∧ GoodP ps ∧ Falls ps ∧ ∀ H', Same H H' → Q (.bl true) H'
/-- laid anywhere -/
def GoodI (L : Lw) : Prop := GoodP L.ps ∧ 0 ≤ L.so ∧ L.so ≤ 1 ∧ 0 ≤ L.pl ∧ Falls L.ps ∧ ∀ n, L.le = some n → L.pl < n
theorem GoodD.i {B : Int} {L : Lw} (h : GoodD B L) : GoodI L := ⟨h.1, h.2.1, h.2.2.1, h.2.2.2.1, h.2.2.2.2.2.1, fun n hn => (h.2.2.2.2.2.2 n hn).1⟩
def spIsLaid : Sp := fun vs H Q _ => ∃ (a : Addr) (L : Lw), vs = [.ref a] ∧ LaidAt H a L ∧ GoodI L ∧ ∀ H', Same H H' → Q (.bl true) H'
def spIsStrand : Sp := fun vs H Q _ => ∃ (a : Addr) (Ls : List Lw), vs = [.ref a] ∧ StrandAt H a Ls ∧ Ls.length ≤ 60 ∧ (∀ L ∈ Ls, GoodI L) ∧ ∀ H', Same H H' → Q (.bl true) H'
theorem all_true {bs : List Bool} (h : ∀ b ∈ bs, b = true) : bs.all id = true := List.all_eq_true.mpr fun b hb => h b hb
theorem trues_snoc {bs : List Bool} (h : ∀ b ∈ bs, b = true) : ∀ b ∈ bs ++ [true], b = true := fun b hb => by
  rcases List.mem_append.mp hb with z | z
  · exact h b z
  · exact List.mem_singleton.mp z
/-! ### moved -/
def movL (L : Lw) (d : Int) : Lw := ⟨L.so, L.ps, L.pl + d, L.le.map (· + d)⟩
theorem movL_thick (L : Lw) (d q : Int) : thickL (movL L d) q = thickL L (q - d) := by
  unfold thickL movL
  cases L.le with
  | none =>
    show (if q < L.pl + d then 0 else thickAt L.ps (q - (L.pl + d))) = if q - d < L.pl then 0 else thickAt L.ps (q - d - L.pl)
    rw [show q - (L.pl + d) = q - d - L.pl by omega]
    by_cases h : q - d < L.pl
    · rw [if_pos h, if_pos (by omega)]
    · rw [if_neg h, if_neg (by omega)]
  | some n =>
    show (if q < L.pl + d then 0 else if n + d ≤ q then 0 else thickAt L.ps (q - (L.pl + d))) = if q - d < L.pl then 0 else if n ≤ q - d then 0 else thickAt L.ps (q - d - L.pl)
    rw [show q - (L.pl + d) = q - d - L.pl by omega]
    by_cases h : q - d < L.pl
    · rw [if_pos h, if_pos (by omega)]
    · rw [if_neg h, if_neg (by omega)]
      by_cases h2 : n ≤ q - d
      · rw [if_pos h2, if_pos (by omega)]
      · rw [if_neg h2, if_neg (by omega)]
theorem movS_thick (d q : Int) : ∀ Ls : List Lw, thickS (Ls.map fun L => movL L d) q = thickS Ls (q - d)
  | [] => rfl
  | L :: r => by
    show thickS (movL L d :: r.map fun L => movL L d) q = thickS (L :: r) (q - d)
    rw [thickS_cons, thickS_cons, movL_thick, movS_thick d q r]
def spMoved : Sp := fun vs H Q _ => ∃ (a : Addr) (L : Lw) (d : Int), vs = [.ref a, .int d] ∧ LaidAt H a L ∧ ∀ H' o, Same H H' → H o = none → LaidAt H' o (movL L d) → Q (.ref o) H'
def spBehind : Sp := fun vs H Q _ => ∃ (a b : Addr) (Ls Ms : List Lw) (d : Int), vs = [.ref a, .ref b, .int d] ∧ StrandAt H a Ls ∧ StrandAt H b Ms ∧ Ls.length + Ms.length ≤ 60 ∧
  ∀ H' o, Same H H' → StrandAt H' o (Ls ++ Ms.map fun L => movL L d) → Q (.ref o) H'
theorem LaidsAt.app {H : Hp} {as bs : List Addr} {Ls Ms : List Lw} (h : LaidsAt H as Ls) (k : LaidsAt H bs Ms) : LaidsAt H (as ++ bs) (Ls ++ Ms) := by
  refine ⟨by simp [h.1, k.1], fun i b hb => ?_⟩
  by_cases hi : i < as.length
  · rw [List.getElem?_append_left hi] at hb
    obtain ⟨M, h1, h2⟩ := h.2 i b hb
    exact ⟨M, by rw [List.getElem?_append_left (by rw [← h.1]; exact hi)]; exact h1, h2⟩
  · rw [List.getElem?_append_right (by omega)] at hb
    obtain ⟨M, h1, h2⟩ := k.2 _ b hb
    refine ⟨M, ?_, h2⟩
    rw [List.getElem?_append_right (by rw [← h.1]; omega), ← h.1]
    exact h1
/-! ### shown -/
def GoodS (L : Lw) : Prop := GoodP L.ps ∧ 0 ≤ L.so ∧ L.so ≤ 1 ∧ 0 ≤ L.pl ∧ L.pl < 2 ^ 200 ∧ ∀ n, L.le = some n → 0 ≤ n ∧ n < 2 ^ 200
theorem laid_shS {L : Lw} (g : GoodS L) : Sh (laidD L) := by
  refine .tup fun x hx => ?_
  simp only [List.mem_cons, List.not_mem_nil, or_false] at hx
  rcases hx with rfl | rfl | rfl
  · exact wisp_sh g.2.1 g.2.2.1 g.1.good
  · exact sh_nat g.2.2.2.1 g.2.2.2.2.1
  · cases h : L.le with
    | none => exact .non
    | some n =>
      have := g.2.2.2.2.2 n h
      exact sh_nat this.1 this.2
theorem strand_shS {Ls : List Lw} (g : ∀ L ∈ Ls, GoodS L) : Sh (strandD Ls) := .tup fun x hx => by
  obtain ⟨L, hL, rfl⟩ := List.mem_map.mp hx
  exact laid_shS (g L hL)
theorem strand_bulkS {Ls : List Lw} (g : ∀ L ∈ Ls, GoodS L) (hl : Ls.length ≤ 60) : (strandD Ls).bulk ≤ 20000 := by
  have h := bulk_all (xs := Ls.map laidD) (n := 41) fun x hx => by
    obtain ⟨L, hL, rfl⟩ := List.mem_map.mp hx
    have h1 := wisp_bulk L.so L.ps
    have h2 := (g L hL).1.2.1
    have h3 : (letD L.le).bulk = 0 := by
      cases L.le with
      | none => rfl
      | some n => rfl
    show (wispD L.so L.ps).bulk + 1 + (0 + 1 + ((letD L.le).bulk + 1 + 0)) + 1 ≤ 41
    omega
  rw [List.length_map] at h
  show PyData.bulkAll (Ls.map laidD) ≤ 20000
  omega
theorem GoodD.s {B : Int} {L : Lw} (h : GoodD B L) (hB : B ≤ 2 ^ 200) : GoodS L := ⟨h.1, h.2.1, h.2.2.1, h.2.2.2.1, by have := h.2.2.2.2.1; omega, fun n hn => by
  have h1 := h.2.2.2.2.2.2 n hn
  have h2 := h.2.2.2.1
  exact ⟨by omega, by omega⟩⟩
theorem movL_goodS {B : Int} {L : Lw} (h : GoodD B L) (hB : B ≤ 2 ^ 140) {d : Int} (d0 : 0 ≤ d) (d1 : d < 2 ^ 140) : GoodS (movL L d) := by
  have h1 := h.2.2.2.2.1
  have h2 := h.2.2.2.1
  refine ⟨h.1, h.2.1, h.2.2.1, ?_, ?_, fun n hn => ?_⟩
  · show 0 ≤ L.pl + d
    omega
  · show L.pl + d < 2 ^ 200
    omega
  · have hn : L.le.map (· + d) = some n := hn
    cases hle : L.le with
    | none =>
      rw [hle] at hn
      cases hn
    | some m =>
      rw [hle] at hn
      have e : m + d = n := Option.some.inj hn
      have := h.2.2.2.2.2.2 m hle
      omega
theorem movL_goodI {L : Lw} (h : GoodI L) {d : Int} (d0 : 0 ≤ L.pl + d) : GoodI (movL L d) := by
  refine ⟨h.1, h.2.1, h.2.2.1, d0, h.2.2.2.2.1, fun n hn => ?_⟩
  have hn : L.le.map (· + d) = some n := hn
  cases hle : L.le with
  | none =>
    rw [hle] at hn
    cases hn
  | some m =>
    rw [hle] at hn
    have e : m + d = n := Option.some.inj hn
    have := h.2.2.2.2.2 m hle
    show L.pl + d < n
    omega
/-! ### cut off, and from a place on -/
def isKept (p : Int) (L : Lw) : Bool := decide (p ≤ L.pl) || decide (0 < thickL L p)
def cutL (L : Lw) (p : Int) : Lw := ⟨L.so, tailOf L.ps (p - L.pl), p, L.le⟩
def restL (p : Int) (L : Lw) : Lw := if L.pl < p then movL (cutL L p) (-p) else movL L (-p)
def belowOf (p : Int) (Ls : List Lw) : List Lw := (Ls.filter fun L => decide (L.pl < p)).map fun L => letL L p
def aboveOf (p : Int) (Ls : List Lw) : List Lw := (Ls.filter (isKept p)).map (restL p)
theorem below_snoc (p : Int) (Ls : List Lw) (L : Lw) : belowOf p (Ls ++ [L]) = belowOf p Ls ++ (if L.pl < p then [letL L p] else []) := by
  unfold belowOf
  rw [List.filter_append, List.map_append]
  congr 1
  by_cases h : L.pl < p
  · rw [if_pos h]
    simp [h]
  · rw [if_neg h]
    simp [h]
theorem above_snoc (p : Int) (Ls : List Lw) (L : Lw) : aboveOf p (Ls ++ [L]) = aboveOf p Ls ++ (if isKept p L = true then [restL p L] else []) := by
  unfold aboveOf
  rw [List.filter_append, List.map_append]
  congr 1
  by_cases h : isKept p L = true
  · rw [if_pos h]
    simp [h]
  · rw [if_neg h]
    simp [h]
theorem below_len (p : Int) (Ls : List Lw) : (belowOf p Ls).length ≤ Ls.length := by
  unfold belowOf
  rw [List.length_map]
  exact List.length_filter_le _ _
theorem above_len (p : Int) (Ls : List Lw) : (aboveOf p Ls).length ≤ Ls.length := by
  unfold aboveOf
  rw [List.length_map]
  exact List.length_filter_le _ _
theorem movmov (L : Lw) (d q : Int) : thickL (movL (movL L (-d)) d) q = thickL L q := by
  rw [movL_thick, movL_thick, show q - d - -d = q by omega]
theorem cut_thick {L : Lw} (g : GoodL L) {p : Int} (h : L.pl < p) (q : Int) : thickL (letL L p) q + thickL (cutL L p) q = thickL L q := by
  have hp : ∀ x ∈ L.ps, 1 ≤ x.2 := fun x hx => (g.1.2.2 x hx).2.2.1
  rw [letL_thick]
  unfold thickL cutL
  by_cases hq : p ≤ q
  · rw [if_pos hq]
    dsimp only
    rw [if_neg (by omega), if_neg (by omega), tail_thick L.ps (p - L.pl) (q - p) (by omega) (by omega) hp, show p - L.pl + (q - p) = q - L.pl by omega, Int.zero_add]
  · rw [if_neg hq]
    dsimp only
    rw [if_pos (show q < p by omega), Int.add_zero]
theorem whole_thick (p : Int) (q : Int) : ∀ Ls : List Lw, (∀ L ∈ Ls, GoodL L) → thickS (belowOf p Ls ++ (aboveOf p Ls).map fun L => movL L p) q = thickS Ls q := by
  intro Ls g
  rw [thickS_app]
  induction Ls with
  | nil => rfl
  | cons L r ih =>
    have gL := g L (by simp)
    have ih := ih fun M hM => g M (by simp [hM])
    rw [thickS_cons]
    have eb : belowOf p (L :: r) = (if L.pl < p then [letL L p] else []) ++ belowOf p r := by
      unfold belowOf
      by_cases h : L.pl < p <;> simp [h]
    have ea : aboveOf p (L :: r) = (if isKept p L = true then [restL p L] else []) ++ aboveOf p r := by
      unfold aboveOf
      by_cases h : isKept p L = true <;> simp [h]
    rw [eb, ea, List.map_append, thickS_app, thickS_app]
    have key : thickS (if L.pl < p then [letL L p] else []) q + thickS ((if isKept p L = true then [restL p L] else []).map fun L => movL L p) q = thickL L q := by
      by_cases h : L.pl < p
      · rw [if_pos h, thickS_one]
        by_cases k : isKept p L = true
        · rw [if_pos k]
          show _ + thickS [movL (restL p L) p] q = _
          rw [thickS_one]
          unfold restL
          rw [if_pos h, movmov]
          exact cut_thick gL h q
        · rw [if_neg k]
          show _ + 0 = _
          rw [letL_thick]
          have nr : ¬ 0 < thickL L p := fun z => k (by unfold isKept; simp [z])
          have ov : lastOf L ≤ p := by
            have := mt (thick_runs gL p).mpr nr
            omega
          by_cases hq : p ≤ q
          · rw [if_pos hq, thick_over gL (by omega)]
            rfl
          · rw [if_neg hq]
            omega
      · rw [if_neg h]
        have k : isKept p L = true := by
          unfold isKept
          rw [decide_eq_true (show p ≤ L.pl by omega)]
          rfl
        rw [if_pos k]
        show (0 : Int) + thickS [movL (restL p L) p] q = _
        rw [thickS_one]
        unfold restL
        rw [if_neg h, movmov]
        omega
    omega
theorem tail_falls : ∀ (ps : List (Int × Int)) (k : Int), Falls ps → Falls (tailOf ps k)
  | [], _, _ => List.Pairwise.nil
  | (t, g) :: r, k, h => by
    obtain ⟨h1, h2⟩ := List.pairwise_cons.mp h
    have ih := tail_falls r (k - g) h2
    show Falls ((if k < g then [(t, g - (if 0 > k then 0 else k))] else []) ++ tailOf r (k - g))
    split
    · refine List.pairwise_cons.mpr ⟨fun x hx => ?_, ih⟩
      obtain ⟨g', m, _⟩ := tail_mem hx
      exact h1 (x.1, g') m
    · exact ih
theorem tail_goodP {ps : List (Int × Int)} {k : Int} (g : GoodP ps) (h0 : 0 ≤ k) (h : k < longs ps) : GoodP (tailOf ps k) := by
  have := tail_good g.good h0 h
  refine ⟨this.1, Nat.le_trans (tail_len ps k) g.2.1, fun x hx => ?_⟩
  obtain ⟨g', m, g1, g2⟩ := tail_mem hx
  have gm := g.2.2 _ m
  have g1 := g1 gm.2.2.1
  exact ⟨gm.1, gm.2.1, g1, by have := gm.2.2.2; dsimp only at this; omega⟩
theorem run_lt {B : Int} {L : Lw} (g : GoodD B L) (hB : B ≤ 2 ^ 140) {p : Int} (h1 : L.pl < p) (h : 0 < thickL L p) : p - L.pl < longs L.ps ∧ ∀ n, L.le = some n → p < n := by
  have := (thick_runs (g.good hB) p).mp h
  unfold lastOf clip at this
  cases hle : L.le with
  | none =>
    rw [hle] at this
    dsimp only at this
    exact ⟨by omega, fun n hn => by cases hn⟩
  | some n =>
    rw [hle] at this
    dsimp only at this
    have e : p < n ∧ p - L.pl < longs L.ps := by
      obtain ⟨_, t⟩ := this
      split at t <;> omega
    refine ⟨e.2, fun m hm => ?_⟩
    have : n = m := Option.some.inj hm
    omega
theorem rest_good {B : Int} {L : Lw} (g : GoodD B L) (hB : B ≤ 2 ^ 140) {p : Int} (p0 : 0 ≤ p) (hk : isKept p L = true) : GoodI (restL p L) ∧ GoodS (restL p L) := by
  have g4 := g.2.2.2.1
  have g5 := g.2.2.2.2.1
  have gl := g.2.2.2.2.2.2
  by_cases h : L.pl < p
  · have hr : 0 < thickL L p := by
      unfold isKept at hk
      rw [decide_eq_false (show ¬ p ≤ L.pl by omega), Bool.false_or] at hk
      exact of_decide_eq_true hk
    obtain ⟨r1, r2⟩ := run_lt g hB h hr
    have gp := tail_goodP g.1 (show 0 ≤ p - L.pl by omega) r1
    unfold restL
    rw [if_pos h]
    have le' : ∀ n, (movL (cutL L p) (-p)).le = some n → 0 < n ∧ n < 2 ^ 200 := fun n hn => by
      have hn : L.le.map (· + -p) = some n := hn
      cases hle : L.le with
      | none =>
        rw [hle] at hn
        cases hn
      | some m =>
        rw [hle] at hn
        have e : m + -p = n := Option.some.inj hn
        have := r2 m hle
        have := gl m hle
        omega
    have pl' : (movL (cutL L p) (-p)).pl = 0 := by
      show p + -p = 0
      omega
    exact ⟨⟨gp, g.2.1, g.2.2.1, by rw [pl']; exact Int.le_refl _, tail_falls _ _ g.2.2.2.2.2.1, fun n hn => by rw [pl']; exact (le' n hn).1⟩, ⟨gp, g.2.1, g.2.2.1, by rw [pl']; exact Int.le_refl _, by rw [pl']; decide, fun n hn => ⟨by have := (le' n hn).1; omega, (le' n hn).2⟩⟩⟩
  · unfold restL
    rw [if_neg h]
    refine ⟨movL_goodI g.i (by omega), ⟨g.1, g.2.1, g.2.2.1, ?_, ?_, fun n hn => ?_⟩⟩
    · show 0 ≤ L.pl + -p
      omega
    · show L.pl + -p < 2 ^ 200
      omega
    · have hn : L.le.map (· + -p) = some n := hn
      cases hle : L.le with
      | none =>
        rw [hle] at hn
        cases hn
      | some m =>
        rw [hle] at hn
        have e : m + -p = n := Option.some.inj hn
        have := gl m hle
        omega
def spCutOff : Sp := fun vs H Q _ => ∃ (a : Addr) (Ls : List Lw) (p : Int), vs = [.ref a, .int p] ∧ StrandAt H a Ls ∧ Ls.length ≤ 60 ∧ ∀ H' o, Same H H' → H o = none → StrandAt H' o (belowOf p Ls) → Q (.ref o) H'
def spRestFrom : Sp := fun vs H Q _ => ∃ (a : Addr) (L : Lw) (p : Int), vs = [.ref a, .int p] ∧ LaidAt H a L ∧ L.ps.length ≤ 10 ∧ ∀ H' o, Same H H' → H o = none → LaidAt H' o (restL p L) → Q (.ref o) H'
def spFromOn : Sp := fun vs H Q _ => ∃ (a : Addr) (Ls : List Lw) (p : Int), vs = [.ref a, .int p] ∧ StrandAt H a Ls ∧ Ls.length ≤ 60 ∧ (∀ L ∈ Ls, L.ps.length ≤ 10) ∧ ∀ H' o, Same H H' → H o = none → StrandAt H' o (aboveOf p Ls) → Q (.ref o) H'
def spTailOf : Sp := fun vs H Q _ => ∃ (a : Addr) (s : Int) (ps : List (Int × Int)) (k : Int), vs = [.ref a, .int k] ∧ WispAt H a s ps ∧ ps.length ≤ 10 ∧ 0 ≤ k ∧ (∀ p ∈ ps, 1 ≤ p.2) ∧ ∀ H' b, Same H H' → H b = none → WispAt H' b s (tailOf ps k) → Q (.ref b) H'
def spDue17 : Sp := fun vs H Q _ => ∃ (a : Addr) (Ls : List Lw) (p : Int), vs = [.ref a, .int p] ∧ StrandAt H a Ls ∧ Ls.length ≤ 60 ∧ (∀ L ∈ Ls, GoodL L) ∧ 0 ≤ p ∧
  ∀ H' o x y, Same H H' → H' o = some (.tup [.ref x, .ref y]) → StrandAt H' x (belowOf p Ls) → StrandAt H' y (aboveOf p Ls) → Q (.ref o) H'
theorem kept_len {p : Int} {Ls : List Lw} : (Ls.filter (isKept p)).length ≤ Ls.length := List.length_filter_le _ _
theorem strand_bulk5 {Ls : List Lw} (g : ∀ L ∈ Ls, GoodS L) (hl : Ls.length ≤ 60) : (strandD Ls).bulk ≤ 5000 := by
  have h := bulk_all (xs := Ls.map laidD) (n := 41) fun x hx => by
    obtain ⟨L, hL, rfl⟩ := List.mem_map.mp hx
    have h1 := wisp_bulk L.so L.ps
    have h2 := (g L hL).1.2.1
    have h3 : (letD L.le).bulk = 0 := by
      cases L.le with
      | none => rfl
      | some n => rfl
    show (wispD L.so L.ps).bulk + 1 + (0 + 1 + ((letD L.le).bulk + 1 + 0)) + 1 ≤ 41
    omega
  rw [List.length_map] at h
  show PyData.bulkAll (Ls.map laidD) ≤ 5000
  omega
def twoD (As Bs : List Lw) : PyData := .tuple [strandD As, strandD Bs]
theorem two_show {As Bs : List Lw} (ga : ∀ L ∈ As, GoodS L) (gb : ∀ L ∈ Bs, GoodS L) (la : As.length ≤ 60) (lb : Bs.length ≤ 60) : (twoD As Bs).showable = true ∧ (twoD As Bs).hasDict = false ∧ (twoD As Bs).depth ≤ 60 ∧ (twoD As Bs).shown.length ≤ sizeLine := by
  have sh : Sh (twoD As Bs) := .tup fun x hx => by
    simp only [List.mem_cons, List.not_mem_nil, or_false] at hx
    rcases hx with rfl | rfl
    · exact strand_shS ga
    · exact strand_shS gb
  have h1 := strand_bulk5 ga la
  have h2 := strand_bulk5 gb lb
  have hd : (twoD As Bs).depth ≤ 6 := Nat.succ_le_succ (depth_all fun x hx => by
    simp only [List.mem_cons, List.not_mem_nil, or_false] at hx
    rcases hx with rfl | rfl
    · exact strand_depth As
    · exact strand_depth Bs)
  refine ⟨sh.ok.1, sh.ok.2.1, by omega, sh.fits ?_⟩
  show (strandD As).bulk + 1 + ((strandD Bs).bulk + 1 + 0) ≤ 20000
  omega
/-! ### things at addresses, one by one -/
def Each {α : Type} (φ : Addr → α → Prop) (as : List Addr) (xs : List α) : Prop := as.length = xs.length ∧ ∀ (i : Nat) (a : Addr) (x : α), as[i]? = some a → xs[i]? = some x → φ a x
section
variable {α : Type} {φ ψ : Addr → α → Prop}
theorem Each.mono {as : List Addr} {xs : List α} (h : Each φ as xs) (f : ∀ a x, φ a x → ψ a x) : Each ψ as xs := ⟨h.1, fun i a x h1 h2 => f a x (h.2 i a x h1 h2)⟩
theorem Each.nil : Each φ [] [] := ⟨rfl, fun i a x h => by cases h⟩
theorem Each.app {as bs : List Addr} {xs ys : List α} (h : Each φ as xs) (g : Each φ bs ys) : Each φ (as ++ bs) (xs ++ ys) := by
  refine ⟨by rw [List.length_append, List.length_append, h.1, g.1], fun i a x e1 e2 => ?_⟩
  by_cases c : i < as.length
  · rw [List.getElem?_append_left c] at e1
    rw [List.getElem?_append_left (by rw [← h.1]; exact c)] at e2
    exact h.2 i a x e1 e2
  · rw [List.getElem?_append_right (by omega)] at e1
    rw [List.getElem?_append_right (by rw [← h.1]; omega), ← h.1] at e2
    exact g.2 _ a x e1 e2
theorem Each.one {a : Addr} {x : α} (h : φ a x) : Each φ [a] [x] := ⟨rfl, fun i b y e1 e2 => by
  cases i with
  | zero =>
    cases e1
    cases e2
    exact h
  | succ i => cases e1⟩
theorem Each.snoc {as : List Addr} {xs : List α} {a : Addr} {x : α} (h : Each φ as xs) (e : φ a x) : Each φ (as ++ [a]) (xs ++ [x]) := h.app (Each.one e)
theorem Each.take {as : List Addr} {xs : List α} (h : Each φ as xs) (n : Nat) : Each φ (as.take n) (xs.take n) := by
  refine ⟨by rw [List.length_take, List.length_take, h.1], fun i a x e1 e2 => ?_⟩
  rw [List.getElem?_take] at e1 e2
  split at e1
  · next c =>
    rw [if_pos c] at e2
    exact h.2 i a x e1 e2
  · cases e1
theorem Each.drop {as : List Addr} {xs : List α} (h : Each φ as xs) (n : Nat) : Each φ (as.drop n) (xs.drop n) := by
  refine ⟨by rw [List.length_drop, List.length_drop, h.1], fun i a x e1 e2 => ?_⟩
  rw [List.getElem?_drop] at e1 e2
  exact h.2 _ a x e1 e2
theorem Each.get {as : List Addr} {xs : List α} (h : Each φ as xs) {i : Nat} {v : V} (e : (as.map V.ref)[i]? = some v) : ∃ a x, v = .ref a ∧ as[i]? = some a ∧ xs[i]? = some x ∧ φ a x := by
  obtain ⟨a, rfl, ea⟩ := ref_get e
  have hi := (List.getElem?_eq_some_iff.mp ea).1
  have ex : xs[i]? = some (xs[i]'(by rw [← h.1]; exact hi)) := List.getElem?_eq_getElem _
  exact ⟨a, _, rfl, ea, ex, h.2 i a _ ea ex⟩
end
/-! ### a tuple again and again, of none too -/
section
theorem tuple_mul0 (l : Addr) (items : Array Value) (n : Nat) (dd : Option Addr) (sl : Array (Option Value)) (x : Int) (u : Tok) (c0 : (decide (x < -(2 ^ 63)) || decide (x ≥ 2 ^ 63)) = false) (c1 : (items.isEmpty || x == 1) = true) :
    Meets (Builtin.«tuple.__mul__» ⟨[.ref l, .int x u], []⟩) (fun _ R s => s.heap.get? l = some { cls := .type "tuple", dict := dd, data := .seq items n, slots := sl } ∧ R (.ok (.ret (.ref l))) s) :=
  .of_wp fun prog w A R s h => by
    obtain ⟨hp, g, d, tk, os⟩ := s
    obtain ⟨hl, h⟩ := h
    have f1 := AutoSeq1.idx_int
    wp_walk using wpAny_loadPart' hl
    repeat (first
      | (refine wpAny_ite_false (decide_eq_false (by rw [c0]; exact Bool.false_ne_true)) ?_; wp_walk using wpAny_loadPart' hl)
      | (refine wpAny_ite_true (decide_eq_true c1) ?_; wp_walk using wpAny_loadPart' hl))
    all_goals first | exact ⟨_, rfl, h⟩ | skip
def rRepTA (K : PySem.W.Frag) : R2 := fun x y H Q => ∃ l k xs, x = .ref l ∧ y = .int k ∧ SqT K H l xs ∧ 2 ≤ k ∧ k ≤ 1000 ∧ xs.length ≤ 1000 ∧ (xs = [] → Q (.ref l) H) ∧ (xs ≠ [] → ∀ p, H p = none → Q (.ref p) (upd H p (.tup (List.replicate k.toNat xs).flatten)))
variable {X : Cx}
theorem op_repTA : OpR X (binaryOp .Mult) (rRepTA X.K) := by
  intro pins s σ H x y v u Q I rx ry h
  obtain ⟨l, k, xs, rfl, rfl, hT, h1, h2, hz, q0, q1⟩ := h
  by_cases hne : xs = []
  · subst hne
    cases rx
    obtain ⟨t, rfl⟩ := ry
    obtain ⟨its, r, ⟨⟨cls, dd, data, sl⟩, ho, hc, n, hd⟩, hs⟩ := I.tuple hT
    simp only at hc hd
    subst hc hd
    have hle : its.length = 0 := r.length.symm
    have hits : its = [] := List.eq_nil_of_length_eq_zero hle
    subst hits
    have c0 : (decide (k < -(2 ^ 63)) || decide (k ≥ 2 ^ 63)) = false := by
      rw [decide_eq_false (by omega), decide_eq_false (by omega)] <;> rfl
    refine wpAny_binaryOp_repeat_ref (T := "tuple") (U := "int") (by decide) ⟨_, ho, rfl⟩ (fun s' => typeIs_int s' k t) noFill_tuple_mul F.fills_int_mul F.slot_int_rmul repeat_tuple F.slot_int_index.lookup
      (call_meets F.slot_int_rmul (typeIs_int s k t) F.entry_int_rmul (F.args_int_rmul_2 _ _) (int_rmul_tuple k t l #[] n dd sl)
        ⟨ho, rfl, ⟨_, ho, rfl⟩, call_meets F.slot_tuple_mul ⟨_, ho, rfl⟩ F.entry_tuple_mul (F.args_tuple_mul_2 _ _) (tuple_mul0 l #[] n dd sl k t c0 rfl) ⟨ho, ?_⟩⟩)
    exact ⟨.ref l, H, I, rfl, q0 rfl⟩
  · exact op_repT pins s σ H _ _ v u Q I rx ry ⟨l, k, xs, rfl, rfl, hT, hne, h1, h2, hz, q1 hne⟩
def rNeE (K : PySem.W.Frag) : R2 := fun x y H Q => ∃ a b xs, x = .ref a ∧ y = .ref b ∧ SqT K H a xs ∧ SqT K H b [] ∧ Q (.bl (!xs.isEmpty)) H
theorem op_neE (hu : X.A.units + 64 < cLine) : OpR X (compareOp .NotEq) (rNeE X.K) := by
  intro pins s σ H x y v u Q I rx ry h
  obtain ⟨a, b, xs, rfl, rfl, hA, hB, q⟩ := h
  cases rx
  cases ry
  obtain ⟨its, r, hT, _⟩ := I.tuple hA
  obtain ⟨its2, r2, hT2, _⟩ := I.tuple hB
  cases r2
  have e : (!((List.range (min its.toArray.size ([] : List Value).toArray.size)).all (fun _ => true) && its.toArray.size == ([] : List Value).toArray.size)) = !xs.isEmpty := by
    cases r with
    | nil => rfl
    | cons _ _ =>
      show (!(_ && (_ + 1 == 0))) = true
      rw [show ((_ + 1 : Nat) == 0) = false from rfl, Bool.and_false]
      rfl
  refine PySem.SeqAt.RcNeAt.tuples (e := fun _ => true) hT hT2 (by omega) (fun j h1 h2 => absurd h2 (Nat.not_lt_zero _)) _ _ _ _ ⟨.bl (!xs.isEmpty), H, I, ?_, q⟩
  rw [e]
  rfl
end
/-! ### a tuple once, or not at all -/
section
theorem tuple_mulZ (l : Addr) (items : Array Value) (n : Nat) (dd : Option Addr) (sl : Array (Option Value)) (x : Int) (u : Tok) (c0 : (decide (x < -(2 ^ 63)) || decide (x ≥ 2 ^ 63)) = false) (c1 : (items.isEmpty || x == 1) = false) (c2 : (decide (x ≤ 0) || items.isEmpty) = true) :
    Meets (Builtin.«tuple.__mul__» ⟨[.ref l, .int x u], []⟩) (fun _ R s => s.heap.get? l = some { cls := .type "tuple", dict := dd, data := .seq items n, slots := sl } ∧
      R (.ok (.ret (Value.ref s.heap.objs.size))) { s with heap := s.heap.push { cls := Value.type "tuple", data := Data.seq #[] }, toks := s.toks }) :=
  .of_wp fun prog w A R s h => by
    obtain ⟨hp, g, d, tk, os⟩ := s
    obtain ⟨hl, h⟩ := h
    have f1 := AutoSeq1.idx_int
    wp_walk using wpAny_loadPart' hl
    repeat (first
      | (refine wpAny_ite_false (decide_eq_false (by rw [c0]; exact Bool.false_ne_true)) ?_; wp_walk using wpAny_loadPart' hl)
      | (refine wpAny_ite_false (decide_eq_false (by rw [c1]; exact Bool.false_ne_true)) ?_; wp_walk using wpAny_loadPart' hl)
      | (refine wpAny_ite_true (decide_eq_true c2) ?_; wp_walk using wpAny_loadPart' hl))
    all_goals first | exact ⟨_, rfl, h⟩ | skip
def rRep01 (K : PySem.W.Frag) : R2 := fun x y H Q => ∃ (l : Addr) (b : Bool) (xs : List V), x = .ref l ∧ y = .int (if b then 1 else 0) ∧ SqT K H l xs ∧ xs ≠ [] ∧ (b = true → Q (.ref l) H) ∧ (b = false → ∀ p, H p = none → Q (.ref p) (upd H p (.tup [])))
variable {X : Cx}
theorem op_rep01 : OpR X (binaryOp .Mult) (rRep01 X.K) := by
  intro pins s σ H x y v u Q I rx ry h
  obtain ⟨l, b, xs, rfl, rfl, hT, hne, q1, q0⟩ := h
  cases rx
  obtain ⟨t, rfl⟩ := ry
  obtain ⟨its, r, ⟨⟨cls, dd, data, sl⟩, ho, hc, n, hd⟩, hs⟩ := I.tuple hT
  simp only at hc hd
  subst hc hd
  have hle : its.length = xs.length := r.length.symm
  have hi : its.toArray.isEmpty = false := by
    cases its with
    | nil => exact absurd (List.eq_nil_of_length_eq_zero hle.symm) hne
    | cons a b => rfl
  cases b with
  | true =>
    refine wpAny_binaryOp_repeat_ref (T := "tuple") (U := "int") (by decide) ⟨_, ho, rfl⟩ (fun s' => typeIs_int s' 1 t) noFill_tuple_mul F.fills_int_mul F.slot_int_rmul repeat_tuple F.slot_int_index.lookup
      (call_meets F.slot_int_rmul (typeIs_int s 1 t) F.entry_int_rmul (F.args_int_rmul_2 _ _) (int_rmul_tuple 1 t l its.toArray n dd sl)
        ⟨ho, rfl, ⟨_, ho, rfl⟩, call_meets F.slot_tuple_mul ⟨_, ho, rfl⟩ F.entry_tuple_mul (F.args_tuple_mul_2 _ _) (tuple_mul0 l its.toArray n dd sl 1 t rfl (by rw [hi]; rfl)) ⟨ho, ?_⟩⟩)
    exact ⟨.ref l, H, I, rfl, q1 rfl⟩
  | false =>
    refine wpAny_binaryOp_repeat_ref (T := "tuple") (U := "int") (by decide) ⟨_, ho, rfl⟩ (fun s' => typeIs_int s' 0 t) noFill_tuple_mul F.fills_int_mul F.slot_int_rmul repeat_tuple F.slot_int_index.lookup
      (call_meets F.slot_int_rmul (typeIs_int s 0 t) F.entry_int_rmul (F.args_int_rmul_2 _ _) (int_rmul_tuple 0 t l its.toArray n dd sl)
        ⟨ho, rfl, ⟨_, ho, rfl⟩, call_meets F.slot_tuple_mul ⟨_, ho, rfl⟩ F.entry_tuple_mul (F.args_tuple_mul_2 _ _) (tuple_mulZ l its.toArray n dd sl 0 t rfl (by rw [hi]; rfl) rfl) ⟨ho, ?_⟩⟩)
    refine ⟨.ref s.heap.objs.size, _, I.laid (t' := s.toks) (o := .tup []) (fun b ob q => Heap.get?_push_of_some _ q) (Nat.le_refl _) ?_, rfl, q0 rfl _ (I.hok.fresh (Nat.le_refl _))⟩
    exact ⟨by rw [sizeLine_eq]; exact Nat.zero_le _, _, .nil, IsTup.new _ _⟩
end
section
variable {X : Cx}
def rEqE (K : PySem.W.Frag) : R2 := fun x y H Q => ∃ a b xs, x = .ref a ∧ y = .ref b ∧ SqT K H a xs ∧ SqT K H b [] ∧ Q (.bl xs.isEmpty) H
theorem op_eqE (hu : X.A.units + 64 < cLine) : OpR X (compareOp .Eq) (rEqE X.K) := by
  intro pins s σ H x y v u Q I rx ry h
  obtain ⟨a, b, xs, rfl, rfl, hA, hB, q⟩ := h
  cases rx
  cases ry
  obtain ⟨its, r, hT, _⟩ := I.tuple hA
  obtain ⟨its2, r2, hT2, _⟩ := I.tuple hB
  cases r2
  have e : ((List.range (min its.toArray.size ([] : List Value).toArray.size)).all (fun _ => true) && its.toArray.size == ([] : List Value).toArray.size) = xs.isEmpty := by
    cases r with
    | nil => rfl
    | cons _ _ =>
      show (_ && (_ + 1 == 0)) = false
      rw [show ((_ + 1 : Nat) == 0) = false from rfl, Bool.and_false]
  refine PySem.SeqAt.RcAt.tuples (e := fun _ => true) hT hT2 (by omega) (fun j h1 h2 => absurd h2 (Nat.not_lt_zero _)) _ _ _ _ ⟨.bl xs.isEmpty, H, I, ?_, q⟩
  rw [e]
  rfl
end
section
variable {X : Cx}
theorem tup_max {prog : Program} {w : World} {A : Around} {E : Value → Shared → Prop} {s : Shared} {l : Addr} {xs : Array (Int × Tok)} {Q : Value → Shared → Prop} (hh : A.handled = none) (hl : s.heap.IsTuple l (intItems xs)) (hn : 0 < xs.size)
    (h : ∀ h' tk M u, M ∈ xs.toList.map Prod.fst → (∀ y ∈ xs.toList.map Prod.fst, y ≤ M) → (∀ b o, s.heap.get? b = some o → h'.get? b = some o) → Q (.int M u) { s with heap := h', toks := tk }) : wpAny (model prog w) A (call (.builtin "max") [.ref l]) Q E s := by
  have lt : l < s.heap.objs.size := by
    obtain ⟨o, e, _⟩ := hl
    exact Heap.lt_size e
  have nn : (s.heap.push { cls := .type "tuple_iterator", data := .fields #[.ref l, .int 0 0] }).objs.size = s.heap.objs.size + 1 := Heap.size_push _ _
  refine PySem.call_max_walk (wpAny_pyIter_tuple hl ⟨_, _, _, _, _, _, _, rfl, Walks.tuple (A := A.in1) hh _ l (Nat.ne_of_lt lt) (intItems xs), ⟨⟨_, Heap.get?_push_size _ rfl, rfl, rfl⟩, ?_⟩, fun b hb => ?_, by simpa [intItems] using hn, CmpOf.ints_gt (numAt xs) (fun _ _ => intItems_at), fun v h' tk hv hk => ?_⟩)
  · obtain ⟨o, e, r⟩ := hl
    exact ⟨o, Heap.get?_push_of_some _ e, r⟩
  · show b < (s.heap.push { cls := .type "tuple_iterator", data := .fields #[.ref l, .int 0 0] }).objs.size
    rw [nn]
    simp only [List.mem_cons, List.not_mem_nil, or_false] at hb
    rcases hb with rfl | rfl
    · exact Nat.lt_succ_self _
    · exact Nat.lt_succ_of_lt lt
  · have hv : (intItems xs)[argBest (fun i j => decide (numAt xs i > numAt xs j)) (xs.size - 1)]? = some v := by simpa [intItems] using hv
    obtain ⟨u, rfl⟩ := intItems_at hv
    obtain ⟨h1, h2⟩ := argBest_gt (numAt xs) (xs.size - 1)
    refine h h' tk _ u ?_ (fun y hy => ?_) fun b o e => hk b o (fun hm => by
      simp only [List.mem_cons, List.not_mem_nil, or_false] at hm
      rw [hm] at e
      exact absurd (Heap.lt_size e) (Nat.lt_irrefl _)) (Heap.get?_push_of_some _ e)
    · rw [numAt_eq]
      exact PySem.getD_mem (by rw [List.length_map, Array.length_toList]; omega)
    · obtain ⟨j, hj, rfl⟩ := mem_getD hy
      rw [List.length_map, Array.length_toList] at hj
      rw [← numAt_eq]
      exact h2 j (by omega)
theorem cr_maxT (hc : X.calm = true) : CallR X (.builtin "max") (fun vs H Q => ∃ (a : Addr) (ns : List Int), vs = [V.ref a] ∧ SqT X.K H a (ns.map V.int) ∧ 0 < ns.length ∧ ∀ m, m ∈ ns → (∀ y, y ∈ ns → y ≤ m) → Q (.int m) H) := by
  intro pins s σ H vs us Q I r h
  obtain ⟨a, ns, rfl, hs, h0, q⟩ := h
  obtain ⟨its, rv, hl, _⟩ := I.tuple hs
  rw [Vals.ref1 r]
  obtain ⟨xs, e⟩ := rv.ints.allInts.items
  have hn : numsOf (intItems xs).toList = ns := by rw [← e]; exact rv.ints.numsOf
  rw [nums_intItems] at hn
  rw [e] at hl
  refine tup_max (I.ok.hd hc) hl (by rw [← hn] at h0; simpa using h0) fun h' tk M u hm hle hk => ?_
  rw [hn] at hm hle
  exact ⟨.int _, H, I.kept hk, ⟨_, rfl⟩, q _ hm hle⟩
end
/-! ### small rows gone through -/
theorem laid_split : ∀ (Ws : List Wi) (ms : List Int) (i : Nat), laidAll Ws ms = laidAll (Ws.take i) (ms.take i) ++ laidAll (Ws.drop i) (ms.drop i)
  | [], _, i => by
    rw [List.take_nil, List.drop_nil]
    rfl
  | W :: r, [], 0 => rfl
  | W :: r, [], i + 1 => by
    rw [List.take_nil, List.drop_nil]
    show ([] : List Lw) = laidAll (W :: r.take i) [] ++ laidAll (r.drop i) []
    cases r.drop i <;> rfl
  | W :: r, m :: s, 0 => rfl
  | W :: r, m :: s, i + 1 => congrArg (laidOf W m :: ·) (laid_split r s i)
theorem laid_more (Ws : List Wi) (ms : List Int) (k i : Nat) : laidAll (Ws.take (k + i)) (ms.take (k + i)) = laidAll (Ws.take k) (ms.take k) ++ laidAll ((Ws.drop k).take i) ((ms.drop k).take i) := by
  rw [laid_split (Ws.take (k + i)) (ms.take (k + i)) k, List.take_take, List.take_take, Nat.min_eq_left (by omega), List.drop_take, List.drop_take, show k + i - k = i by omega]
/-- a row, its places drawn late, and how long it lasts -/
structure Row74 (Ws : List Wi) (low : Int) (ms : List Int) (last : Int) : Prop where
  gt : ∀ W ∈ Ws, GoodT W ∧ longs W.2 ≤ 2 ^ 107
  few : Ws.length ≤ 60
  l1 : 1 ≤ low
  lp : LateP [] Ws low 0 ms
  mb : ∀ m ∈ ms, 0 ≤ m ∧ m < 2 ^ 125
  hf : IsFirst (laidAll Ws ms) low 0 last
theorem Row74.gw {Ws : List Wi} {low last : Int} {ms : List Int} (R : Row74 Ws low ms last) : ∀ W ∈ Ws, GoodW W := fun W hW => (R.gt W hW).1.1
/-- a place is no farther than the wisps ahead of it are long -/
theorem Row74.by {Ws : List Wi} {low last : Int} {ms : List Int} (R : Row74 Ws low ms last) {B : Nat → Int} (b0 : ∀ i, 0 ≤ B i) (up : ∀ i j, i ≤ j → B i ≤ B j) (hB : ∀ (i : Nat) (W : Wi), Ws[i]? = some W → B i + longs W.2 ≤ B (i + 1)) : ∀ (i : Nat) (m : Int), ms[i]? = some m → 0 ≤ m ∧ m ≤ B i := by
  intro i
  induction i using Nat.strongRecOn with
  | _ i ih =>
    intro m hm
    have f : IsFirst (laidAll (Ws.take i) (ms.take i)) low 0 m := R.lp.2 i m hm
    have gL : ∀ L ∈ laidAll (Ws.take i) (ms.take i), GoodL L := fun L hL => by
      obtain ⟨W, hW, n, hn, rfl⟩ := laidAll_mem hL
      have := R.mb n (List.mem_of_mem_take hn)
      exact good_laid (R.gw W (List.mem_of_mem_take hW)) this.1 (by omega)
    refine ⟨f.1, first_le gL f R.l1 (b0 i) fun L hL => ?_⟩
    obtain ⟨j, hj, rfl⟩ := List.getElem_of_mem hL
    have hl : (laidAll (Ws.take i) (ms.take i)).length = min i Ws.length := by
      rw [laidAll_len _ _ (by rw [List.length_take, List.length_take, R.lp.1]), List.length_take]
    have hj' : j < i ∧ j < Ws.length := by omega
    obtain ⟨W, eW⟩ : ∃ W, Ws[j]? = some W := ⟨_, List.getElem?_eq_getElem hj'.2⟩
    obtain ⟨n, en⟩ : ∃ n, ms[j]? = some n := ⟨_, List.getElem?_eq_getElem (by rw [R.lp.1]; exact hj'.2)⟩
    have eL := laidAll_get (Ws := Ws.take i) (ms := ms.take i) (i := j) (W := W) (m := n) (by rw [List.getElem?_take_of_lt hj'.1]; exact eW) (by rw [List.getElem?_take_of_lt hj'.1]; exact en)
    rw [List.getElem?_eq_getElem hj] at eL
    rw [Option.some.inj eL, last_laid]
    have h1 := ih j hj'.1 n en
    have h2 := hB j W eW
    have h3 := up (j + 1) i (by omega)
    omega
theorem Row74.by_last {Ws : List Wi} {low last : Int} {ms : List Int} (R : Row74 Ws low ms last) {B : Nat → Int} (b0 : ∀ i, 0 ≤ B i) (up : ∀ i j, i ≤ j → B i ≤ B j) (hB : ∀ (i : Nat) (W : Wi), Ws[i]? = some W → B i + longs W.2 ≤ B (i + 1)) : last ≤ B Ws.length := by
  have gL : ∀ L ∈ laidAll Ws ms, GoodL L := fun L hL => by
    obtain ⟨W, hW, n, hn, rfl⟩ := laidAll_mem hL
    have := R.mb n hn
    exact good_laid (R.gw W hW) this.1 (by omega)
  refine first_le gL R.hf R.l1 (b0 _) fun L hL => ?_
  obtain ⟨j, hj, rfl⟩ := List.getElem_of_mem hL
  have hl := laidAll_len Ws ms R.lp.1.symm
  have hj' : j < Ws.length := by omega
  obtain ⟨W, eW⟩ : ∃ W, Ws[j]? = some W := ⟨_, List.getElem?_eq_getElem hj'⟩
  obtain ⟨n, en⟩ : ∃ n, ms[j]? = some n := ⟨_, List.getElem?_eq_getElem (by rw [R.lp.1]; exact hj')⟩
  have eL := laidAll_get eW en
  rw [List.getElem?_eq_getElem hj] at eL
  rw [Option.some.inj eL, last_laid]
  have h1 := R.by b0 up hB j n en
  have h2 := hB j W eW
  have h3 := up (j + 1) Ws.length (by omega)
  omega
theorem Row74.far {Ws : List Wi} {low last : Int} {ms : List Int} (R : Row74 Ws low ms last) : (∀ (i : Nat) (W : Wi), Ws[i]? = some W → (i : Int) * 2 ^ 107 + longs W.2 ≤ ((i + 1 : Nat) : Int) * 2 ^ 107) := fun i W h => by
  have := (R.gt W (List.mem_of_getElem? h)).2
  rw [Int.natCast_add, Int.add_mul]
  show _ ≤ (i : Int) * 2 ^ 107 + 2 ^ 107
  omega
theorem mul107_up (i j : Nat) (h : i ≤ j) : (i : Int) * 2 ^ 107 ≤ (j : Int) * 2 ^ 107 := Int.mul_le_mul_of_nonneg_right (by omega) (by decide)
theorem mul107_0 (i : Nat) : 0 ≤ (i : Int) * 2 ^ 107 := Int.mul_nonneg (by omega) (by decide)
theorem Row74.small {Ws : List Wi} {low last : Int} {ms : List Int} (R : Row74 Ws low ms last) {m : Int} (h : m ∈ ms) : 0 ≤ m ∧ m ≤ 2 ^ 113 := by
  obtain ⟨i, hi, ei⟩ := List.getElem_of_mem h
  have h1 := R.by mul107_0 mul107_up R.far i m (by rw [← ei]; exact List.getElem?_eq_getElem hi)
  have h2 : (i : Int) * 2 ^ 107 ≤ 60 * 2 ^ 107 := Int.mul_le_mul_of_nonneg_right (by have := R.lp.1; have := R.few; omega) (by decide)
  exact ⟨h1.1, by omega⟩
theorem Row74.good {Ws : List Wi} {low last : Int} {ms : List Int} (R : Row74 Ws low ms last) : ∀ L ∈ laidAll Ws ms, GoodL L := fun L hL => by
  obtain ⟨W, hW, n, hn, rfl⟩ := laidAll_mem hL
  have := R.mb n hn
  exact good_laid (R.gw W hW) this.1 (by omega)
theorem posL {L : Lw} (g : GoodL L) (p : Int) : 0 ≤ thickL L p := by
  unfold thickL
  split
  · exact Int.le_refl _
  · cases L.le with
    | none => exact thick_nonneg _ _ fun q hq => Int.le_trans (by decide) (g.1.2.2 q hq).1
    | some n =>
      show 0 ≤ if n ≤ p then 0 else _
      split
      · exact Int.le_refl _
      · exact thick_nonneg _ _ fun q hq => Int.le_trans (by decide) (g.1.2.2 q hq).1
theorem posS : ∀ {Ls : List Lw}, (∀ L ∈ Ls, GoodL L) → ∀ p : Int, 0 ≤ thickS Ls p
  | [], _, _ => Int.le_refl _
  | L :: r, g, p => by
    have e : thickS (L :: r) p = thickL L p + thickS r p := rfl
    have h1 := posL (g L List.mem_cons_self) p
    have h2 := posS (fun M hM => g M (List.mem_cons_of_mem _ hM)) p
    omega
theorem Row74.ahead {Ws : List Wi} {low last : Int} {ms : List Int} (R : Row74 Ws low ms last) {k : Nat} {m x : Int} {Fs : List Lw} (hk : ms[k]? = some m) (e : ∃ Gs, Fs = laidAll (Ws.take k) (ms.take k) ++ Gs ∧ ∀ L ∈ Gs, GoodL L) (hx : IsFirst Fs low 0 x) : m ≤ x := by
  obtain ⟨Gs, rfl, gg⟩ := e
  have f : IsFirst (laidAll (Ws.take k) (ms.take k)) low 0 m := R.lp.2 k m hk
  rcases Int.lt_or_le x m with z | z
  · have h1 := f.2.2 x hx.1 z
    have h2 := hx.2.1
    rw [thickS_app] at h2
    have h3 := posS gg x
    omega
  · exact z
theorem Row74.rise {Ws : List Wi} {low last : Int} {ms : List Int} (R : Row74 Ws low ms last) {k j : Nat} {m n : Int} (hk : ms[k]? = some m) (hj : ms[j]? = some n) (h : k ≤ j) : m ≤ n := by
  have f : IsFirst (laidAll (Ws.take j) (ms.take j)) low 0 n := R.lp.2 j n hj
  refine R.ahead hk ⟨laidAll ((Ws.drop k).take (j - k)) ((ms.drop k).take (j - k)), ?_, fun L hL => ?_⟩ f
  · have := laid_more Ws ms k (j - k)
    rw [show k + (j - k) = j by omega] at this
    exact this
  · obtain ⟨W, hW, x, hx, rfl⟩ := laidAll_mem hL
    have := R.mb x (List.mem_of_mem_drop (List.mem_of_mem_take hx))
    exact good_laid (R.gw W (List.mem_of_mem_drop (List.mem_of_mem_take hW))) this.1 (by omega)
theorem Row74.upto {Ws : List Wi} {low last : Int} {ms : List Int} (R : Row74 Ws low ms last) {k : Nat} {m : Int} (hk : ms[k]? = some m) : m ≤ last :=
  R.ahead hk ⟨laidAll (Ws.drop k) (ms.drop k), laid_split Ws ms k, fun L hL => by
    obtain ⟨W, hW, x, hx, rfl⟩ := laidAll_mem hL
    have := R.mb x (List.mem_of_mem_drop hx)
    exact good_laid (R.gw W (List.mem_of_mem_drop hW)) this.1 (by omega)⟩ R.hf
theorem first_on {Ls : List Lw} {low b m : Int} (h : IsFirst Ls low 0 m) (h0 : 0 ≤ b) (h1 : b ≤ m) : IsFirst Ls low b m := ⟨h1, h.2.1, fun p p1 p2 => h.2.2 p (by omega) p2⟩
theorem Row74.on {Ws : List Wi} {low last b : Int} {ms : List Int} (R : Row74 Ws low ms last) {k : Nat} {m : Int} (hk : ms[k]? = some m) (h0 : 0 ≤ b) (h1 : b ≤ m) : LateP (laidAll (Ws.take k) (ms.take k)) (Ws.drop k) low b (ms.drop k) ∧ IsFirst (laidAll (Ws.take k) (ms.take k) ++ laidAll (Ws.drop k) (ms.drop k)) low b last := by
  refine ⟨⟨by rw [List.length_drop, List.length_drop, R.lp.1], fun i n hn => ?_⟩, ?_⟩
  · rw [List.getElem?_drop] at hn
    have f : IsFirst (laidAll (Ws.take (k + i)) (ms.take (k + i))) low 0 n := R.lp.2 (k + i) n hn
    rw [laid_more] at f
    exact first_on f h0 (Int.le_trans h1 (R.rise hk hn (by omega)))
  · rw [← laid_split]
    exact first_on R.hf h0 (Int.le_trans h1 (R.upto hk))
theorem Row74.laid {Ws : List Wi} {low last : Int} {ms : List Int} (R : Row74 Ws low ms last) (k : Nat) : ∀ L ∈ laidAll (Ws.take k) (ms.take k), ∃ W ∈ Ws, ∃ m ∈ ms, L = laidOf W m := fun L hL => by
  obtain ⟨W, hW, m, hm, rfl⟩ := laidAll_mem hL
  exact ⟨W, List.mem_of_mem_take hW, m, List.mem_of_mem_take hm, rfl⟩
theorem Row74.from {Ws : List Wi} {low last b : Int} {ms : List Int} (R : Row74 Ws low ms last) (k : Nat) {Ls : List Lw} (hb : 0 ≤ b) (hb2 : b ≤ 2 ^ 113) (hl : Ls.length ≤ min k Ws.length) (g : ∀ L ∈ Ls, GoodL L) (h : ∀ L ∈ Ls, lastOf L ≤ 2 ^ 115) : From Ls (Ws.drop k) low b :=
  ⟨by rw [List.length_drop]; have := R.few; omega, g, fun W hW => R.gw W (List.mem_of_mem_drop hW), R.l1, hb, by omega, h⟩
theorem Row74.last_le {Ws : List Wi} {low last : Int} {ms : List Int} (R : Row74 Ws low ms last) {W : Wi} {m : Int} (hW : W ∈ Ws) (hm : m ∈ ms) : m + longs W.2 ≤ 2 ^ 114 := by
  have h1 := R.small hm
  have h2 := (R.gw W hW).2.2.2
  omega
theorem above_thick {p q : Int} {Ls : List Lw} (g : ∀ L ∈ Ls, GoodL L) (hq : 0 ≤ q) : thickS (aboveOf p Ls) q = thickS Ls (q + p) := by
  have h := whole_thick p (q + p) Ls g
  rw [thickS_app, movS_thick, show q + p - p = q by omega] at h
  have h0 : thickS (belowOf p Ls) (q + p) = 0 := by
    have : ∀ L ∈ belowOf p Ls, thickL L (q + p) = 0 := fun L hL => by
      unfold belowOf at hL
      obtain ⟨M, _, rfl⟩ := List.mem_map.mp hL
      rw [letL_thick, if_pos (by omega)]
    generalize belowOf p Ls = Bs at this
    induction Bs with
    | nil => rfl
    | cons B r ih =>
      rw [thickS_cons, this B List.mem_cons_self, ih fun L hL => this L (List.mem_cons_of_mem _ hL)]
      rfl
  omega
theorem laid_mov (b : Int) : ∀ (Vs : List Wi) (ns : List Int), laidAll Vs (ns.map (· - b)) = (laidAll Vs ns).map fun L => movL L (-b)
  | [], _ => rfl
  | _ :: _, [] => rfl
  | V :: r, n :: s => by
    show laidOf V (n - b) :: laidAll r (s.map (· - b)) = movL (laidOf V n) (-b) :: (laidAll r s).map _
    rw [laid_mov b r s]
    rfl
theorem above_all {b q : Int} {Ls : List Lw} {Vs : List Wi} {ns : List Int} (g : ∀ L ∈ Ls, GoodL L) (hq : 0 ≤ q) : thickS (aboveOf b Ls ++ laidAll Vs (ns.map (· - b))) q = thickS (Ls ++ laidAll Vs ns) (q + b) := by
  rw [thickS_app, thickS_app, above_thick g hq, laid_mov, movS_thick, show q - -b = q + b by omega]
theorem first_back {Ls Fs : List Lw} {low b m : Int} (h : IsFirst Fs low b m) (e : ∀ q, 0 ≤ q → thickS Ls q = thickS Fs (q + b)) : IsFirst Ls low 0 (m - b) := by
  obtain ⟨h1, h2, h3⟩ := h
  refine ⟨by omega, ?_, fun p p1 p2 => ?_⟩
  · rw [e _ (by omega), show m - b + b = m by omega]
    exact h2
  · rw [e _ p1]
    exact h3 _ (by omega) (by omega)
theorem Row74.above {Ws : List Wi} {low last b : Int} {ms : List Int} (R : Row74 Ws low ms last) {k : Nat} {m : Int} (hk : ms[k]? = some m) (h0 : 0 ≤ b) (h1 : b ≤ m) : LateP (aboveOf b (laidAll (Ws.take k) (ms.take k))) (Ws.drop k) low 0 ((ms.drop k).map (· - b)) ∧ IsFirst (aboveOf b (laidAll (Ws.take k) (ms.take k)) ++ laidAll (Ws.drop k) ((ms.drop k).map (· - b))) low 0 (last - b) := by
  obtain ⟨o1, o2⟩ := R.on hk h0 h1
  have g : ∀ L ∈ laidAll (Ws.take k) (ms.take k), GoodL L := fun L hL => by
    refine R.good L ?_
    rw [laid_split Ws ms k]
    exact List.mem_append_left _ hL
  refine ⟨⟨by rw [List.length_map]; exact o1.1, fun i n hn => ?_⟩, first_back o2 fun q hq => above_all g hq⟩
  rw [List.getElem?_map] at hn
  cases e : (ms.drop k)[i]? with
  | none =>
    rw [e] at hn
    cases hn
  | some x =>
    rw [e] at hn
    have : x - b = n := Option.some.inj hn
    subst this
    refine first_back (o1.2 i x e) fun q hq => ?_
    rw [← List.map_take]
    exact above_all g hq
theorem Row74.fromA {Ws : List Wi} {low last b : Int} {ms : List Int} (R : Row74 Ws low ms last) (k : Nat) (h0 : 0 ≤ b) : From (aboveOf b (laidAll (Ws.take k) (ms.take k))) (Ws.drop k) low 0 := by
  have key : ∀ M ∈ aboveOf b (laidAll (Ws.take k) (ms.take k)), GoodL M ∧ lastOf M ≤ 2 ^ 115 := fun M hM => by
    unfold aboveOf at hM
    obtain ⟨L, hL, rfl⟩ := List.mem_map.mp hM
    obtain ⟨hL, hk⟩ := List.mem_filter.mp hL
    obtain ⟨W, hW, m, hm, rfl⟩ := R.laid k L hL
    have gW := R.gw W hW
    have sm := R.small hm
    have ll := R.last_le hW hm
    have gl : GoodL (laidOf W m) := good_laid gW sm.1 (by omega)
    have lg : ∀ x ∈ W.2, 1 ≤ x.2 := fun x hx => (gW.1.2.2 x hx).2.2.1
    unfold restL
    by_cases h : m < b
    · rw [if_pos (show (laidOf W m).pl < b from h)]
      have hr : 0 < thickL (laidOf W m) b := by
        unfold isKept at hk
        rw [decide_eq_false (show ¬ b ≤ (laidOf W m).pl by show ¬ b ≤ m; omega), Bool.false_or] at hk
        exact of_decide_eq_true hk
      have r1 := (thick_runs gl b).mp hr
      have r2 : b < m + longs W.2 := r1.2
      have tl := tail_longs W.2 (b - m) (by omega) (by omega) lg
      refine ⟨⟨tail_good gW.1 (show 0 ≤ b - m by omega) (show b - m < longs W.2 by omega), gW.2.1, gW.2.2.1, ?_, ?_, fun n hn => by cases hn⟩, ?_⟩
      · show 0 ≤ b + -b
        omega
      · show b + -b < 2 ^ 130
        omega
      · show b + -b + longs (tailOf W.2 (b - m)) ≤ 2 ^ 115
        omega
    · rw [if_neg (show ¬ (laidOf W m).pl < b from h)]
      refine ⟨⟨gW.1, gW.2.1, gW.2.2.1, ?_, ?_, fun n hn => by cases hn⟩, ?_⟩
      · show 0 ≤ m + -b
        omega
      · show m + -b < 2 ^ 130
        omega
      · show m + -b + longs W.2 ≤ 2 ^ 115
        omega
  refine R.from k (Int.le_refl _) (by decide) ?_ (fun M hM => (key M hM).1) fun M hM => (key M hM).2
  refine Nat.le_trans (above_len _ _) ?_
  rw [laidAll_len _ _ (by rw [List.length_take, List.length_take, R.lp.1]), List.length_take]
  have := R.few
  omega
theorem Row74.last_small {Ws : List Wi} {low last : Int} {ms : List Int} (R : Row74 Ws low ms last) : 0 ≤ last ∧ last ≤ 2 ^ 113 := by
  have h1 := R.by_last mul107_0 mul107_up R.far
  have h2 : (Ws.length : Int) * 2 ^ 107 ≤ 60 * 2 ^ 107 := Int.mul_le_mul_of_nonneg_right (by have := R.few; omega) (by decide)
  exact ⟨R.hf.1, by omega⟩
/-- all of the row is there: nothing is left to be drawn -/
theorem Row74.above_end {Ws : List Wi} {low last b : Int} {ms : List Int} (R : Row74 Ws low ms last) (h0 : 0 ≤ b) (h1 : b ≤ last) : LateP (aboveOf b (laidAll Ws ms)) [] low 0 [] ∧ IsFirst (aboveOf b (laidAll Ws ms)) low 0 (last - b) := by
  refine ⟨⟨rfl, fun i n hn => by simp at hn⟩, first_back (first_on R.hf h0 h1) fun q hq => above_thick R.good hq⟩
/-- the schedule shows it -/
theorem due_shown (low place : Int) : ∀ (Ws : List Wi) (ms : List Int) (Ls : List Lw) (l : Int), ms.length = Ws.length → (l :: ms).Pairwise (· ≤ ·) → (∀ m ∈ ms, m ≤ place) → (∀ (i : Nat) (m : Int), ms[i]? = some m → thickS (Ls ++ laidAll (Ws.take i) (ms.take i)) m < low) → thickS (Ls ++ laidAll Ws ms) place < low → dueGo low place Ls l Ws (ms.map Th.int) = true
  | [], [], Ls, l, _, _, _, _, h => by
    show decide (thickS Ls place < low) = true
    have h : thickS (Ls ++ []) place < low := h
    rw [List.append_nil] at h
    exact decide_eq_true h
  | [], _ :: _, _, _, h, _, _, _, _ => by cases h
  | _ :: _, [], _, _, h, _, _, _, _ => by cases h
  | W :: r, m :: s, Ls, l, hl, up, hp, hf, h => by
    show (decide (l ≤ m) && decide (m ≤ place) && decide (thickS Ls m < low) && dueGo low place (Ls ++ [laidOf W m]) m r (s.map Th.int)) = true
    have u := List.pairwise_cons.mp up
    have f0 : thickS (Ls ++ []) m < low := hf 0 m rfl
    rw [List.append_nil] at f0
    rw [decide_eq_true (u.1 m List.mem_cons_self), decide_eq_true (hp m List.mem_cons_self), decide_eq_true f0, due_shown low place r s (Ls ++ [laidOf W m]) m (Nat.succ.inj hl) u.2 (fun x hx => hp x (List.mem_cons_of_mem _ hx)) (fun i x hx => by
      have := hf (i + 1) x hx
      rw [List.append_assoc]
      exact this) (by rw [List.append_assoc]; exact h)]
    rfl
theorem Row74.pair {Ws : List Wi} {low last : Int} {ms : List Int} (R : Row74 Ws low ms last) : ms.Pairwise (· ≤ ·) := List.pairwise_iff_getElem.mpr fun i j hi hj hij => R.rise (List.getElem?_eq_getElem hi) (List.getElem?_eq_getElem hj) (Nat.le_of_lt hij)
theorem Row74.le_last {Ws : List Wi} {low last : Int} {ms : List Int} (R : Row74 Ws low ms last) : ∀ m ∈ ms, m ≤ last := fun m hm => by
  obtain ⟨i, hi, ei⟩ := List.getElem_of_mem hm
  exact R.upto (k := i) (by rw [← ei]; exact List.getElem?_eq_getElem hi)
theorem Row74.shows {Ws : List Wi} {low last : Int} {ms : List Int} (R : Row74 Ws low ms last) : dueT Ws low last (.tup (ms.map Th.int)) = true := by
  show (decide ((ms.map Th.int).length = Ws.length) && dueGo low last [] 0 Ws (ms.map Th.int)) = true
  rw [List.length_map, decide_eq_true R.lp.1, due_shown low last Ws ms [] 0 R.lp.1 (List.pairwise_cons.mpr ⟨fun m hm => (R.mb m hm).1, R.pair⟩) R.le_last (fun i m hm => (R.lp.2 i m hm).2.1) R.hf.2.1]
  rfl
/-- the weight up to where it is first thin -/
theorem weight_least {Ls : List Lw} (g : ∀ L ∈ Ls, GoodL L) {low last : Int} (hf : IsFirst Ls low 0 last) : low * last ≤ WL 0 last Ls := by
  have key : ∀ n : Nat, (n : Int) ≤ last → low * n ≤ WL 0 n Ls := by
    intro n
    induction n with
    | zero =>
      intro _
      show low * 0 ≤ WL 0 0 Ls
      rw [WL_same, Int.mul_zero]
      exact Int.le_refl _
    | succ n ih =>
      intro h
      have h1 := ih (by omega)
      have h2 := hf.2.2 n (by omega) (by omega)
      rw [← WL_one _ Ls g] at h2
      have h3 := WL_add (a := 0) (b := n) (c := n + 1) (by omega) (by omega) Ls
      show low * ((n : Int) + 1) ≤ WL 0 ((n : Int) + 1) Ls
      rw [Int.mul_add, Int.mul_one]
      omega
  have := key last.toNat (by have := hf.1; omega)
  rw [show ((last.toNat : Nat) : Int) = last by have := hf.1; omega] at this
  exact this
theorem longs_pos : ∀ {ps : List (Int × Int)}, (∀ x ∈ ps, 0 ≤ x.2) → 0 ≤ longs ps
  | [], _ => Int.le_refl _
  | x :: r, h => by
    have h1 := h x List.mem_cons_self
    have h2 := longs_pos fun y hy => h y (List.mem_cons_of_mem _ hy)
    show 0 ≤ ((x :: r).map (·.2)).sum
    have h2 : 0 ≤ (r.map (·.2)).sum := h2
    rw [List.map_cons, List.sum_cons]
    omega
/-- the end is no nearer -/
theorem end_least {Ls : List Lw} (g : ∀ L ∈ Ls, GoodL L) {low last m : Int} (l1 : 1 ≤ low) (hf : IsFirst Ls low 0 last) (he : IsEnd Ls m) : last ≤ m := by
  obtain ⟨h1, h2, h3⟩ := he
  have m0 : 0 ≤ m := by
    by_cases c : Ls = []
    · rw [h1 c]
      exact Int.le_refl _
    · obtain ⟨L, hL, rfl⟩ := h2 c
      have gL := g L hL
      have lg : 0 ≤ longs L.ps := longs_pos fun x hx => Int.le_trans (by decide) (gL.1.2.2 x hx).2.2.1
      show 0 ≤ clip L.le (L.pl + longs L.ps)
      rcases clip_is L.le (L.pl + longs L.ps) with e | e
      · rw [e]
        have := gL.2.2.2.1
        omega
      · have h5 := (gL.2.2.2.2.2 _ e).1
        have := gL.2.2.2.1
        omega
  exact first_le g hf l1 m0 h3
/-- the first place off is where it is first thin -/
theorem off_first {Ls : List Lw} {low high last : Int} {r : Option (Int × Str × Int)} (hf : IsFirst Ls low 0 last) (hh : ∀ q, thickS Ls q ≤ high) (h : OffIs Ls low high 0 (last + 1) r) : r = some (last, ("thin" : Str), thickS Ls last) := by
  refine off_one h (.some hf.1 (by omega) ?_ fun q q0 q1 => ?_)
  · unfold wordOf
    rw [if_pos hf.2.1]
  · have := hf.2.2 q q0 q1
    unfold wordOf
    rw [if_neg (by omega), if_neg (by have := hh q; omega)]
/-- rows whose wisps are not too thick together -/
structure Row60 (Ws : List Wi) : Prop where
  gt : ∀ W ∈ Ws, GoodT W ∧ longs W.2 ≤ 2 ^ 107
  few : Ws.length ≤ 60
  thin : ∃ B : Int, 0 < B ∧ (∀ W ∈ Ws, ∀ x ∈ W.2, x.1 < B) ∧ B * Ws.length < 10 ^ 40 - 1
theorem Row60.under {Ws : List Wi} {ms : List Int} (R : Row60 Ws) (hl : Ws.length = ms.length) (q : Int) : thickS (laidAll Ws ms) q ≤ 10 ^ 40 - 1 := by
  obtain ⟨B, B0, hB, hs⟩ := R.thin
  have := (thickS_bd B0 q (laidAll Ws ms) fun L hL p hp => by
    obtain ⟨W, hW, n, hn, rfl⟩ := laidAll_mem hL
    exact ⟨Int.le_trans (by decide) ((R.gt W hW).1.1.1.2.2 p hp).1, hB W hW p hp⟩).2
  rw [laidAll_len Ws ms hl] at this
  omega
/-! ### all schedules of a small row -/
def NsAt (H : Hp) (a : Addr) (ns : List Int) : Prop := H a = some (.tup (ns.map V.int))
theorem NsAt.mono {H H' : Hp} {a : Addr} {ns : List Int} (h : NsAt H a ns) (t : Tups H H') : NsAt H' a ns := t _ _ h
def SchedOk (n : Nat) (most : Int) (ns : List Int) : Prop := ns.length = n ∧ ns.Pairwise (· ≤ ·) ∧ ∀ x ∈ ns, 0 ≤ x ∧ x ≤ most
def spAllSched : Sp := fun vs H Q _ => ∃ (n : Nat) (most : Int), vs = [.int n, .int most] ∧ n ≤ 3 ∧ 0 ≤ most ∧ most ≤ 8 ∧ ∀ H' o as ss, Same H H' → H' o = some (.lst (as.map V.ref)) → Each (NsAt H') as ss → (∀ ns, ns ∈ ss ↔ SchedOk n most ns) → ss.length ≤ 729 → Q (.ref o) H'
/-- a small row -/
def SmallR (Ws : List Wi) : Prop := (∀ W ∈ Ws, GoodT W ∧ ∀ x ∈ W.2, x.1 ≤ 8) ∧ Ws.length ≤ 3 ∧ (Ws.map fun W => longs W.2).sum ≤ 8
def spSmallRow : Sp := fun vs H Q _ => ∃ (p : Addr) (T : Nat), vs = [.ref p] ∧ PotC H p T ∧ T < 2 ^ 37 ∧
  ∀ H' r as Ws, H' r = some (.tup (as.map V.ref)) → RowAt H' as Ws → SmallR Ws → PotC H' p (T + 30) → Keep p p H H' → Q (.ref r) H'
def spDWisp74 : Sp := fun vs H Q _ => ∃ (p : Addr) (T : Nat) (sty : Int), vs = [.ref p, .int sty] ∧ PotC H p T ∧ T < 2 ^ 37 ∧ 0 ≤ sty ∧ sty < 3 ∧
  ∀ H' a W, WispAt H' a W.1 W.2 → GoodT W → (∀ x ∈ W.2, x.1 ≤ 10 ^ 39 + 24) → longs W.2 ≤ 2 ^ 107 → H a = none → PotC H' p (T + 100) → Keep p p H H' → Q (.ref a) H'
def spGone74 : Sp := fun vs H Q _ => ∃ (r : Addr) (low : Int) (as : List Addr) (Ws : List Wi), vs = [.ref r, .int low] ∧ H r = some (.tup (as.map V.ref)) ∧ RowAt H as Ws ∧ SmallR Ws ∧ 1 ≤ low ∧ low < 2 ^ 140 ∧ ∀ H', Same H H' → Q (.bl true) H'
def spTold74 : Sp := fun vs H Q _ => ∃ (r : Addr) (low high : Int) (as : List Addr) (Ws : List Wi), vs = [.ref r, .int low, .int high] ∧ H r = some (.tup (as.map V.ref)) ∧ RowAt H as Ws ∧ Row60 Ws ∧ 1 ≤ low ∧ low < 2 ^ 140 ∧ 0 ≤ high ∧ ∀ H', Same H H' → Q (.bl true) H'
def spGoes74 : Sp := fun vs H Q _ => ∃ (p r : Addr) (T : Nat) (low : Int) (as : List Addr) (Ws : List Wi), vs = [.ref p, .ref r, .int low] ∧ PotC H p T ∧ T < 2 ^ 37 ∧ H r = some (.tup (as.map V.ref)) ∧ RowAt H as Ws ∧ Row60 Ws ∧ 1 ≤ low ∧ low < 2 ^ 140 ∧ ∀ H', PotC H' p (T + 2) → Keep p p H H' → Q (.bl true) H'
theorem Row60.from {Ws : List Wi} (R : Row60 Ws) {low : Int} (l1 : 1 ≤ low) : From [] Ws low 0 := ⟨by have := R.few; show 0 + Ws.length ≤ 60; omega, (fun L hL => by cases hL), fun W hW => (R.gt W hW).1.1, l1, Int.le_refl _, by decide, fun L hL => by cases hL⟩
theorem Row60.row {Ws : List Wi} (R : Row60 Ws) {low last : Int} {ms : List Int} (l1 : 1 ≤ low) (lp : LateP [] Ws low 0 ms) (mb : ∀ m ∈ ms, 0 ≤ m ∧ m < 2 ^ 125) (hf : IsFirst (laidAll Ws ms) low 0 last) : Row74 Ws low ms last := ⟨R.gt, R.few, l1, lp, mb, hf⟩
theorem sum_long {Ws : List Wi} (h : ∀ W ∈ Ws, 0 ≤ longs W.2) : ∀ (i : Nat) (W : Wi), Ws[i]? = some W → ((Ws.take i).map fun W => longs W.2).sum + longs W.2 ≤ ((Ws.take (i + 1)).map fun W => longs W.2).sum := fun i W e => by
  rw [List.take_add_one, e, List.map_append, List.sum_append]
  exact Int.le_of_eq (by show _ = _ + (longs W.2 + 0); omega)
theorem sum_pos_of {xs : List Int} (h : ∀ x ∈ xs, 0 ≤ x) : 0 ≤ xs.sum := by
  induction xs with
  | nil => exact Int.le_refl _
  | cons x r ih =>
    rw [List.sum_cons]
    have := h x List.mem_cons_self
    have := ih fun y hy => h y (List.mem_cons_of_mem _ hy)
    omega
theorem sum_up {Ws : List Wi} (h : ∀ W ∈ Ws, 0 ≤ longs W.2) (i j : Nat) (hij : i ≤ j) : ((Ws.take i).map fun W => longs W.2).sum ≤ ((Ws.take j).map fun W => longs W.2).sum := by
  obtain ⟨d, rfl⟩ := Nat.le.dest hij
  rw [List.take_add, List.map_append, List.sum_append]
  have := sum_pos_of (xs := ((Ws.drop i).take d).map fun W => longs W.2) fun x hx => by
    obtain ⟨W, hW, rfl⟩ := List.mem_map.mp hx
    exact h W (List.mem_of_mem_drop (List.mem_of_mem_take hW))
  omega
theorem SmallR.pos {Ws : List Wi} (S : SmallR Ws) : ∀ W ∈ Ws, 0 ≤ longs W.2 := fun W hW => longs_pos fun x hx => Int.le_trans (by decide) ((S.1 W hW).1.1.1.2.2 x hx).2.2.1
theorem SmallR.each {Ws : List Wi} (S : SmallR Ws) : ∀ W ∈ Ws, longs W.2 ≤ 8 := fun W hW => by
  obtain ⟨i, hi, rfl⟩ := List.getElem_of_mem hW
  have h1 := sum_long S.pos i Ws[i] (List.getElem?_eq_getElem hi)
  have h2 := sum_up S.pos (i + 1) Ws.length (by omega)
  rw [List.take_length] at h2
  have h3 := sum_pos_of (xs := (Ws.take i).map fun W => longs W.2) fun x hx => by
    obtain ⟨W, hW, rfl⟩ := List.mem_map.mp hx
    exact S.pos W (List.mem_of_mem_take hW)
  have := S.2.2
  omega
theorem SmallR.row {Ws : List Wi} (S : SmallR Ws) : Row60 Ws := ⟨fun W hW => ⟨(S.1 W hW).1, by have := S.each W hW; omega⟩, by have := S.2.1; omega, 9, by decide, fun W hW x hx => by have := (S.1 W hW).2 x hx; omega, by have := S.2.1; omega⟩
theorem SmallR.last {Ws : List Wi} (S : SmallR Ws) {low last : Int} {ms : List Int} (R : Row74 Ws low ms last) : last ≤ 8 := by
  have h := R.by_last (B := fun i => ((Ws.take i).map fun W => longs W.2).sum) (fun i => sum_pos_of fun x hx => by
    obtain ⟨W, hW, rfl⟩ := List.mem_map.mp hx
    exact S.pos W (List.mem_of_mem_take hW)) (sum_up S.pos) (sum_long S.pos)
  have h : last ≤ ((Ws.take Ws.length).map fun W => longs W.2).sum := h
  rw [List.take_length] at h
  have := S.2.2
  omega
/-- another schedule lasts no longer, and where it lasts to a length it lays no fewer ahead of it -/
theorem Row74.other {Ws : List Wi} {low last thin : Int} {ms ns : List Int} (R : Row74 Ws low ms last) (hn : ns.length = Ws.length) (rise : ns.Pairwise (· ≤ ·)) (hthin : IsFirst (laidAll Ws ns) low 0 thin) : thin ≤ last ∧ ∀ t, t ≤ thin → (ms.filter fun m => decide (m < t)).length ≤ (ns.filter fun m => decide (m < t)).length := by
  have oth : OtherOk [] Ws ns (laidAll Ws ns) := ⟨laidAll_len Ws ns hn.symm, hn, fun i W n hW hn => ⟨none, laidAll_get hW hn, fun x hx => by cases hx⟩⟩
  have h := no_longer (Ls := []) (bs := []) (Ws := Ws) (low := low) (now := 0) (last := last) (thin := thin) (ms := ms) (ns := ns) (Os := laidAll Ws ns) List.Pairwise.nil (fun W hW => ⟨R.gw W hW, falls_fal (R.gt W hW).1.2.1⟩) (by rw [laysB_none]; exact R.good) R.lp.1 (fun i m hm => by rw [laysB_none]; exact R.lp.2 i m hm) oth rise (by rw [laysB_none]; exact R.hf) hthin
  refine ⟨h.1, fun t ht => count_le ms ns (by rw [hn, R.lp.1]) fun j m n hm hn hmt => ?_⟩
  have := h.2 j m n hm hn (by omega)
  omega
section
variable {P : Program} {w : World} {K : PySem.W.Frag} {mg : Str → Option Value} {base : Heap}
theorem ok_is_whole {f : Addr} {fd : FuncData} {k : Nat} (F : Fun K "is_whole" "is_whole" s_is_whole f fd) (bi : Bi mg) : FnOk P w K mg base CX0 (k + 1) f fd P_is_whole spWholeT := by
  refine F.ok sc_is_whole (fun vs H Q E h => ?_) (fun cdv A outer s H vs Q E hr h => ?_)
  · obtain ⟨v, t, n, rfl, _⟩ := h
    rfl
  · obtain ⟨v, t, n, rfl, hv, q⟩ := h
    refine ⟨_, (pss_one (ps_ret (pe_and (pe_callB call_isi (by rfl) bi.m_isinstance (by decide +kernel) (pa_cons (pv 0) (pa_cons (pe_bltn (v := .ty "int") (by rfl) bi.m_int (by decide +kernel) rfl) pa_nil))) (pe_and (pe_not (pe_callB call_isi (by rfl) bi.m_isinstance (by decide +kernel) (pa_cons (pv 0) (pa_cons (pe_bltn (v := .ty "bool") (by rfl) bi.m_bool (by decide +kernel) rfl) pa_nil)))) (pe_one (pe_cmpR op_ge (pv 0) (pv 1) (nomark _))))))), ?_⟩
    obtain ⟨Tint, hint, kint⟩ := isi_int (K := K) hv
    refine ⟨_, rfl, _, _, _, _, _, rfl, ClsV.ty "int", hint, kint, _, rfl, ?_⟩
    cases t with
    | int m =>
      refine iteT ?_
      obtain ⟨Tbl, hbl, kbl⟩ := isi_bl (K := K) hv
      refine ⟨_, rfl, _, _, _, _, _, rfl, ClsV.ty "bool", hbl, kbl, _, rfl, _, rfl, ?_⟩
      refine iteT ?_
      cases hv
      exact ⟨_, rfl, _, rfl, _, _, rfl, rfl, q⟩
    | bl b =>
      refine iteT ?_
      obtain ⟨Tbl, hbl, kbl⟩ := isi_bl (K := K) hv
      refine ⟨_, rfl, _, _, _, _, _, rfl, ClsV.ty "bool", hbl, kbl, _, rfl, _, rfl, ?_⟩
      exact iteF q
    | oth => exact iteF q
    | tup ts => exact iteF q
theorem ok_is_tuple {f : Addr} {fd : FuncData} {k : Nat} (F : Fun K "is_tuple" "is_tuple" s_is_tuple f fd) (bi : Bi mg) : FnOk P w K mg base CX0 (k + 1) f fd P_is_tuple spTupleT := by
  refine F.ok sc_is_tuple (fun vs H Q E h => ?_) (fun cdv A outer s H vs Q E hr h => ?_)
  · obtain ⟨v, t, m, n, rfl, _⟩ := h
    rfl
  · obtain ⟨v, t, m, n, rfl, hv, q⟩ := h
    refine ⟨_, (pss_one (ps_ret (pe_and (pe_callB call_isi (by rfl) bi.m_isinstance (by decide +kernel) (pa_cons (pv 0) (pa_cons (pe_bltn (v := .ty "tuple") (by rfl) bi.m_tuple (by decide +kernel) rfl) pa_nil))) (pe_one (pe_chain op_le op_le (pv 1) (pe_callB call_len_seq (by rfl) bi.m_len (by decide +kernel) (pa_cons (pv 0) pa_nil)) (pv 2)))))), ?_⟩
    obtain ⟨Ttup, htup, ktup⟩ := isi_tup (K := K) hv
    refine ⟨_, rfl, _, _, _, _, _, rfl, ClsV.ty "tuple", htup, ktup, _, rfl, ?_⟩
    cases t with
    | int m => exact iteF q
    | bl b => exact iteF q
    | oth => exact iteF q
    | tup ts =>
      refine iteT ?_
      obtain ⟨a, vs, rfl, ea, hl, hh⟩ := hv.tupE
      have q : Q (.bl (decide (m ≤ (ts.length : Int)) && decide ((ts.length : Int) ≤ n))) H := q
      rw [← hl] at q
      refine ⟨_, rfl, _, rfl, a, vs, rfl, .inr (SqT.of ea), _, _, rfl, rfl, _, rfl, ite2 (fun e => ?_) (fun e => ?_)⟩
      · rw [e, Bool.true_and] at q
        exact ⟨_, rfl, _, _, rfl, rfl, q⟩
      · rw [Bool.eq_false_iff.mpr e, Bool.false_and] at q
        exact q
theorem ok_is_step {fT fW f : Addr} {fdT fdW fd : FuncData} (F : Fun K "is_step" "is_step" s_is_step f fd) (bi : Bi mg) (C_is_tuple : Cal P w K mg base "is_tuple" P_is_tuple 1 spTupleT fT fdT) (C_is_whole : Cal P w K mg base "is_whole" P_is_whole 1 spWholeT fW fdW) : FnOk P w K mg base CX0 2 f fd P_is_step spStepT := by
  refine F.ok sc_is_step (fun vs H Q E h => ?_) (fun cdv A outer s H vs Q E hr h => ?_)
  · obtain ⟨v, t, rfl, _⟩ := h
    rfl
  · obtain ⟨v, t, rfl, hv, q⟩ := h
    refine ⟨_, (pss_one (ps_ret (pe_and (pe_call (C_is_tuple.G.mono (by decide)) hr (by rfl) C_is_tuple.g C_is_tuple.kp C_is_tuple.b .nil pass0 (pa_cons (pv 0) (pa_cons pe_int (pa_cons pe_int pa_nil)))) (pe_and (pe_call (C_is_whole.G.mono (by decide)) hr (by rfl) C_is_whole.g C_is_whole.kp C_is_whole.b .nil pass0 (pa_cons (pe_ix ix_tup (pv 0) pe_int (fun _ _ => rfl)) (pa_cons pe_int pa_nil))) (pe_one (pe_call (C_is_whole.G.mono (by decide)) hr (by rfl) C_is_whole.g C_is_whole.kp C_is_whole.b .nil pass0 (pa_cons (pe_ix ix_tup (pv 0) pe_int (fun _ _ => rfl)) (pa_cons pe_int pa_nil)))))))), ?_⟩
    refine ⟨_, rfl, v, t, 2, 2, rfl, hv, _, rfl, ?_⟩
    cases t with
    | int m => exact iteF q
    | bl b => exact iteF q
    | oth => exact iteF q
    | tup ts =>
      match ts, hv, q with
      | [], hv, q => exact iteF q
      | [_], hv, q => exact iteF q
      | [x, y], hv, q =>
        refine iteT ?_
        obtain ⟨a, vs, rfl, ea, hl, hh⟩ := hv.tupE
        match vs, ea, hl, hh with
        | [u, v], ea, _, hh =>
          have q : Q (.bl (whT x 1 && whT y 1)) H := q
          refine ⟨_, rfl, a, _, 0, _, rfl, rfl, SqT.of ea, atI_nat (j := 0) rfl, u, x, 1, rfl, hh 0 u x rfl rfl, _, rfl, ite2 (fun e => ?_) (fun e => ?_)⟩
          · rw [e, Bool.true_and] at q
            exact ⟨_, rfl, a, _, 1, _, rfl, rfl, SqT.of ea, atI_nat (j := 1) rfl, v, y, 1, rfl, hh 1 v y rfl rfl, q⟩
          · rw [Bool.eq_false_iff.mpr e, Bool.false_and] at q
            exact q
      | x :: y :: z :: r, hv, q =>
        have hln : lenIn (.tup (x :: y :: z :: r)) 2 2 = false := by
          show (decide ((2 : Int) ≤ ((r.length + 1 + 1 + 1 : Nat) : Int)) && decide (((r.length + 1 + 1 + 1 : Nat) : Int) ≤ 2)) = false
          rw [decide_eq_false (show ¬ ((r.length + 1 + 1 + 1 : Nat) : Int) ≤ 2 by omega), Bool.and_false]
        rw [hln]
        exact iteF q
theorem ok_are_steps {fT fS f : Addr} {fdT fdS fd : FuncData} {tk_MOST_STEPS : Tok} (F : Fun K "are_steps" "are_steps" s_are_steps f fd) (bi : Bi mg) (g_MOST_STEPS : mg "MOST_STEPS" = some (.int 8 tk_MOST_STEPS)) (C_is_tuple : Cal P w K mg base "is_tuple" P_is_tuple 1 spTupleT fT fdT) (C_is_step : Cal P w K mg base "is_step" P_is_step 2 spStepT fS fdS) : FnOk P w K mg base CX0 3 f fd P_are_steps spStepsT := by
  refine F.ok sc_are_steps (fun vs H Q E h => ?_) (fun cdv A outer s H vs Q E hr h => ?_)
  · obtain ⟨v, t, rfl, _⟩ := h
    rfl
  · obtain ⟨v, t, rfl, hv, q⟩ := h
    refine ⟨_, (pss_cons (ps_if (pw_or (pt_not (pt_val (pe_call (C_is_tuple.G.mono (by decide)) hr (by rfl) C_is_tuple.g C_is_tuple.kp C_is_tuple.b .nil pass0 (pa_cons (pv 0) (pa_cons pe_int (pa_cons (pe_glob (v := .int 8) (by rfl) g_MOST_STEPS ⟨_, rfl⟩) pa_nil)))))) (pw_or1 (pt_not (pt_val (pe_callB (cr_all rfl) (by rfl) bi.m_all (by decide +kernel) (pa_cons (pe_lc (own := [("step", 2)]) (g := (gName 2)) (tt := tYes) rfl sc_are_steps.nd (pi_tup (pv 0)) (blkOk_by (N := N_are_steps) (sc := defScope s_are_steps) (by decide +kernel)) (fun _ _ _ _ _ => (pg_name (i := 2) sc_are_steps.nd rfl (.inl rfl) (.inr rfl))) (fun _ _ _ _ _ => pts_nil) (fun _ _ _ _ _ => (pe_call (C_is_step.G.mono (by decide)) hr (by rfl) C_is_step.g C_is_step.kp C_is_step.b .nil pass0 (pa_cons (pv 2) pa_nil)))) pa_nil)))))).pt
      (pss_one (ps_ret pe_bl))
      pss_nil)
    (pss_one (ps_ret (pe_callB (cr_all rfl) (by rfl) bi.m_all (by decide +kernel) (pa_cons (pe_lc (own := [("ahead", 1), ("step", 2)]) (g := (gTup K 2 (gCons (gName 1) (gCons (gName 2) gNil)))) (tt := tYes) (te := (tOp (rI0 fun i j => V.bl (decide (j < i))) (tOp (rIxT K) (tVar 1) (tC (.int 0))) (tOp (rIxT K) (tVar 2) (tC (.int 0))))) rfl sc_are_steps.nd (RZ.pi_zipA (by rfl) bi.m_zip (pa_cons (pv 0) (pa_cons (pe_slice sl_tupA (pv 0) (po_some pe_int) po_none) pa_nil))) (blkOk_by (N := N_are_steps) (sc := defScope s_are_steps) (by decide +kernel)) (fun _ _ _ _ _ => (pg_tup rfl (pgs_cons (pg_name (i := 1) sc_are_steps.nd rfl (.inl rfl) (.inr rfl)) (pgs_cons (pg_name (i := 2) sc_are_steps.nd rfl (.inl rfl) (.inr rfl)) pgs_nil)))) (fun _ _ _ _ _ => pts_nil) (fun _ _ _ _ _ => (pe_cmpR op_gt (pe_ix ix_tup (pv 1) pe_int (fun _ _ => rfl)) (pe_ix ix_tup (pv 2) pe_int (fun _ _ => rfl)) (nomark _)))) pa_nil))))), ?_⟩
    refine ⟨_, rfl, v, t, 1, 8, rfl, hv, _, rfl, ?_⟩
    cases t with
    | int m => exact iteNF (q _ (Same.refl _))
    | bl b => exact iteNF (q _ (Same.refl _))
    | oth => exact iteNF (q _ (Same.refl _))
    | tup ts =>
      have hq : lenIn (.tup ts) 1 8 = (decide (1 ≤ ts.length) && decide (ts.length ≤ 8)) := by
        show (decide ((1 : Int) ≤ (ts.length : Int)) && decide ((ts.length : Int) ≤ 8)) = (decide (1 ≤ ts.length) && decide (ts.length ≤ 8))
        rw [decide_eq_decide.mpr (show (1 : Int) ≤ (ts.length : Int) ↔ 1 ≤ ts.length by omega), decide_eq_decide.mpr (show (ts.length : Int) ≤ 8 ↔ ts.length ≤ 8 by omega)]
      rw [hq]
      have q : ∀ H', Same H H' → Q (.bl (decide (1 ≤ ts.length) && decide (ts.length ≤ 8) && ts.all isStep && fallsT (ts.map firstT))) H' := q
      cases hc : (decide (1 ≤ ts.length) && decide (ts.length ≤ 8)) with
      | false =>
        rw [hc] at q
        exact iteNF (q _ (Same.refl _))
      | true =>
        rw [hc, Bool.true_and] at q
        refine iteNT ?_
        obtain ⟨c1, c8⟩ := Bool.and_eq_true_iff.mp hc
        have c1 := of_decide_eq_true c1
        have c8 := of_decide_eq_true c8
        obtain ⟨a, vs, rfl, ea, hl, hh⟩ := hv.tupE
        refine ⟨_, rfl, a, rfl, ⟨_, SqT.of ea⟩, fun D nD => ?_⟩
        refine lc_tup (xs := vs) (fun i H' => Same H H' ∧ H' D = some (.lst (((ts.take i).map isStep).map V.bl))) ⟨same_new (Same.refl _) nD, upd_same⟩ (fun i H' hi hm => SqT.of (hm.1 _ _ ea)) (fun i x H' hx hm => ?_) (fun H' hm => ?_)
        · obtain ⟨sm, eD⟩ := hm
          have hi : i < vs.length := (List.getElem?_eq_some_iff.mp hx).1
          have et : ts[i]? = some (ts[i]'(by omega)) := List.getElem?_eq_getElem (by omega)
          generalize ts[i]'(by omega) = t at et
          refine ⟨rfl, yesIte ?_⟩
          refine ⟨_, rfl, x, t, rfl, (hh i x t hx et).mono (Kinds.same sm), _, eD, ?_, same_mine sm nD, ?_⟩
          · rw [List.length_map, List.length_map, List.length_take]
            exact small1000 (by omega)
          · rw [upd_same, List.take_add_one, et]
            show _ = some (HO.lst (((ts.take i ++ [t]).map isStep).map V.bl))
            rw [List.map_append, List.map_append]
            rfl
        obtain ⟨s1, eD⟩ := hm
        rw [hl, List.take_length] at eD
        refine ⟨D, _, rfl, SqL.of eD, _, rfl, ?_⟩
        have ea1 := s1 _ _ ea
        have eall : (ts.map isStep).all id = ts.all isStep := by
          rw [List.all_map]
          rfl
        rw [eall]
        cases hb : ts.all isStep with
        | false =>
          rw [hb] at q
          exact iteNF (q _ s1)
        | true =>
          rw [hb, Bool.true_and] at q
          refine iteNT ?_
          have ab := List.all_eq_true.mp hb
          have get : ∀ (i : Nat) (x : V), vs[i]? = some x → ∃ (b : Addr) (m l : Int), x = .ref b ∧ H b = some (.tup [.int m, .int l]) ∧ (ts.map firstT)[i]? = some m := fun i x hx => by
            have hi : i < vs.length := (List.getElem?_eq_some_iff.mp hx).1
            have et : ts[i]? = some (ts[i]'(by omega)) := List.getElem?_eq_getElem (by omega)
            generalize ts[i]'(by omega) = t at et
            obtain ⟨m, l, rfl, _⟩ := isStep_of (ab _ (List.mem_of_getElem? et))
            obtain ⟨b, ws, rfl, eb, hwl, hw⟩ := (hh i x _ hx et).tupE
            match ws, eb, hwl, hw with
            | [u, v], eb, _, hw =>
              have e1 := (hw 0 u _ rfl rfl).intE
              have e2 := (hw 1 v _ rfl rfl).intE
              subst e1
              subst e2
              exact ⟨b, m, l, rfl, eb, by rw [List.getElem?_map, et]; rfl⟩
          refine ⟨_, rfl, _, rfl, _, rfl, a, _, rfl, SqT.of ea1, ?_, ?_⟩
          · intro hz
            exfalso
            have := hz.1
            have h1 : HT.sIx vs.length 0 (some 1) = min 1 vs.length := HT.sIx_nat _ _ 1
            rw [h1] at this
            omega
          · intro _ Z nZ
            rw [cut_tail]
            have sZ : Same H' (upd H' Z (.tup (vs.drop 1))) := same_new (Same.refl _) nZ
            have eZ : upd H' Z (.tup (vs.drop 1)) Z = some (.tup (vs.drop 1)) := upd_same
            generalize upd H' Z (.tup (vs.drop 1)) = H2 at sZ eZ
            refine ⟨a, Z, _, _, rfl, .inr ⟨SqT.of (sZ _ _ ea1), SqT.of eZ, fun D2 nD2 => ?_⟩⟩
            rw [falls_pairs] at q
            have hzl : (List.zip (ts.map firstT) ((ts.map firstT).drop 1)).length = (vs.drop 1).length := by
              rw [List.length_zip, List.length_drop, List.length_drop, List.length_map]
              omega
            refine lcZipS (xs := vs) (ys := vs.drop 1) (by rw [List.length_drop]; omega) (fun i H3 => Same H2 H3 ∧ H3 D2 = some (.lst ((((List.zip (ts.map firstT) ((ts.map firstT).drop 1)).take i).map fallB).map V.bl))) ⟨same_new (Same.refl _) nD2, upd_same⟩ (fun i H3 hm => ⟨SqT.of (hm.1 _ _ (sZ _ _ ea1)), SqT.of (hm.1 _ _ eZ)⟩) (fun i x y T H3 hx hy nT hm => ?_) (fun H3 hm => ?_)
            · obtain ⟨sm2, eD2⟩ := hm
              rw [List.getElem?_drop] at hy
              obtain ⟨b1, m1, l1, rfl, eb1, em1⟩ := get i x hx
              obtain ⟨b2, m2, l2, rfl, eb2, em2⟩ := get (1 + i) y hy
              have sT : Same H2 (upd H3 T (.tup [.ref b1, .ref b2])) := same_new sm2 nT
              have eDT := (upd_ne (o := .tup [.ref b1, .ref b2]) (ne_of_none eD2 nT)).trans eD2
              refine ⟨T, _, rfl, SqT.of upd_same, rfl, _, _, rfl, _, _, rfl, rfl, rfl, yesIte ?_⟩
              generalize upd H3 T (.tup [.ref b1, .ref b2]) = H4 at sT eDT
              have s3 := (s1.trans sZ).trans sT
              have ez : (List.zip (ts.map firstT) ((ts.map firstT).drop 1))[i]? = some (m1, m2) := by
                rw [List.getElem?_zip_eq_some]
                exact ⟨em1, by rw [List.getElem?_drop]; exact em2⟩
              have hi : i < vs.length := (List.getElem?_eq_some_iff.mp hx).1
              refine ⟨_, rfl, b1, _, 0, _, rfl, rfl, SqT.of (s3 _ _ eb1), atI_nat (j := 0) rfl, _, rfl, b2, _, 0, _, rfl, rfl, SqT.of (s3 _ _ eb2), atI_nat (j := 0) rfl, _, _, rfl, rfl, ?_⟩
              refine ⟨_, eDT, ?_, same_mine sT nD2, ?_⟩
              · rw [List.length_map, List.length_map, List.length_take]
                exact small1000 (by omega)
              · rw [upd_same, List.take_add_one, ez]
                show _ = some (HO.lst ((((List.zip (ts.map firstT) ((ts.map firstT).drop 1)).take i ++ [(m1, m2)]).map fallB).map V.bl))
                rw [List.map_append, List.map_append]
                rfl
            · obtain ⟨sm2, eD2⟩ := hm
              rw [← hzl, List.take_length] at eD2
              refine ⟨D2, _, rfl, SqL.of eD2, ?_⟩
              exact q _ ((s1.trans sZ).trans sm2)
theorem ok_is_wisp {fT fW fS f : Addr} {fdT fdW fdS fd : FuncData} (F : Fun K "is_wisp" "is_wisp" s_is_wisp f fd) (bi : Bi mg) (C_is_tuple : Cal P w K mg base "is_tuple" P_is_tuple 1 spTupleT fT fdT) (C_is_whole : Cal P w K mg base "is_whole" P_is_whole 1 spWholeT fW fdW) (C_are_steps : Cal P w K mg base "are_steps" P_are_steps 3 spStepsT fS fdS) : FnOk P w K mg base CX0 4 f fd P_is_wisp spWispT := by
  refine F.ok sc_is_wisp (fun vs H Q E h => ?_) (fun cdv A outer s H vs Q E hr h => ?_)
  · obtain ⟨v, t, rfl, _⟩ := h
    rfl
  · obtain ⟨v, t, rfl, hv, q⟩ := h
    refine ⟨_, (pss_cons (ps_if (pt_not (pt_val (pe_call (C_is_tuple.G.mono (by decide)) hr (by rfl) C_is_tuple.g C_is_tuple.kp C_is_tuple.b .nil pass0 (pa_cons (pv 0) (pa_cons pe_int (pa_cons pe_int pa_nil))))))
      (pss_one (ps_ret pe_bl))
      pss_nil)
    (pss_cons (ps_asg (pv 0) (pg_tup rfl (pgs_cons (pg_name (i := 1) sc_is_wisp.nd rfl (.inl rfl)) (pgs_cons (pg_name (i := 2) sc_is_wisp.nd rfl (.inl rfl)) pgs_nil))))
    (pss_one (ps_ret (pe_and (pe_call (C_is_whole.G.mono (by decide)) hr (by rfl) C_is_whole.g C_is_whole.kp C_is_whole.b .nil pass0 (pa_cons (pv 1) (pa_cons pe_int pa_nil))) (pe_and (pe_cmpR op_le (pv 1) pe_int (nomark _)) (pe_one (pe_call (C_are_steps.G.mono (by decide)) hr (by rfl) C_are_steps.g C_are_steps.kp C_are_steps.b .nil pass0 (pa_cons (pv 2) pa_nil))))))))), ?_⟩
    refine ⟨_, rfl, v, t, 2, 2, rfl, hv, _, rfl, ?_⟩
    cases t with
    | int m => exact iteNF (q _ (Same.refl _))
    | bl b => exact iteNF (q _ (Same.refl _))
    | oth => exact iteNF (q _ (Same.refl _))
    | tup ts =>
      match ts, hv, q with
      | [], hv, q => exact iteNF (q _ (Same.refl _))
      | [_], hv, q => exact iteNF (q _ (Same.refl _))
      | [x, y], hv, q =>
        refine iteNT ?_
        obtain ⟨a, vs, rfl, ea, hl, hh⟩ := hv.tupE
        match vs, ea, hl, hh with
        | [u, v], ea, _, hh =>
          have q : ∀ H', Same H H' → Q (.bl (whT x 0 && decide (numT x ≤ 1) && areSteps y)) H' := q
          refine ⟨_, rfl, a, _, rfl, SqT.of ea, rfl, _, _, rfl, _, _, rfl, rfl, ?_⟩
          refine ⟨_, rfl, u, x, 0, rfl, hh 0 u x rfl rfl, _, rfl, ite2 (fun e => ?_) (fun e => ?_)⟩
          · rw [e, Bool.true_and] at q
            obtain ⟨m, rfl, m0⟩ := wh_of e
            have e1 := (hh 0 u _ rfl rfl).intE
            subst e1
            have q : ∀ H', Same H H' → Q (.bl (decide (m ≤ 1) && areSteps y)) H' := q
            refine ⟨_, rfl, _, _, rfl, rfl, _, rfl, ite2 (fun e => ?_) (fun e => ?_)⟩
            · rw [e, Bool.true_and] at q
              exact ⟨_, rfl, v, y, rfl, hh 1 v y rfl rfl, q⟩
            · rw [Bool.eq_false_iff.mpr e, Bool.false_and] at q
              exact q _ (Same.refl _)
          · rw [Bool.eq_false_iff.mpr e, Bool.false_and] at q
            exact q _ (Same.refl _)
      | x :: y :: z :: r, hv, q =>
        have hln : lenIn (.tup (x :: y :: z :: r)) 2 2 = false := by
          show (decide ((2 : Int) ≤ ((r.length + 1 + 1 + 1 : Nat) : Int)) && decide (((r.length + 1 + 1 + 1 : Nat) : Int) ≤ 2)) = false
          rw [decide_eq_false (show ¬ ((r.length + 1 + 1 + 1 : Nat) : Int) ≤ 2 by omega), Bool.and_false]
        rw [hln]
        exact iteNF (q _ (Same.refl _))
theorem ok_is_row {fT fS f : Addr} {fdT fdS fd : FuncData} {tk_MOST_WISPS : Tok} (F : Fun K "is_row" "is_row" s_is_row f fd) (bi : Bi mg) (g_MOST_WISPS : mg "MOST_WISPS" = some (.int 60 tk_MOST_WISPS)) (C_is_tuple : Cal P w K mg base "is_tuple" P_is_tuple 1 spTupleT fT fdT) (C_is_wisp : Cal P w K mg base "is_wisp" P_is_wisp 4 spWispT fS fdS) : FnOk P w K mg base CX0 5 f fd P_is_row spRowT := by
  refine F.ok sc_is_row (fun vs H Q E h => ?_) (fun cdv A outer s H vs Q E hr h => ?_)
  · obtain ⟨v, t, rfl, _⟩ := h
    rfl
  · obtain ⟨v, t, rfl, hv, q⟩ := h
    refine ⟨_, (pss_one (ps_ret (pe_and (pe_call (C_is_tuple.G.mono (by decide)) hr (by rfl) C_is_tuple.g C_is_tuple.kp C_is_tuple.b .nil pass0 (pa_cons (pv 0) (pa_cons pe_int (pa_cons (pe_glob (v := .int 60) (by rfl) g_MOST_WISPS ⟨_, rfl⟩) pa_nil)))) (pe_one (pe_callB (cr_all rfl) (by rfl) bi.m_all (by decide +kernel) (pa_cons (pe_lc (own := [("wisp", 1)]) (g := (gName 1)) (tt := tYes) rfl sc_is_row.nd (pi_tup (pv 0)) (blkOk_by (N := N_is_row) (sc := defScope s_is_row) (by decide +kernel)) (fun _ _ _ _ _ => (pg_name (i := 1) sc_is_row.nd rfl (.inl rfl) (.inr rfl))) (fun _ _ _ _ _ => pts_nil) (fun _ _ _ _ _ => (pe_call (C_is_wisp.G.mono (by decide)) hr (by rfl) C_is_wisp.g C_is_wisp.kp C_is_wisp.b .nil pass0 (pa_cons (pv 1) pa_nil)))) pa_nil)))))), ?_⟩
    refine ⟨_, rfl, v, t, 0, 60, rfl, hv, _, rfl, ?_⟩
    cases t with
    | int m => exact iteF (q _ (Same.refl _))
    | bl b => exact iteF (q _ (Same.refl _))
    | oth => exact iteF (q _ (Same.refl _))
    | tup ts =>
      have hq : lenIn (.tup ts) 0 60 = decide (ts.length ≤ 60) := by
        show (decide ((0 : Int) ≤ (ts.length : Int)) && decide ((ts.length : Int) ≤ 60)) = decide (ts.length ≤ 60)
        rw [decide_eq_true (show (0 : Int) ≤ (ts.length : Int) by omega), Bool.true_and, decide_eq_decide.mpr (show (ts.length : Int) ≤ 60 ↔ ts.length ≤ 60 by omega)]
      rw [hq]
      have q : ∀ H', Same H H' → Q (.bl (decide (ts.length ≤ 60) && ts.all isWispT)) H' := q
      by_cases c : ts.length ≤ 60
      · rw [decide_eq_true c] at q ⊢
        rw [Bool.true_and] at q
        refine iteT ?_
        obtain ⟨a, vs, rfl, ea, hl, hh⟩ := hv.tupE
        refine ⟨_, rfl, a, rfl, ⟨_, SqT.of ea⟩, fun D nD => ?_⟩
        refine lc_tup (xs := vs) (fun i H' => Same H H' ∧ H' D = some (.lst (((ts.take i).map isWispT).map V.bl))) ⟨same_new (Same.refl _) nD, upd_same⟩ (fun i H' hi hm => SqT.of (hm.1 _ _ ea)) (fun i x H' hx hm => ?_) (fun H' hm => ?_)
        · obtain ⟨sm, eD⟩ := hm
          have hi : i < vs.length := (List.getElem?_eq_some_iff.mp hx).1
          have et : ts[i]? = some (ts[i]'(by omega)) := List.getElem?_eq_getElem (by omega)
          generalize ts[i]'(by omega) = t at et
          refine ⟨rfl, yesIte ?_⟩
          refine ⟨_, rfl, x, t, rfl, (hh i x t hx et).mono (Kinds.same sm), fun H2 s2 => ⟨_, s2 _ _ eD, ?_, same_mine (sm.trans s2) nD, ?_⟩⟩
          · rw [List.length_map, List.length_map, List.length_take]
            exact small1000 (by omega)
          · rw [upd_same, List.take_add_one, et]
            show _ = some (HO.lst (((ts.take i ++ [t]).map isWispT).map V.bl))
            rw [List.map_append, List.map_append]
            rfl
        obtain ⟨s1, eD⟩ := hm
        rw [hl, List.take_length] at eD
        refine ⟨D, _, rfl, SqL.of eD, ?_⟩
        have eall : (ts.map isWispT).all id = ts.all isWispT := by
          rw [List.all_map]
          rfl
        rw [eall]
        exact q _ s1
      · rw [decide_eq_false c] at q ⊢
        exact iteF (q _ (Same.refl _))
theorem ok_is_schedule {fT fW fR f : Addr} {fdT fdW fdR fd : FuncData} (F : Fun K "is_schedule" "is_schedule" s_is_schedule f fd) (bi : Bi mg) (C_is_row : Cal P w K mg base "is_row" P_is_row 5 spRowT fR fdR) (C_is_tuple : Cal P w K mg base "is_tuple" P_is_tuple 1 spTupleT fT fdT) (C_is_whole : Cal P w K mg base "is_whole" P_is_whole 1 spWholeT fW fdW) : FnOk P w K mg base CX0 6 f fd P_is_schedule spSchedT := by
  refine F.ok sc_is_schedule (fun vs H Q E h => ?_) (fun cdv A outer s H vs Q E hr h => ?_)
  · obtain ⟨v, u, ts, t, rfl, _⟩ := h
    rfl
  · obtain ⟨v, u, us, t, rfl, hv, hrow, hu, q⟩ := h
    refine ⟨_, (pss_cons (ps_if (pw_or (pt_not (pt_val (pe_call (C_is_row.G.mono (by decide)) hr (by rfl) C_is_row.g C_is_row.kp C_is_row.b .nil pass0 (pa_cons (pv 0) pa_nil)))) (pw_or1 (pt_not (pt_val (pe_call (C_is_tuple.G.mono (by decide)) hr (by rfl) C_is_tuple.g C_is_tuple.kp C_is_tuple.b .nil pass0 (pa_cons (pv 1) (pa_cons (pe_callB call_len_seq (by rfl) bi.m_len (by decide +kernel) (pa_cons (pv 0) pa_nil)) (pa_cons (pe_callB call_len_seq (by rfl) bi.m_len (by decide +kernel) (pa_cons (pv 0) pa_nil)) pa_nil)))))))).pt
      (pss_one (ps_ret pe_bl))
      pss_nil)
    (pss_cons (ps_set (i := 2) sc_is_schedule.nd rfl (.inl rfl) pe_int)
    (pss_cons (ps_for PassesOwn.never rfl (pi_tup (pv 1)) (pg_name (i := 3) sc_is_schedule.nd rfl (.inl rfl))
      (pss_cons (ps_if (pt_not (pt_val (pe_call (C_is_whole.G.mono (by decide)) hr (by rfl) C_is_whole.g C_is_whole.kp C_is_whole.b .nil pass0 (pa_cons (pv 3) (pa_cons (pv 2) pa_nil)))))
          (pss_one (ps_ret pe_bl))
          pss_nil)
        (pss_one (ps_set (i := 2) sc_is_schedule.nd rfl (.inl rfl) (pv 3)))))
    (pss_one (ps_ret pe_bl))))), ?_⟩
    refine ⟨_, rfl, v, _, rfl, hv, fun H1 s1 => ⟨_, rfl, ?_⟩⟩
    rw [hrow]
    refine iteNT ?_
    obtain ⟨c, ws, rfl, ec, hwl, _⟩ := hv.tupE
    have hu1 := hu.mono (Kinds.same s1)
    refine ⟨_, rfl, _, rfl, c, ws, rfl, .inr (SqT.of (s1 _ _ ec)), _, rfl, c, ws, rfl, .inr (SqT.of (s1 _ _ ec)), u, t, _, _, rfl, hu1, _, rfl, ?_⟩
    cases t with
    | int m => exact iteNF (q _ s1)
    | bl b => exact iteNF (q _ s1)
    | oth => exact iteNF (q _ s1)
    | tup ts =>
      have hq : lenIn (.tup ts) ws.length ws.length = decide (ts.length = us.length) := by
        show (decide ((ws.length : Int) ≤ (ts.length : Int)) && decide ((ts.length : Int) ≤ ws.length)) = decide (ts.length = us.length)
        rw [hwl, Bool.eq_iff_iff, Bool.and_eq_true, decide_eq_true_iff, decide_eq_true_iff, decide_eq_true_iff]
        omega
      rw [hq]
      have q : ∀ H', Same H H' → Q (.bl (decide (ts.length = us.length) && goUp 0 ts)) H' := q
      by_cases c : ts.length = us.length
      · rw [decide_eq_true c] at q ⊢
        rw [Bool.true_and] at q
        refine iteNT ?_
        obtain ⟨a, vs, rfl, ea, hl, hh⟩ := hu1.tupE
        refine ⟨_, rfl, a, rfl, ⟨_, SqT.of ea⟩, for_tup (xs := vs) (fun i σ' H' => H' = H1 ∧ ∃ (x3 : Option V) (least : Int), σ' = [some (.ref _), some (.ref a), some (.int least), x3] ∧ goUp 0 ts = goUp least (ts.drop i)) ⟨rfl, _, _, rfl, rfl⟩ (fun i σ' H' hi hm => ?_) (fun i x σ' H' hx hm => ?_) (fun σ' H' hm => ?_)⟩
        · obtain ⟨rfl, _⟩ := hm
          exact SqT.of ea
        · obtain ⟨rfl, x3, least, rfl, hg⟩ := hm
          have hi : i < vs.length := (List.getElem?_eq_some_iff.mp hx).1
          have hit : i < ts.length := by omega
          have et : ts[i]? = some (ts[i]'hit) := List.getElem?_eq_getElem hit
          rw [List.drop_eq_getElem_cons hit] at hg
          generalize ts[i]'hit = t at et hg
          have hg : goUp 0 ts = (whT t least && goUp (numT t) (ts.drop (i + 1))) := hg
          rw [hg] at q
          refine ⟨_, rfl, _, rfl, x, t, least, rfl, hh i x t hx et, _, rfl, ?_⟩
          cases hw : whT t least with
          | false =>
            rw [hw] at q
            exact iteNF (q _ s1)
          | true =>
            rw [hw, Bool.true_and] at hg
            refine iteNT ?_
            obtain ⟨m, rfl, m0⟩ := wh_of hw
            have e1 := (hh i x _ hx et).intE
            subst e1
            exact ⟨_, rfl, rfl, _, _, rfl, hg⟩
        · obtain ⟨rfl, x3, least, rfl, hg⟩ := hm
          rw [hl, List.drop_length] at hg
          rw [hg] at q
          exact q _ s1
      · rw [decide_eq_false c] at q ⊢
        exact iteNF (q _ s1)
theorem ok_thick_at {f : Addr} {fd : FuncData} {k : Nat} (F : Fun K "thick_at" "thick_at" s_thick_at f fd) (bi : Bi mg) : FnOk P w K mg base CX0 (k + 1) f fd P_thick_at spThick := by
  refine F.ok sc_thick_at (fun vs H Q E h => ?_) (fun cdv A outer s H vs Q E hr h => ?_)
  · obtain ⟨a, so, ps, k, rfl, _⟩ := h
    rfl
  · obtain ⟨a, so, ps, k, rfl, ⟨st, as, ea, es, tu⟩, q⟩ := h
    refine ⟨_, (pss_cons (ps_for PassesOwn.never rfl (pi_tup (pe_ix ix_tup (pv 0) pe_int (fun _ _ => rfl))) (pg_tup rfl (pgs_cons (pg_name (i := 2) sc_thick_at.nd rfl (.inl rfl)) (pgs_cons (pg_name (i := 3) sc_thick_at.nd rfl (.inl rfl)) pgs_nil)))
      (pss_cons (ps_if (pt_cmpR op_lt (pv 1) (pv 3) (nomark _))
          (pss_one (ps_ret (pv 2)))
          pss_nil)
        (pss_one (ps_aug (i := 1) sc_thick_at.nd rfl (.inl rfl) (pv 3) ip_sub))))
    (pss_one (ps_ret pe_int))), ?_⟩
    have hlen : as.length = ps.length := by
      have := tu.1
      rw [List.length_map] at this
      exact this
    refine ⟨_, rfl, a, _, 1, _, rfl, rfl, SqT.of ea, atI_nat (j := 1) rfl, st, rfl, ⟨_, SqT.of es⟩, for_tup (xs := as.map V.ref) (fun i σ' H' => ∃ (x2 x3 : Option V) (kk : Int), σ' = [some (.ref a), some (.int kk), x2, x3] ∧ H' = H ∧ thickAt (ps.drop i) kk = thickAt ps k) ⟨_, _, k, rfl, rfl, rfl⟩ (fun i σ' H' hi hm => ?_) (fun i x σ' H' hx hm => ?_) (fun σ' H' hm => ?_)⟩
    · obtain ⟨x2, x3, kk, rfl, rfl, _⟩ := hm
      exact SqT.of es
    · obtain ⟨x2, x3, kk, rfl, rfl, et⟩ := hm
      obtain ⟨b, t, g, rfl, ep, eb⟩ := step_get tu hx
      refine ⟨b, _, rfl, SqT.of eb, rfl, _, _, rfl, _, _, rfl, rfl, ?_⟩
      have hd : ps.drop i = (t, g) :: ps.drop (i + 1) := by
        obtain ⟨hi, e⟩ := List.getElem?_eq_some_iff.mp ep
        rw [List.drop_eq_getElem_cons hi, e]
      rw [hd] at et
      have et : (if kk < g then t else thickAt (ps.drop (i + 1)) (kk - g)) = thickAt ps k := et
      refine ⟨_, rfl, _, rfl, _, _, rfl, rfl, _, rfl, ite2 (fun e => ?_) (fun e => ?_)⟩
      · rw [if_pos (of_decide_eq_true e)] at et
        rw [← et] at q
        exact ⟨_, rfl, q⟩
      · rw [if_neg (fun z => e (decide_eq_true z))] at et
        exact ⟨_, rfl, _, rfl, _, _, rfl, rfl, _, _, _, rfl, rfl, et⟩
    · obtain ⟨x2, x3, kk, rfl, rfl, et⟩ := hm
      rw [List.length_map, hlen, List.drop_length] at et
      rw [← et] at q
      exact q
theorem ok_tail {f : Addr} {fd : FuncData} {k : Nat} (F : Fun K "tail" "tail" s_tail f fd) (bi : Bi mg) : FnOk P w K mg base CX0 (k + 1) f fd P_tail spTail := by
  refine F.ok sc_tail (fun vs H Q E h => ?_) (fun cdv A outer s H vs Q E hr h => ?_)
  · obtain ⟨a, so, ps, k, rfl, _⟩ := h
    rfl
  · obtain ⟨a, so, ps, k, rfl, ⟨st, as, ea, es, tu⟩, hl, q⟩ := h
    refine ⟨_, (pss_cons (ps_asg (pv 0) (pg_tup rfl (pgs_cons (pg_name (i := 2) sc_tail.nd rfl (.inl rfl)) (pgs_cons (pg_name (i := 3) sc_tail.nd rfl (.inl rfl)) pgs_nil))))
    (pss_cons (ps_set (i := 4) sc_tail.nd rfl (.inl rfl) (pe_lst pa_nil))
    (pss_cons (ps_for PassesOwn.never rfl (pi_tup (pv 3)) (pg_tup rfl (pgs_cons (pg_name (i := 5) sc_tail.nd rfl (.inl rfl)) (pgs_cons (pg_name (i := 6) sc_tail.nd rfl (.inl rfl)) pgs_nil)))
      (C8.pss_cut (ps_if (pt_cmpR op_lt (pv 1) (pv 6) (nomark _))
          (pss_one (ps_expr (pe_bm PySem.F.plainAttrs_list PySem.F.slot_list_append PySem.F.type_list_append mt_append (pv 4) (pa_cons (pe_tup (pa_cons (pv 5) (pa_cons (pe_op op_sub (pv 6) (pe_callB (call_max2 rfl) (by rfl) bi.m_max (by decide +kernel) (pa_cons (pv 1) (pa_cons pe_int pa_nil)))) pa_nil))) pa_nil))))
          pss_nil)
        (pss_one (ps_aug (i := 1) sc_tail.nd rfl (.inl rfl) (pv 6) ip_sub))))
    (pss_one (ps_ret (pe_tup (pa_cons (pv 2) (pa_cons (pe_callTy call_tuple_of (by rfl) bi.m_tuple (by decide +kernel) (pa_cons (pv 4) pa_nil)) pa_nil)))))))), ?_⟩
    have hlen : as.length = ps.length := by
      have := tu.1
      rw [List.length_map] at this
      exact this
    refine ⟨_, rfl, a, _, rfl, SqT.of ea, rfl, _, _, rfl, _, _, rfl, rfl, ?_⟩
    refine ⟨Nat.zero_le _, fun o no => ?_⟩
    have es' : upd H o (.lst []) st = some (.tup (as.map V.ref)) := same_new (Same.refl H) no _ _ es
    refine ⟨_, rfl, st, rfl, ⟨_, SqT.of es'⟩, for_tup (xs := as.map V.ref) (fun i σ' H' => ∃ (x5 x6 : Option V) (kk : Int) (bs : List Addr) (qs : List (Int × Int)), σ' = [some (.ref a), some (.int kk), some (.int so), some (.ref st), some (.ref o), x5, x6] ∧ Same H H' ∧ H' o = some (.lst (bs.map V.ref)) ∧ TupsAt H' bs (qs.map stepV) ∧ qs.length ≤ i ∧ qs ++ tailOf (ps.drop i) kk = tailOf ps k) ⟨_, _, k, [], [], rfl, same_new (Same.refl H) no, upd_same, TupsAt.nil, Nat.le_refl _, rfl⟩ (fun i σ' H' hi hm => ?_) (fun i x σ' H' hx hm => ?_) (fun σ' H' hm => ?_)⟩
    · obtain ⟨x5, x6, kk, bs, qs, rfl, sm, _⟩ := hm
      exact SqT.of (sm _ _ es)
    · obtain ⟨x5, x6, kk, bs, qs, rfl, sm, eo, tb, hq, et⟩ := hm
      obtain ⟨b, t, g, rfl, ep, eb⟩ := step_get tu hx
      have hd : ps.drop i = (t, g) :: ps.drop (i + 1) := by
        obtain ⟨hi, e⟩ := List.getElem?_eq_some_iff.mp ep
        rw [List.drop_eq_getElem_cons hi, e]
      rw [hd] at et
      have et : qs ++ ((if kk < g then [(t, g - (if 0 > kk then 0 else kk))] else []) ++ tailOf (ps.drop (i + 1)) (kk - g)) = tailOf ps k := et
      have hips : i < ps.length := (List.getElem?_eq_some_iff.mp ep).1
      refine ⟨b, _, rfl, SqT.of (sm _ _ eb), rfl, _, _, rfl, _, _, rfl, rfl, ?_⟩
      refine ⟨fun σ' H' => ∃ (bs : List Addr) (qs : List (Int × Int)), σ' = [some (.ref a), some (.int kk), some (.int so), some (.ref st), some (.ref o), some (.int t), some (.int g)] ∧ Same H H' ∧ H' o = some (.lst (bs.map V.ref)) ∧ TupsAt H' bs (qs.map stepV) ∧ qs.length ≤ i + 1 ∧ qs ++ tailOf (ps.drop (i + 1)) (kk - g) = tailOf ps k, ?_, fun σ' H' hm => ?_⟩
      · refine ⟨_, rfl, _, rfl, _, _, rfl, rfl, _, rfl, ite2 (fun e => ?_) (fun e => ?_)⟩
        · refine ⟨_, rfl, .inl ⟨rfl, _, SqL.of eo⟩, _, rfl, _, rfl, _, rfl, _, _, rfl, _, _, rfl, rfl, (by show 2 ≤ sizeLine; decide), fun z nz => ?_⟩
          have eo' : upd H' z (.tup [.int t, .int (g - (if 0 > kk then 0 else kk))]) o = some (.lst (bs.map V.ref)) := by
            rw [upd_ne (ne_of_none eo nz)]
            exact eo
          refine ⟨o, _, _, rfl, rfl, eo', ?_, ?_⟩
          · have := tb.1
            rw [List.length_map] at this
            rw [List.length_map]
            exact small1000 (by omega)
          refine ⟨bs ++ [z], qs ++ [(t, g - (if 0 > kk then 0 else kk))], rfl, same_mine (same_new sm nz) no, ?_, ?_, ?_, ?_⟩
          · rw [upd_same, List.map_append]
            rfl
          · rw [List.map_append]
            exact ((tb.mono (Tups.new nz)).snoc upd_same).mono (Tups.ls eo')
          · rw [List.length_append]
            show qs.length + 1 ≤ i + 1
            omega
          · rw [if_pos (of_decide_eq_true e)] at et
            rw [← et, List.append_assoc]
        · rw [if_neg (fun z => e (decide_eq_true z)), List.nil_append] at et
          exact ⟨bs, qs, rfl, sm, eo, tb, by omega, et⟩
      · obtain ⟨bs, qs, rfl, sm, eo, tb, hq, et⟩ := hm
        exact ⟨_, rfl, _, rfl, _, _, rfl, rfl, _, _, _, bs, qs, rfl, sm, eo, tb, hq, et⟩
    · obtain ⟨x5, x6, kk, bs, qs, rfl, sm, eo, tb, hq, et⟩ := hm
      rw [List.length_map, hlen, List.drop_length] at et
      have et : qs ++ [] = tailOf ps k := et
      rw [List.append_nil] at et
      subst et
      refine ⟨_, rfl, _, rfl, o, _, rfl, .inl ⟨SqL.of eo, fun U nU => ?_⟩⟩
      refine ⟨(by show 2 ≤ sizeLine; decide), fun W nW => ?_⟩
      have nWU : U ≠ W := fun e => by
        rw [← e, upd_same] at nW
        cases nW
      have s1 : Same H (upd H' U (.tup (bs.map V.ref))) := same_new sm nU
      refine q _ W (same_new s1 nW) (Same.free s1 nW) ⟨U, bs, upd_same, ?_, (tb.mono (Tups.new nU)).mono (Tups.new nW)⟩
      rw [upd_ne nWU, upd_same]
theorem ok_thick_of {f fK : Addr} {fd fdK : FuncData} (F : Fun K "thick_of" "thick_of" s_thick_of f fd) (bi : Bi mg) (C_thick_at : Cal P w K mg base "thick_at" P_thick_at 1 spThick fK fdK) : FnOk P w K mg base CX0 2 f fd P_thick_of spThickOf := by
  refine F.ok sc_thick_of (fun vs H Q E h => ?_) (fun cdv A outer s H vs Q E hr h => ?_)
  · obtain ⟨a, L, p, rfl, _⟩ := h
    rfl
  · obtain ⟨a, L, p, rfl, ⟨wa, ea, hw⟩, q⟩ := h
    refine ⟨_, (pss_cons (ps_asg (pv 0) (pg_tup rfl (pgs_cons (pg_name (i := 2) sc_thick_of.nd rfl (.inl rfl)) (pgs_cons (pg_name (i := 3) sc_thick_of.nd rfl (.inl rfl)) (pgs_cons (pg_name (i := 4) sc_thick_of.nd rfl (.inl rfl)) pgs_nil)))))
    (pss_cons (ps_if (pw_or (pt_cmpR op_lt (pv 1) (pv 3) (nomark _)) (pw_or1 (pw_and (pt_cmpR op_notN (pv 4) pe_non (nomark _)) (pw_and1 (pt_cmpR op_ge (pv 1) (pv 4) (nomark _)))).pt)).pt
      (pss_one (ps_ret pe_int))
      pss_nil)
    (pss_one (ps_ret (pe_call (C_thick_at.G.mono (by decide)) hr (by rfl) C_thick_at.g C_thick_at.kp C_thick_at.b .nil pass0 (pa_cons (pv 2) (pa_cons (pe_op op_sub (pv 1) (pv 3)) pa_nil))))))), ?_⟩
    refine ⟨_, rfl, a, _, rfl, SqT.of ea, rfl, _, _, rfl, _, _, rfl, _, _, rfl, rfl, ?_⟩
    unfold thickL at q
    refine ⟨_, rfl, _, rfl, _, _, rfl, rfl, _, rfl, ite2 (fun e => ?_) (fun e => ?_)⟩
    · rw [if_pos (of_decide_eq_true e)] at q
      exact iteT q
    · rw [if_neg (fun z => e (decide_eq_true z))] at q
      cases hle : L.le with
      | none =>
        rw [hle] at q
        refine ⟨_, rfl, rfl, _, rfl, ?_⟩
        refine iteEqF letV_none ?_
        exact iteF ⟨_, rfl, _, rfl, _, rfl, _, _, rfl, rfl, wa, L.so, L.ps, _, rfl, hw, q⟩
      | some n =>
        rw [hle] at q
        refine ⟨_, rfl, rfl, _, rfl, ?_⟩
        refine iteEqT (letV_some n) ?_
        have q : Q (V.int (if n ≤ p then 0 else thickAt L.ps (p - L.pl))) H := q
        refine ⟨_, rfl, _, rfl, _, _, rfl, rfl, _, rfl, ite2 (fun e2 => ?_) (fun e2 => ?_)⟩
        · rw [if_pos (of_decide_eq_true e2)] at q
          exact q
        · rw [if_neg (fun z => e2 (decide_eq_true z))] at q
          exact ⟨_, rfl, _, rfl, _, rfl, _, _, rfl, rfl, wa, L.so, L.ps, _, rfl, hw, q⟩
theorem ok_thicknesses_at {f fK : Addr} {fd fdK : FuncData} (F : Fun K "thicknesses_at" "thicknesses_at" s_thicknesses_at f fd) (bi : Bi mg) (C_thick_of : Cal P w K mg base "thick_of" P_thick_of 2 spThickOf fK fdK) : FnOk P w K mg base CX0 3 f fd P_thicknesses_at spThicks := by
  refine F.ok sc_thicknesses_at (fun vs H Q E h => ?_) (fun cdv A outer s H vs Q E hr h => ?_)
  · obtain ⟨a, Ls, p, rfl, _⟩ := h
    rfl
  · obtain ⟨a, Ls, p, rfl, ⟨as, ea, la⟩, hl, q⟩ := h
    refine ⟨_, (pss_one (ps_ret (pe_lc (own := [("laid", 2)]) (g := (gName 2)) (tt := tYes) rfl sc_thicknesses_at.nd (pi_tup (pv 0)) (blkOk_by (N := N_thicknesses_at) (sc := defScope s_thicknesses_at) (by decide +kernel)) (fun _ _ _ _ _ => (pg_name (i := 2) sc_thicknesses_at.nd rfl (.inl rfl) (.inr rfl))) (fun _ _ _ _ _ => pts_nil) (fun _ _ _ _ _ => (pe_call (C_thick_of.G.mono (by decide)) hr (by rfl) C_thick_of.g C_thick_of.kp C_thick_of.b .nil pass0 (pa_cons (pv 2) (pa_cons (pv 1) pa_nil))))))), ?_⟩
    refine ⟨_, rfl, a, rfl, ⟨_, SqT.of ea⟩, fun D nD => ?_⟩
    refine lc_tup (xs := as.map V.ref) (fun i H' => Same H H' ∧ H' D = some (.lst (((Ls.take i).map fun L => thickL L p).map V.int))) ⟨same_new (Same.refl H) nD, upd_same⟩ (fun i H' hi hm => SqT.of (hm.1 _ _ ea)) (fun i x H' hx hm => ?_) (fun H' hm => ?_)
    · obtain ⟨sm, eD⟩ := hm
      obtain ⟨b, L, rfl, _, eL, hb⟩ := laid_get la hx
      refine ⟨rfl, yesIte ?_⟩
      refine ⟨_, rfl, _, rfl, b, L, p, rfl, hb.mono (Tups.same sm), _, eD, ?_, same_mine sm nD, ?_⟩
      · rw [List.length_map, List.length_map, List.length_take]
        exact small1000 (by omega)
      · rw [upd_same, take_map_succ _ eL, List.map_append]
        rfl
    · obtain ⟨sm, eD⟩ := hm
      rw [List.length_map, la.1, List.take_length] at eD
      exact q _ D sm nD eD
theorem ok_parts_of {f : Addr} {fd : FuncData} {k : Nat} (F : Fun K "parts_of" "parts_of" s_parts_of f fd) (bi : Bi mg) : FnOk P w K mg base CX0 (k + 1) f fd P_parts_of spPartsOf := by
  refine F.ok sc_parts_of (fun vs H Q E h => ?_) (fun cdv A outer s H vs Q E hr h => ?_)
  · obtain ⟨a, L, rfl, _⟩ := h
    rfl
  · obtain ⟨a, L, rfl, ⟨wa, ea, st, as, ew, es, tu⟩, hl, q⟩ := h
    refine ⟨_, (pss_cons (ps_asg (pv 0) (pg_tup rfl (pgs_cons (pg_name (i := 1) sc_parts_of.nd rfl (.inl rfl)) (pgs_cons (pg_name (i := 2) sc_parts_of.nd rfl (.inl rfl)) (pgs_cons (pg_name (i := 3) sc_parts_of.nd rfl (.inl rfl)) pgs_nil)))))
    (pss_cons (ps_set (i := 4) sc_parts_of.nd rfl (.inl rfl) (pe_lst pa_nil))
    (pss_cons (ps_for PassesOwn.never rfl (pi_tup (pe_ix ix_tup (pv 1) pe_int (fun _ _ => rfl))) (pg_tup rfl (pgs_cons (pg_name (i := 5) sc_parts_of.nd rfl (.inl rfl)) (pgs_cons (pg_name (i := 6) sc_parts_of.nd rfl (.inl rfl)) pgs_nil)))
      (C8.pss_cut (ps_set (i := 7) sc_parts_of.nd rfl (.inl rfl) (pe_ifExp (pt_cmpR op_isN (pv 3) pe_non (nomark _)) (pe_op op_add (pv 2) (pv 6)) (pe_callB (call_min2 rfl) (by rfl) bi.m_min (by decide +kernel) (pa_cons (pe_op op_add (pv 2) (pv 6)) (pa_cons (pv 3) pa_nil)))))
        (C8.pss_cut (ps_if (pt_cmpR op_lt (pv 2) (pv 7) (nomark _))
          (pss_one (ps_expr (pe_bm PySem.F.plainAttrs_list PySem.F.slot_list_append PySem.F.type_list_append mt_append (pv 4) (pa_cons (pe_tup (pa_cons (pv 2) (pa_cons (pv 7) (pa_cons (pv 5) pa_nil)))) pa_nil))))
          pss_nil)
        (pss_one (ps_set (i := 2) sc_parts_of.nd rfl (.inl rfl) (pv 7))))))
    (pss_one (ps_ret (pv 4)))))), ?_⟩
    have hlen : as.length = L.ps.length := by
      have := tu.1
      rw [List.length_map] at this
      exact this
    refine ⟨_, rfl, a, _, rfl, SqT.of ea, rfl, _, _, rfl, _, _, rfl, _, _, rfl, rfl, ?_⟩
    refine ⟨Nat.zero_le _, fun o no => ?_⟩
    have ew' : upd H o (.lst []) wa = some (.tup [.int L.so, .ref st]) := same_new (Same.refl H) no _ _ ew
    have es' : upd H o (.lst []) st = some (.tup (as.map V.ref)) := same_new (Same.refl H) no _ _ es
    refine ⟨_, rfl, wa, _, 1, _, rfl, rfl, SqT.of ew', atI_nat (j := 1) rfl, st, rfl, ⟨_, SqT.of es'⟩, for_tup (xs := as.map V.ref) (fun i σ' H' => ∃ (x5 x6 x7 : Option V) (kk : Int) (bs : List Addr) (qs : List (Int × Int × Int)), σ' = [some (.ref a), some (.ref wa), some (.int kk), some (letV L.le), some (.ref o), x5, x6, x7] ∧ Same H H' ∧ H' o = some (.lst (bs.map V.ref)) ∧ TupsAt H' bs (qs.map rowV) ∧ qs.length ≤ i ∧ qs ++ partsOf L.le (L.ps.drop i) kk = partsOf L.le L.ps L.pl) ⟨_, _, _, L.pl, [], [], rfl, same_new (Same.refl H) no, upd_same, TupsAt.nil, Nat.le_refl _, rfl⟩ (fun i σ' H' hi hm => ?_) (fun i x σ' H' hx hm => ?_) (fun σ' H' hm => ?_)⟩
    · obtain ⟨x5, x6, x7, kk, bs, qs, rfl, sm, _⟩ := hm
      exact SqT.of (sm _ _ es)
    · obtain ⟨x5, x6, x7, kk, bs, qs, rfl, sm, eo, tb, hq, et⟩ := hm
      obtain ⟨b, t, g, rfl, ep, eb⟩ := step_get tu hx
      have hd : L.ps.drop i = (t, g) :: L.ps.drop (i + 1) := by
        obtain ⟨hi, e⟩ := List.getElem?_eq_some_iff.mp ep
        rw [List.drop_eq_getElem_cons hi, e]
      rw [hd] at et
      have et : qs ++ ((if kk < clip L.le (kk + g) then [(kk, clip L.le (kk + g), t)] else []) ++ partsOf L.le (L.ps.drop (i + 1)) (clip L.le (kk + g))) = partsOf L.le L.ps L.pl := et
      have hips : i < L.ps.length := (List.getElem?_eq_some_iff.mp ep).1
      refine ⟨b, _, rfl, SqT.of (sm _ _ eb), rfl, _, _, rfl, _, _, rfl, rfl, ?_⟩
      refine ⟨fun σ' H2 => σ' = [some (.ref a), some (.ref wa), some (.int kk), some (letV L.le), some (.ref o), some (.int t), some (.int g), some (.int (clip L.le (kk + g)))] ∧ H2 = H', ?_, fun σ' H2 hm => ?_⟩
      · refine ⟨_, rfl, rfl, _, rfl, ?_⟩
        cases hle : L.le with
        | none => exact iteEqT (by decide) ⟨_, rfl, _, rfl, _, _, rfl, rfl, rfl, rfl⟩
        | some n => exact iteEqF (letV_some' n) ⟨_, rfl, _, rfl, _, _, rfl, rfl, _, rfl, _, _, rfl, rfl, rfl⟩
      obtain ⟨rfl, rfl⟩ := hm
      refine ⟨fun σ' H3 => ∃ (bs : List Addr) (qs : List (Int × Int × Int)), σ' = [some (.ref a), some (.ref wa), some (.int kk), some (letV L.le), some (.ref o), some (.int t), some (.int g), some (.int (clip L.le (kk + g)))] ∧ Same H H3 ∧ H3 o = some (.lst (bs.map V.ref)) ∧ TupsAt H3 bs (qs.map rowV) ∧ qs.length ≤ i + 1 ∧ qs ++ partsOf L.le (L.ps.drop (i + 1)) (clip L.le (kk + g)) = partsOf L.le L.ps L.pl, ?_, fun σ' H3 hm => ?_⟩
      · refine ⟨_, rfl, _, rfl, _, _, rfl, rfl, _, rfl, ite2 (fun e => ?_) (fun e => ?_)⟩
        · refine ⟨_, rfl, .inl ⟨rfl, _, SqL.of eo⟩, _, rfl, _, rfl, _, rfl, (by show 3 ≤ sizeLine; decide), fun z nz => ?_⟩
          have eo' : upd H2 z (.tup [.int kk, .int (clip L.le (kk + g)), .int t]) o = some (.lst (bs.map V.ref)) := by
            rw [upd_ne (ne_of_none eo nz)]
            exact eo
          refine ⟨o, _, _, rfl, rfl, eo', ?_, ?_⟩
          · have := tb.1
            rw [List.length_map] at this
            rw [List.length_map]
            exact small1000 (by omega)
          refine ⟨bs ++ [z], qs ++ [(kk, clip L.le (kk + g), t)], rfl, same_mine (same_new sm nz) no, ?_, ?_, ?_, ?_⟩
          · rw [upd_same, List.map_append]
            rfl
          · rw [List.map_append]
            exact ((tb.mono (Tups.new nz)).snoc upd_same).mono (Tups.ls eo')
          · rw [List.length_append]
            show qs.length + 1 ≤ i + 1
            omega
          · rw [if_pos (of_decide_eq_true e)] at et
            rw [← et, List.append_assoc]
        · rw [if_neg (fun z => e (decide_eq_true z)), List.nil_append] at et
          exact ⟨bs, qs, rfl, sm, eo, tb, by omega, et⟩
      · obtain ⟨bs, qs, rfl, sm, eo, tb, hq, et⟩ := hm
        exact ⟨_, rfl, _, _, _, _, bs, qs, rfl, sm, eo, tb, hq, et⟩
    · obtain ⟨x5, x6, x7, kk, bs, qs, rfl, sm, eo, tb, hq, et⟩ := hm
      rw [List.length_map, hlen, List.drop_length] at et
      have et : qs ++ [] = partsOf L.le L.ps L.pl := et
      rw [List.append_nil] at et
      subst et
      exact ⟨_, rfl, q _ o sm no ⟨bs, eo, tb⟩⟩
theorem ok_numbers_of {f : Addr} {fd : FuncData} {k : Nat} (F : Fun K "numbers_of" "numbers_of" s_numbers_of f fd) (bi : Bi mg) : FnOk P w K mg base CX0 (k + 1) f fd P_numbers_of spNumbers := by
  refine F.ok sc_numbers_of (fun vs H Q E h => ?_) (fun cdv A outer s H vs Q E hr h => ?_)
  · obtain ⟨a, ns, rfl, _⟩ := h
    rfl
  · obtain ⟨a, ns, rfl, ea, hl, q⟩ := h
    refine ⟨_, (pss_one (ps_ret (pe_callTy call_tuple_of (by rfl) bi.m_tuple (by decide +kernel) (pa_cons (pe_lc (own := [("number", 1), ("thickness", 2)]) (g := (gTup K 2 (gCons (gName 1) (gCons (gName 2) gNil)))) rfl sc_numbers_of.nd (pi_enum (by rfl) bi.m_enumerate (pa_cons (pv 0) pa_nil)) (blkOk_by (N := N_numbers_of) (sc := defScope s_numbers_of) (by decide +kernel)) (fun _ _ _ _ _ => (pg_tup rfl (pgs_cons (pg_name (i := 1) sc_numbers_of.nd rfl (.inl rfl) (.inr rfl)) (pgs_cons (pg_name (i := 2) sc_numbers_of.nd rfl (.inl rfl) (.inr rfl)) pgs_nil)))) (fun _ _ _ _ _ => (pts_one (pt_cmpR op_gt (pv 2) pe_int (nomark _)))) (fun _ _ _ _ _ => (pv 1))) pa_nil)))), ?_⟩
    refine ⟨_, rfl, a, _, rfl, SqL.of ea, fun D nD => ?_⟩
    refine lc_it (walk_enum (xs := ns.map V.int)) (fun i H' => Same H H' ∧ H' D = some (.lst ((numsFrom 0 (ns.take i)).map V.int)) ∧ i ≤ ns.length) ⟨same_new (Same.refl H) nD, upd_same, Nat.zero_le _⟩ (fun i H' hi hm => SqL.of (hm.1 _ _ ea)) (fun i x H' H2 hi hm hy => ?_) (fun H' hm => ?_)
    · obtain ⟨sm, eD, _⟩ := hm
      obtain ⟨T, x1, x2, rfl, nT, rfl, f1, f2⟩ := hy
      obtain ⟨n, rfl, en⟩ := int_get f2
      have e1 : x1 = .int (i : Nat) := (Option.some.inj f1).symm
      subst e1
      have hi' : i < ns.length := (List.getElem?_eq_some_iff.mp en).1
      have s1 : Same H (upd H' T (.tup [.int (i : Nat), .int n])) := same_new sm nT
      have eD1 : upd H' T (.tup [.int (i : Nat), .int n]) D = some (.lst ((numsFrom 0 (ns.take i)).map V.int)) := by
        rw [upd_ne (ne_of_none eD nT)]
        exact eD
      have hs : numsFrom 0 (ns.take (i + 1)) = numsFrom 0 (ns.take i) ++ (if 0 < n then [(i : Int)] else []) := by
        rw [List.take_add_one, en]
        show numsFrom 0 (ns.take i ++ [n]) = _
        rw [nums_snoc, List.length_take, Nat.min_eq_left (by omega), Nat.zero_add]
      refine ⟨T, _, rfl, SqT.of upd_same, rfl, _, _, rfl, _, _, rfl, rfl, rfl, ?_⟩
      refine ⟨_, rfl, _, _, rfl, rfl, _, rfl, ite2 (fun e => ?_) (fun e => ?_)⟩
      · refine ⟨_, rfl, _, eD1, ?_, same_mine s1 nD, ?_, by omega⟩
        · rw [List.length_map]
          have := nums_len (ns.take i) 0
          rw [List.length_take] at this
          exact small1000 (by omega)
        · rw [upd_same, hs, if_pos (of_decide_eq_true e), List.map_append]
          rfl
      · refine ⟨s1, ?_, by omega⟩
        rw [eD1, hs, if_neg (fun z => e (decide_eq_true z)), List.append_nil]
    · obtain ⟨sm, eD, _⟩ := hm
      rw [List.length_map, List.take_length] at eD
      refine ⟨D, _, rfl, .inl ⟨SqL.of eD, fun U nU => ?_⟩⟩
      exact q _ U (same_new sm nU) (Same.free sm nU) upd_same
theorem ok_sorts_of {f : Addr} {fd : FuncData} {k : Nat} (F : Fun K "sorts_of" "sorts_of" s_sorts_of f fd) (bi : Bi mg) : FnOk P w K mg base CX0 (k + 1) f fd P_sorts_of spSorts := by
  refine F.ok sc_sorts_of (fun vs H Q E h => ?_) (fun cdv A outer s H vs Q E hr h => ?_)
  · obtain ⟨a, t, Ls, p, rfl, _⟩ := h
    rfl
  · obtain ⟨a, t, Ls, p, rfl, ⟨as, ea, la⟩, et, hg, q⟩ := h
    refine ⟨_, (pss_cons (ps_asg2 pe_int (pg_name (i := 2) sc_sorts_of.nd rfl (.inl rfl)) (pg_name (i := 3) sc_sorts_of.nd rfl (.inl rfl)))
    (pss_cons (ps_for PassesOwn.never rfl (pi_mix (by rfl) bi.m_zip (pa_cons (pv 0) (pa_cons (pv 1) pa_nil))) (pg_tup rfl (pgs_cons (pg_name (i := 4) sc_sorts_of.nd rfl (.inl rfl)) (pgs_cons (pg_name (i := 5) sc_sorts_of.nd rfl (.inl rfl)) pgs_nil)))
      (pss_one (ps_if (pt_cmpR op_eq (pe_ix ix_tup (pe_ix ix_tup (pv 4) pe_int (fun _ _ => rfl)) pe_int (fun _ _ => rfl)) pe_int (nomark _))
          (pss_one (ps_aug (i := 2) sc_sorts_of.nd rfl (.inl rfl) (pv 5) ip_add))
          (pss_one (ps_aug (i := 3) sc_sorts_of.nd rfl (.inl rfl) (pv 5) ip_add)))))
    (pss_one (ps_ret (pe_tup (pa_cons (pv 2) (pa_cons (pv 3) pa_nil))))))), ?_⟩
    have hlen : (as.map V.ref).length = ((Ls.map fun L => thickL L p).map V.int).length := by
      rw [List.length_map, List.length_map, List.length_map]
      exact la.1
    refine ⟨_, rfl, _, rfl, a, t, _, _, rfl, SqT.of ea, SqL.of et, for_it (walk_mix hlen) (fun i σ' H' => ∃ (x4 x5 : Option V), σ' = [some (.ref a), some (.ref t), some (.int (s0 (Ls.take i) p)), some (.int (s1 (Ls.take i) p)), x4, x5] ∧ Same H H') ⟨_, _, rfl, Same.refl H⟩ (fun i σ' H' hi hm => ?_) (fun i x σ' H' H2 hi hm hy => ?_) (fun σ' H' hm => ?_)⟩
    · obtain ⟨x4, x5, rfl, sm⟩ := hm
      exact ⟨SqT.of (sm _ _ ea), SqL.of (sm _ _ et)⟩
    · obtain ⟨x4, x5, rfl, sm⟩ := hm
      obtain ⟨c, y1, y2, rfl, nc, rfl, f1, f2⟩ := hy
      obtain ⟨b, L, rfl, _, eL, hb⟩ := laid_get la f1
      obtain ⟨n, rfl, en⟩ := int_get f2
      rw [List.getElem?_map, eL] at en
      have en : thickL L p = n := Option.some.inj en
      subst en
      have s1' : Same H (upd H' c (.tup [.ref b, .int (thickL L p)])) := same_new sm nc
      obtain ⟨wa, eb, st, cs, ew, _⟩ := LaidAt.same s1' hb
      have e1 : Ls.take (i + 1) = Ls.take i ++ [L] := by
        rw [List.take_add_one, eL]
        rfl
      refine ⟨c, _, rfl, SqT.of upd_same, rfl, _, _, rfl, _, _, rfl, rfl, ?_⟩
      refine ⟨_, rfl, b, _, 0, _, rfl, rfl, SqT.of eb, atI_nat (j := 0) rfl, wa, _, 0, _, rfl, rfl, SqT.of ew, atI_nat (j := 0) rfl, rfl, _, rfl, ite2 (fun e => ?_) (fun e => ?_)⟩
      · have e0 : L.so = 0 := V.int.inj (of_decide_eq_true e)
        refine ⟨_, rfl, _, rfl, _, _, rfl, rfl, some (.ref b), some (.int (thickL L p)), ?_, s1'⟩
        rw [e1, s0_snoc, s1_snoc, if_pos e0, if_pos e0, Int.add_zero]
        rfl
      · have e0 : ¬ L.so = 0 := fun z => e (decide_eq_true (by rw [z]))
        refine ⟨_, rfl, _, rfl, _, _, rfl, rfl, some (.ref b), some (.int (thickL L p)), ?_, s1'⟩
        rw [e1, s0_snoc, s1_snoc, if_neg e0, if_neg e0, Int.add_zero]
        rfl
    · obtain ⟨x4, x5, rfl, sm⟩ := hm
      rw [List.length_map, la.1, List.take_length]
      refine ⟨_, rfl, _, rfl, (by show 2 ≤ sizeLine; decide), fun o no => ?_⟩
      exact q _ o (same_new sm no) (sm.free no) upd_same
theorem ok_end_of {f fP : Addr} {fd fdP : FuncData} (F : Fun K "end_of" "end_of" s_end_of f fd) (bi : Bi mg) (C_parts_of : Cal P w K mg base "parts_of" P_parts_of 1 spPartsOf fP fdP) : FnOk P w K mg base CX0 2 f fd P_end_of spEnd := by
  refine F.ok sc_end_of (fun vs H Q E h => ?_) (fun cdv A outer s H vs Q E hr h => ?_)
  · obtain ⟨a, Ls, rfl, _⟩ := h
    rfl
  · obtain ⟨a, Ls, rfl, ⟨as, ea, la⟩, hl, hg, q⟩ := h
    refine ⟨_, (pss_one (ps_ret (pe_callBK (call_maxD rfl) (by rfl) bi.m_max (by decide +kernel) (pa_cons (pe_lc2 (own := [("laid", 1), ("start", 2), ("end", 3), ("thickness", 4)]) (vs1 := [2, 3, 4]) (g := (gName 1)) (g1 := (gTup K 3 (gCons (gName 2) (gCons (gName 3) (gCons (gName 4) gNil))))) (tt := tYes) (tt1 := tYes) (wi1 := (iList K (tCall spPartsOf [] E0 (tCons (tVar 1) tNil)))) rfl sc_end_of.nd (pi_tup (pv 0)) (blkOk_by (N := N_end_of) (sc := defScope s_end_of) (by decide +kernel)) (by decide) (fun _ _ _ _ _ => (pg_name (i := 1) sc_end_of.nd rfl (.inl rfl) (.inr rfl))) (fun _ _ _ _ _ => pts_nil) (fun _ _ _ _ _ => (pi_list (pe_call (C_parts_of.G.mono (by decide)) hr (by rfl) C_parts_of.g C_parts_of.kp C_parts_of.b .nil pass0 (pa_cons (pv 1) pa_nil)))) (fun _ _ _ _ _ => (pg_tup rfl (pgs_cons (pg_name (i := 2) sc_end_of.nd rfl (.inl rfl) (.inr rfl)) (pgs_cons (pg_name (i := 3) sc_end_of.nd rfl (.inl rfl) (.inr rfl)) (pgs_cons (pg_name (i := 4) sc_end_of.nd rfl (.inl rfl) (.inr rfl)) pgs_nil))))) (fun _ _ _ _ _ => pts_nil) (fun _ _ _ _ _ => (pv 3))) pa_nil) (pk_cons pe_int pk_nil)))), ?_⟩
    refine ⟨_, rfl, a, rfl, ⟨_, SqT.of ea⟩, fun D nD => ?_⟩
    refine ⟨fun i m H' => i + m = as.length ∧ Same H H' ∧ H' D = some (.lst ((((Ls.take i).map endsOf).flatten).map V.int)) ∧ (((Ls.take i).map endsOf).flatten).length ≤ 10 * i, ⟨as.length, Nat.zero_add _, same_new (Same.refl H) nD, upd_same, Nat.zero_le _⟩, fun i m H' hm => ?_⟩
    obtain ⟨em, sm, eD, hle⟩ := hm
    have hT : SqT K H' a (as.map V.ref) := SqT.of (sm _ _ ea)
    by_cases hi : i < as.length
    · have g1 : (as.map V.ref)[i]? = some (.ref as[i]) := by
        rw [List.getElem?_map, List.getElem?_eq_getElem hi]
        rfl
      obtain ⟨b, L, eb, _, eL, hb⟩ := laid_get la g1
      have gL := hg L (List.mem_of_getElem? eL)
      have h10 := gL.1.2.1
      have htk : ((Ls.take (i + 1)).map endsOf).flatten = ((Ls.take i).map endsOf).flatten ++ endsOf L := by
        rw [take_map_succ _ eL, List.flatten_append]
        simp
      refine .inr ⟨⟨_, _, hT, g1⟩, fun H2 => Same H H2 ∧ H2 D = some (.lst ((((Ls.take (i + 1)).map endsOf).flatten).map V.int)) ∧ (((Ls.take (i + 1)).map endsOf).flatten).length ≤ 10 * (i + 1), fun H2 hN => ⟨m - 1, by omega, by omega, hN.1, hN.2.1, hN.2.2⟩, fun x H2 hy => ?_⟩
      obtain ⟨rfl, fx⟩ := hy
      have ex : x = .ref b := (Option.some.inj ((fx _ hT).symm.trans g1)).trans eb
      subst ex
      refine ⟨rfl, yesIte ?_⟩
      refine ⟨_, rfl, b, L, rfl, LaidAt.same sm hb, h10, fun H3 o s3 no ⟨bs, eo, tb⟩ => ?_⟩
      have hlb : bs.length = (partsOf L.le L.ps L.pl).length := by
        have := tb.1
        rw [List.length_map] at this
        exact this
      have hpl := part_len (le := L.le) L.ps L.pl
      have nDo : D ≠ o := ne_of_none eD no
      refine ⟨o, rfl, ⟨_, SqL.of eo⟩, fun j n H4 => j + n = bs.length ∧ Same H H4 ∧ H4 o = some (.lst (bs.map V.ref)) ∧ TupsAt H4 bs ((partsOf L.le L.ps L.pl).map rowV) ∧ H4 D = some (.lst ((((Ls.take i).map endsOf).flatten ++ ((partsOf L.le L.ps L.pl).take j).map fun t => t.2.1).map V.int)), ⟨bs.length, Nat.zero_add _, sm.trans s3, eo, tb, ?_⟩, fun j n H4 hm => ?_⟩
      · rw [s3 _ _ eD]
        show some (HO.lst (List.map V.int _)) = some (HO.lst (List.map V.int (_ ++ [])))
        rw [List.append_nil]
      obtain ⟨ej, s4, eo4, tb4, eD4⟩ := hm
      have hO : SqL K H4 o (bs.map V.ref) := SqL.of eo4
      by_cases hj : j < bs.length
      · have g2 : (bs.map V.ref)[j]? = some (.ref bs[j]) := by
          rw [List.getElem?_map, List.getElem?_eq_getElem hj]
          rfl
        obtain ⟨z, c1, c2, c3, ez0, et, ez⟩ := row_get tb4 g2
        refine .inr ⟨⟨_, _, hO, g2⟩, fun H5 => Same H H5 ∧ H5 o = some (.lst (bs.map V.ref)) ∧ TupsAt H5 bs ((partsOf L.le L.ps L.pl).map rowV) ∧ H5 D = some (.lst ((((Ls.take i).map endsOf).flatten ++ ((partsOf L.le L.ps L.pl).take (j + 1)).map fun t => t.2.1).map V.int)), fun H5 hN => ⟨n - 1, by omega, by omega, hN.1, hN.2.1, hN.2.2.1, hN.2.2.2⟩, fun x H5 hy => ?_⟩
        obtain ⟨rfl, fx⟩ := hy
        have ex : x = .ref z := (Option.some.inj ((fx _ hO).symm.trans g2)).trans ez0
        subst ex
        refine ⟨z, _, rfl, SqT.of ez, rfl, _, _, rfl, _, _, rfl, _, _, rfl, rfl, rfl, yesIte ?_⟩
        refine ⟨_, rfl, _, eD4, ?_, same_mine s4 nD, ?_, tb4.mono (Tups.ls eD4), ?_⟩
        · rw [List.length_map, List.length_append, List.length_map, List.length_take]
          have : i ≤ 60 := by have := la.1; omega
          exact small1000 (by omega)
        · rw [upd_ne nDo.symm]
          exact eo4
        · rw [upd_same, take_map_succ _ et, ← List.append_assoc, List.map_append (f := V.int) (l₂ := [_])]
          rfl
      · have ej2 : j = bs.length := by omega
        refine .inl ⟨⟨_, hO, by rw [List.length_map]; omega⟩, s4, ?_, ?_⟩
        · rw [eD4, ej2, hlb, List.take_length, htk]
          rfl
        · rw [htk, List.length_append]
          have : (endsOf L).length ≤ 10 := by
            unfold endsOf
            rw [List.length_map]
            omega
          omega
    · have ei : i = as.length := by omega
      refine .inl ⟨⟨_, hT, by rw [List.length_map]; omega⟩, ?_⟩
      rw [ei, la.1, List.take_length] at eD
      refine ⟨D, _, 0, rfl, rfl, SqL.of eD, fun mm hmm => ?_⟩
      exact q _ mm sm (ends_ok hg hmm)
theorem ok_weight_between {f fP : Addr} {fd fdP : FuncData} (F : Fun K "weight_between" "weight_between" s_weight_between f fd) (bi : Bi mg) (C_parts_of : Cal P w K mg base "parts_of" P_parts_of 1 spPartsOf fP fdP) : FnOk P w K mg base CX0 2 f fd P_weight_between spBetween := by
  refine F.ok sc_weight_between (fun vs H Q E h => ?_) (fun cdv A outer s H vs Q E hr h => ?_)
  · obtain ⟨a, Ls, x, y, rfl, _⟩ := h
    rfl
  · obtain ⟨a, Ls, x, y, rfl, ⟨as, ea, la⟩, hl, hg, q⟩ := h
    refine ⟨_, (pss_cons (ps_set (i := 3) sc_weight_between.nd rfl (.inl rfl) pe_int)
    (pss_cons (ps_for PassesOwn.never rfl (pi_tup (pv 0)) (pg_name (i := 4) sc_weight_between.nd rfl (.inl rfl))
      (pss_one (ps_for PassesOwn.never rfl (pi_list (pe_call (C_parts_of.G.mono (by decide)) hr (by rfl) C_parts_of.g C_parts_of.kp C_parts_of.b .nil pass0 (pa_cons (pv 4) pa_nil))) (pg_tup rfl (pgs_cons (pg_name (i := 5) sc_weight_between.nd rfl (.inl rfl)) (pgs_cons (pg_name (i := 6) sc_weight_between.nd rfl (.inl rfl)) (pgs_cons (pg_name (i := 7) sc_weight_between.nd rfl (.inl rfl)) pgs_nil))))
          (pss_one (ps_aug (i := 3) sc_weight_between.nd rfl (.inl rfl) (pe_op op_mulW (pv 7) (pe_callB (call_max2 rfl) (by rfl) bi.m_max (by decide +kernel) (pa_cons pe_int (pa_cons (pe_op op_sub (pe_callB (call_min2 rfl) (by rfl) bi.m_min (by decide +kernel) (pa_cons (pv 6) (pa_cons (pv 2) pa_nil))) (pe_callB (call_max2 rfl) (by rfl) bi.m_max (by decide +kernel) (pa_cons (pv 5) (pa_cons (pv 1) pa_nil)))) pa_nil)))) ip_add)))))
    (pss_one (ps_ret (pv 3))))), ?_⟩
    refine ⟨_, rfl, a, rfl, ⟨_, SqT.of ea⟩, for_tup (xs := as.map V.ref) (fun i σ' H' => ∃ (x4 x5 x6 x7 : Option V), σ' = [some (.ref a), some (.int x), some (.int y), some (.int (WL x y (Ls.take i))), x4, x5, x6, x7] ∧ Same H H') ⟨_, _, _, _, rfl, Same.refl H⟩ (fun i σ' H' hi hm => ?_) (fun i v σ' H' hx hm => ?_) (fun σ' H' hm => ?_)⟩
    · obtain ⟨x4, x5, x6, x7, rfl, sm⟩ := hm
      exact SqT.of (sm _ _ ea)
    · obtain ⟨x4, x5, x6, x7, rfl, sm⟩ := hm
      obtain ⟨b, L, rfl, _, eL, hb⟩ := laid_get la hx
      have gL := hg L (List.mem_of_getElem? eL)
      have e1 : Ls.take (i + 1) = Ls.take i ++ [L] := by
        rw [List.take_add_one, eL]
        rfl
      refine ⟨_, rfl, b, L, rfl, LaidAt.same sm hb, gL.1.2.1, fun H3 o s3 no ⟨bs, eo, tb⟩ => ?_⟩
      have hlb : bs.length = (partsOf L.le L.ps L.pl).length := by
        have := tb.1
        rw [List.length_map] at this
        exact this
      refine ⟨o, rfl, ⟨_, SqL.of eo⟩, for_list (xs := bs.map V.ref) (fun j σ' H4 => ∃ (x5 x6 x7 : Option V), σ' = [some (.ref a), some (.int x), some (.int y), some (.int (WL x y (Ls.take i) + wsum x y ((partsOf L.le L.ps L.pl).take j))), some (.ref b), x5, x6, x7] ∧ H4 = H3) ⟨x5, x6, x7, ?_, rfl⟩ (fun j σ' H4 hj hm => ?_) (fun j v σ' H4 hx hm => ?_) (fun σ' H4 hm => ?_)⟩
      · show _ = [_, _, _, some (V.int (WL x y (Ls.take i) + 0)), _, _, _, _]
        rw [Int.add_zero]
        rfl
      · obtain ⟨x5, x6, x7, rfl, rfl⟩ := hm
        exact SqL.of eo
      · obtain ⟨x5, x6, x7, rfl, rfl⟩ := hm
        obtain ⟨z, c1, c2, c3, rfl, et, ez⟩ := row_get tb hx
        have hmul := ovl_mul gL (List.mem_of_getElem? et) x y
        refine ⟨z, _, rfl, SqT.of ez, rfl, _, _, rfl, _, _, rfl, _, _, rfl, rfl, ?_⟩
        have e2 : (partsOf L.le L.ps L.pl).take (j + 1) = (partsOf L.le L.ps L.pl).take j ++ [(c1, c2, c3)] := by
          rw [List.take_add_one, et]
          rfl
        refine ⟨_, rfl, _, rfl, _, rfl, _, rfl, _, _, rfl, _, rfl, _, rfl, _, _, rfl, _, _, rfl, rfl, _, _, rfl, _, _, rfl, rfl, hmul, _, _, rfl, rfl, some (.int c1), some (.int c2), some (.int c3), ?_, rfl⟩
        rw [e2, wsum_app, wsum_cons, ← Int.add_assoc]
        show _ = [_, _, _, some (V.int (WL x y (Ls.take i) + wsum x y ((partsOf L.le L.ps L.pl).take j) + (c3 * ovl x y (c1, c2, c3) + 0))), _, _, _, _]
        rw [Int.add_zero]
        rfl
      · obtain ⟨x5, x6, x7, rfl, rfl⟩ := hm
        refine ⟨some (.ref b), x5, x6, x7, ?_, sm.trans s3⟩
        rw [List.length_map, hlb, List.take_length, e1, WL_snoc]
    · obtain ⟨x4, x5, x6, x7, rfl, sm⟩ := hm
      refine ⟨_, rfl, ?_⟩
      rw [List.length_map, la.1, List.take_length]
      exact q _ sm
theorem ok_changes_of {f fP : Addr} {fd fdP : FuncData} (F : Fun K "changes_of" "changes_of" s_changes_of f fd) (bi : Bi mg) (C_parts_of : Cal P w K mg base "parts_of" P_parts_of 1 spPartsOf fP fdP) : FnOk P w K mg base CX0 2 f fd P_changes_of spChanges := by
  refine F.ok sc_changes_of (fun vs H Q E h => ?_) (fun cdv A outer s H vs Q E hr h => ?_)
  · obtain ⟨a, Ls, rfl, _⟩ := h
    rfl
  · obtain ⟨a, Ls, rfl, ⟨as, ea, la⟩, hl, hg, q⟩ := h
    refine ⟨_, (pss_cons (ps_set (i := 1) sc_changes_of.nd rfl (.inl rfl) (pe_disp (pps_cons pe_int (pe_lst pa_nil) pps_nil) rfl rfl (by decide) (by decide)))
    (pss_cons (ps_for PassesOwn.never rfl (pi_enuT (by rfl) bi.m_enumerate (pa_cons (pv 0) pa_nil)) (pg_tup rfl (pgs_cons (pg_name (i := 2) sc_changes_of.nd rfl (.inl rfl)) (pgs_cons (pg_name (i := 3) sc_changes_of.nd rfl (.inl rfl)) pgs_nil)))
      (pss_one (ps_for PassesOwn.never rfl (pi_list (pe_call (C_parts_of.G.mono (by decide)) hr (by rfl) C_parts_of.g C_parts_of.kp C_parts_of.b .nil pass0 (pa_cons (pv 3) pa_nil))) (pg_tup rfl (pgs_cons (pg_name (i := 4) sc_changes_of.nd rfl (.inl rfl)) (pgs_cons (pg_name (i := 5) sc_changes_of.nd rfl (.inl rfl)) (pgs_cons (pg_name (i := 6) sc_changes_of.nd rfl (.inl rfl)) pgs_nil))))
          (C8.pss_cut (ps_expr (pe_bm PySem.F.plainAttrs_list PySem.F.slot_list_append PySem.F.type_list_append mt_append (pe_dsetd (pv 1) (pv 4) (pe_lst pa_nil) ⟨rfl, rfl, rfl, rfl⟩) (pa_cons (pe_tup (pa_cons (pv 2) (pa_cons (pv 6) pa_nil))) pa_nil)))
            (pss_one (ps_expr (pe_bm PySem.F.plainAttrs_list PySem.F.slot_list_append PySem.F.type_list_append mt_append (pe_dsetd (pv 1) (pv 5) (pe_lst pa_nil) ⟨rfl, rfl, rfl, rfl⟩) (pa_cons (pe_tup (pa_cons (pv 2) (pa_cons pe_int pa_nil))) pa_nil))))))))
    (pss_one (ps_ret (pv 1))))), ?_⟩
    intro d nd
    refine ⟨Nat.zero_le _, fun Z nZ => ?_⟩
    have ed0 : upd H d (.dK []) d = some (.dK []) := upd_same
    have ndZ : d ≠ Z := ne_of_none ed0 nZ
    have sZ : Same H (upd (upd H d (.dK [])) Z (.lst [])) := same_new (same_new (Same.refl H) nd) nZ
    have nZH : H Z = none := (same_new (o := .dK []) (Same.refl H) nd).free nZ
    refine ⟨by rw [upd_ne ndZ]; exact ed0, [(Sum.inl 0, .ref Z)], rfl, (by show 1 ≤ 15; decide), ?_⟩
    have e1 : mergeK [] [((Sum.inl 0 : Key), V.ref Z)] = [((Sum.inl 0 : Key), V.ref Z)] := rfl
    rw [e1]
    have sm0 : Same H (upd (upd (upd H d (.dK [])) Z (.lst [])) d (.dK [((Sum.inl 0 : Key), V.ref Z)])) := same_mine sZ nd
    have v0 : ∀ k : Int, valV [((Sum.inl 0 : Key), V.ref Z)] (Sum.inl k) = if k = 0 then some (.ref Z) else none := fun k => by
      by_cases h : k = 0
      · rw [if_pos h, h]
        rfl
      · rw [if_neg h, valV_neg (fun z => h (Sum.inl.inj z).symm)]
        rfl
    have D0 : DAtK H (upd (upd (upd H d (.dK [])) Z (.lst [])) d (.dK [((Sum.inl 0 : Key), V.ref Z)])) d [((Sum.inl 0 : Key), V.ref Z)] 1 (Keys []) (fun k => Wall k 0 []) := by
      refine ⟨upd_same, ⟨fun x hx => ?_, by simp⟩, Nat.le_refl _, fun k => ?_, fun _ _ => rfl, fun k v e => ?_, fun k k' v e e' => ?_⟩
      · simp only [List.mem_cons, List.not_mem_nil, or_false] at hx
        rw [hx]
        exact ⟨0, rfl⟩
      · rw [v0]
        constructor
        · rintro (h | ⟨L, hL, _⟩)
          · rw [if_pos h]
            exact ⟨_, rfl⟩
          · cases hL
        · rintro ⟨v, e⟩
          by_cases h : k = 0
          · exact .inl h
          · rw [if_neg h] at e
            cases e
      · rw [v0] at e
        by_cases h : k = 0
        · rw [if_pos h] at e
          cases e
          refine ⟨Z, [], rfl, nZH, ndZ.symm, ?_, TupsAt.nil⟩
          rw [upd_ne ndZ.symm]
          exact upd_same
        · rw [if_neg h] at e
          cases e
      · rw [v0] at e e'
        by_cases h : k = 0
        · by_cases h' : k' = 0
          · rw [h, h']
          · rw [if_neg h'] at e'
            cases e'
        · rw [if_neg h] at e
          cases e
    generalize upd (upd (upd H d (.dK [])) Z (.lst [])) d (.dK [((Sum.inl 0 : Key), V.ref Z)]) = H0 at sm0 D0
    refine ⟨_, rfl, a, _, rfl, SqT.of (sm0 _ _ ea), for_it (walk_enuT (xs := as.map V.ref)) (fun i σ' H' => ∃ (x2 x3 x4 x5 x6 : Option V) (kvs : List (Key × V)), σ' = [some (.ref a), some (.ref d), x2, x3, x4, x5, x6] ∧ Same H H' ∧ DAtK H H' d kvs (1 + 20 * i) (Keys (Ls.take i)) (fun k => Wall k 0 (Ls.take i))) ⟨_, _, _, _, _, _, rfl, sm0, D0⟩ (fun i σ' H' hi hm => ?_) (fun i x σ' H' H2 hi hm hy => ?_) (fun σ' H' hm => ?_)⟩
    · obtain ⟨x2, x3, x4, x5, x6, kvs, rfl, sm, _⟩ := hm
      exact SqT.of (sm _ _ ea)
    · obtain ⟨x2, x3, x4, x5, x6, kvs, rfl, sm, D⟩ := hm
      obtain ⟨c, y1, y2, rfl, nc, rfl, f1, f2⟩ := hy
      have ey : y1 = .int (i : Nat) := (Option.some.inj f1).symm
      subst ey
      obtain ⟨b, L, rfl, _, eL, hb⟩ := laid_get la f2
      have gL := hg L (List.mem_of_getElem? eL)
      have h10 := gL.1.2.1
      have hi60 : i < Ls.length := (List.getElem?_eq_some_iff.mp eL).1
      have e2 : Ls.take (i + 1) = Ls.take i ++ [L] := by
        rw [List.take_add_one, eL]
        rfl
      have s2 : Same H (upd H' c (.tup [.int (i : Nat), .ref b])) := same_new sm nc
      have D2 := D.new (o := .tup [.int (i : Nat), .ref b]) nc
      refine ⟨c, _, rfl, SqT.of upd_same, rfl, _, _, rfl, _, _, rfl, rfl, ?_⟩
      generalize upd H' c (.tup [.int (i : Nat), .ref b]) = H2 at s2 D2
      refine ⟨_, rfl, b, L, rfl, LaidAt.same s2 hb, h10, fun H3 o s3 no ⟨bs, eo, tb⟩ => ?_⟩
      have D3 := D2.same s3
      have s23 := s2.trans s3
      have hlb : bs.length = (partsOf L.le L.ps L.pl).length := by
        have := tb.1
        rw [List.length_map] at this
        exact this
      have hpl := part_len (le := L.le) L.ps L.pl
      have noH : H o = none := s2.free no
      refine ⟨o, rfl, ⟨_, SqL.of eo⟩, for_list (xs := bs.map V.ref) (fun j σ' H4 => ∃ (x4 x5 x6 : Option V) (kvs : List (Key × V)), σ' = [some (.ref a), some (.ref d), some (.int (i : Nat)), some (.ref b), x4, x5, x6] ∧ Same H H4 ∧ H4 o = some (.lst (bs.map V.ref)) ∧ TupsAt H4 bs ((partsOf L.le L.ps L.pl).map rowV) ∧ (∀ k v, valV kvs (Sum.inl k) = some v → v ≠ .ref o) ∧ DAtK H H4 d kvs (1 + 20 * i + 2 * j) (fun k => Keys (Ls.take i) k ∨ ∃ y ∈ (partsOf L.le L.ps L.pl).take j, y.1 = k ∨ y.2.1 = k) (fun k => Wall k 0 (Ls.take i) ++ (wr k ((partsOf L.le L.ps L.pl).take j)).map fun t => ((i : Int), t))) ⟨x4, x5, x6, kvs, rfl, s23, eo, tb, ?_, ?_⟩ (fun j σ' H4 hj hm => ?_) (fun j x σ' H4 hx hm => ?_) (fun σ' H4 hm => ?_)⟩
      · intro k v e z
        obtain ⟨q', as', z1, _, _, z4, _⟩ := D2.2.2.2.2.2.1 k v e
        rw [z] at z1
        cases z1
        rw [no] at z4
        cases z4
      · refine D3.congr (Nat.le_refl _) (fun k => ⟨.inl, fun h => h.elim id fun ⟨y, hy, _⟩ => by cases hy⟩) fun k => ?_
        show _ = _ ++ []
        rw [List.append_nil]
      · obtain ⟨x4, x5, x6, kvs, rfl, s4, eo4, _⟩ := hm
        exact SqL.of eo4
      · obtain ⟨x4, x5, x6, kvs, rfl, s4, eo4, tb4, nv, D4⟩ := hm
        obtain ⟨z, c1, c2, c3, rfl, et, ez⟩ := row_get tb4 hx
        have hse := (part_ok gL (List.mem_of_getElem? et)).1
        have hj10 : j < 10 := by
          have := (List.getElem?_eq_some_iff.mp hx).1
          rw [List.length_map] at this
          omega
        have e5 : (partsOf L.le L.ps L.pl).take (j + 1) = (partsOf L.le L.ps L.pl).take j ++ [(c1, c2, c3)] := by
          rw [List.take_add_one, et]
          rfl
        have wl : ∀ k, (Wall k 0 (Ls.take i) ++ (wr k ((partsOf L.le L.ps L.pl).take j)).map fun t => ((i : Int), t)).length ≤ 1500 := fun k => by
          have h1 := wall_len k (Ls.take i) 0 fun M hM => hg M (List.mem_of_mem_take hM)
          have h2 := wr_len k ((partsOf L.le L.ps L.pl).take j)
          rw [List.length_take] at h1 h2
          rw [List.length_append, List.length_map]
          omega
        refine ⟨z, _, rfl, SqT.of ez, rfl, _, _, rfl, _, _, rfl, _, _, rfl, rfl, ?_⟩
        refine ⟨fun σ' H6 => σ' = [some (.ref a), some (.ref d), some (.int (i : Nat)), some (.ref b), some (.int c1), some (.int c2), some (.int c3)] ∧ Aft H H4 d o (bs.map V.ref) (1 + 20 * i + 2 * j) (fun k => Keys (Ls.take i) k ∨ ∃ y ∈ (partsOf L.le L.ps L.pl).take j, y.1 = k ∨ y.2.1 = k) (fun k => Wall k 0 (Ls.take i) ++ (wr k ((partsOf L.le L.ps L.pl).take j)).map fun t => ((i : Int), t)) c1 ((i : Int), c3) H6, ?_, fun σ' H6 hm => ?_⟩
        · refine ⟨_, rfl, d, rfl, .inl ⟨_, .inl D4.1⟩, _, rfl, Nat.zero_le _, fun Z nZ => ⟨kvs, Sum.inl c1, (upd_ne (ne_of_none D4.1 nZ)).trans D4.1, rfl, small2000 (by have := D4.2.2.1; omega), fun v hv => ?_, fun hn => ?_⟩⟩
          · obtain ⟨q', qs, rfl, eq, hlen, aft⟩ := D4.found s4 eo4 nv nZ hv ((i : Int), c3)
            refine ⟨.inl ⟨rfl, _, SqL.of eq⟩, _, rfl, _, rfl, (by show 2 ≤ sizeLine; decide), fun R nR => ⟨q', _, _, rfl, rfl, (upd_ne (ne_of_none eq nR)).trans eq, ?_, rfl, aft R nR⟩⟩
            rw [List.length_map, hlen]
            exact small2000 (Nat.le_trans (wl c1) (by decide))
          · obtain ⟨eZ, aft⟩ := D4.fresh s4 nd eo4 nv nZ hn ((i : Int), c3)
            refine ⟨.inl ⟨rfl, _, SqL.of eZ⟩, _, rfl, _, rfl, (by show 2 ≤ sizeLine; decide), fun R nR => ⟨Z, _, _, rfl, rfl, (upd_ne (ne_of_none eZ nR)).trans eZ, Nat.zero_lt_succ _, rfl, aft R nR⟩⟩
        obtain ⟨rfl, kvs5, D5, s5, t5, eo5, nv5⟩ := hm
        have c21 : ¬ c2 = c1 := by
          have : c1 < c2 := hse
          omega
        have fin : ∀ H7, Aft H H6 d o (bs.map V.ref) (1 + 20 * i + 2 * j + 1) (fun x => (Keys (Ls.take i) x ∨ ∃ y ∈ (partsOf L.le L.ps L.pl).take j, y.1 = x ∨ y.2.1 = x) ∨ x = c1) (fun x => if x = c1 then (Wall c1 0 (Ls.take i) ++ (wr c1 ((partsOf L.le L.ps L.pl).take j)).map fun t => ((i : Int), t)) ++ [((i : Int), c3)] else Wall x 0 (Ls.take i) ++ (wr x ((partsOf L.le L.ps L.pl).take j)).map fun t => ((i : Int), t)) c2 ((i : Int), 0) H7 → ∃ (x4 x5 x6 : Option V) (kvs : List (Key × V)), [some (V.ref a), some (.ref d), some (.int (i : Nat)), some (.ref b), some (.int c1), some (.int c2), some (.int c3)] = [some (V.ref a), some (.ref d), some (.int (i : Nat)), some (.ref b), x4, x5, x6] ∧ Same H H7 ∧ H7 o = some (.lst (bs.map V.ref)) ∧ TupsAt H7 bs ((partsOf L.le L.ps L.pl).map rowV) ∧ (∀ k v, valV kvs (Sum.inl k) = some v → v ≠ .ref o) ∧ DAtK H H7 d kvs (1 + 20 * i + 2 * (j + 1)) (fun k => Keys (Ls.take i) k ∨ ∃ y ∈ (partsOf L.le L.ps L.pl).take (j + 1), y.1 = k ∨ y.2.1 = k) (fun k => Wall k 0 (Ls.take i) ++ (wr k ((partsOf L.le L.ps L.pl).take (j + 1))).map fun t => ((i : Int), t)) := fun H7 ⟨kvs7, D7, s7, t7, eo7, nv7⟩ => by
          refine ⟨_, _, _, kvs7, rfl, s7, eo7, (tb4.mono t5).mono t7, nv7, D7.congr (by omega) (fun k => ?_) fun k => ?_⟩
          · rw [e5]
            constructor
            · rintro (((h | ⟨y, hy, h⟩) | h) | h)
              · exact .inl h
              · exact .inr ⟨y, by simp [hy], h⟩
              · exact .inr ⟨(c1, c2, c3), by simp, .inl h.symm⟩
              · exact .inr ⟨(c1, c2, c3), by simp, .inr h.symm⟩
            · rintro (h | ⟨y, hy, h⟩)
              · exact .inl (.inl (.inl h))
              · rcases List.mem_append.mp hy with hy | hy
                · exact .inl (.inl (.inr ⟨y, hy, h⟩))
                · simp only [List.mem_cons, List.not_mem_nil, or_false] at hy
                  rw [hy] at h
                  rcases h with h | h
                  · exact .inl (.inr h.symm)
                  · exact .inr h.symm
          · rw [e5, wr_snoc, List.map_append, ← List.append_assoc]
            dsimp only
            by_cases h2 : k = c2
            · have h1 : ¬ k = c1 := fun z => c21 (h2.symm.trans z)
              have h1' : ¬ c2 = c1 := c21
              rw [if_pos h2, if_neg h1', if_neg (fun z => h1 z.symm), if_pos h2.symm, h2]
              rfl
            · rw [if_neg h2, if_neg (fun z => h2 z.symm : ¬ c2 = k), List.append_nil]
              by_cases h1 : k = c1
              · rw [if_pos h1, if_pos h1.symm, h1]
                rfl
              · rw [if_neg h1, if_neg (fun z => h1 z.symm : ¬ c1 = k)]
                show _ = _ ++ []
                rw [List.append_nil]
        refine ⟨_, rfl, d, rfl, .inl ⟨_, .inl D5.1⟩, _, rfl, Nat.zero_le _, fun Z nZ => ⟨kvs5, Sum.inl c2, (upd_ne (ne_of_none D5.1 nZ)).trans D5.1, rfl, small2000 (by have := D5.2.2.1; omega), fun v hv => ?_, fun hn => ?_⟩⟩
        · obtain ⟨q', qs, rfl, eq, hlen, aft⟩ := D5.found s5 eo5 nv5 nZ hv ((i : Int), 0)
          refine ⟨.inl ⟨rfl, _, SqL.of eq⟩, _, rfl, (by show 2 ≤ sizeLine; decide), fun R nR => ⟨q', _, _, rfl, rfl, (upd_ne (ne_of_none eq nR)).trans eq, ?_, fin _ (aft R nR)⟩⟩
          rw [List.length_map, hlen, if_neg c21]
          exact small2000 (Nat.le_trans (wl c2) (by decide))
        · obtain ⟨eZ, aft⟩ := D5.fresh s5 nd eo5 nv5 nZ hn ((i : Int), 0)
          exact ⟨.inl ⟨rfl, _, SqL.of eZ⟩, _, rfl, (by show 2 ≤ sizeLine; decide), fun R nR => ⟨Z, _, _, rfl, rfl, (upd_ne (ne_of_none eZ nR)).trans eZ, Nat.zero_lt_succ _, fin _ (aft R nR)⟩⟩
      · obtain ⟨x4, x5, x6, kvs, rfl, s4, eo4, tb4, nv, D4⟩ := hm
        refine ⟨_, _, _, _, _, kvs, rfl, s4, D4.congr ?_ (fun k => ?_) fun k => ?_⟩
        · rw [List.length_map]
          omega
        · rw [List.length_map, hlb, List.take_length, e2]
          unfold Keys
          constructor
          · rintro ((h | ⟨M, hM, h⟩) | h)
            · exact .inl h
            · exact .inr ⟨M, by simp [hM], h⟩
            · exact .inr ⟨L, by simp, h⟩
          · rintro (h | ⟨M, hM, h⟩)
            · exact .inl (.inl h)
            · rcases List.mem_append.mp hM with hM | hM
              · exact .inl (.inr ⟨M, hM, h⟩)
              · simp only [List.mem_cons, List.not_mem_nil, or_false] at hM
                rw [hM] at h
                exact .inr h
        · rw [List.length_map, hlb, List.take_length, e2, wall_snoc, List.length_take, Nat.min_eq_left (by omega), Nat.zero_add]
    · obtain ⟨x2, x3, x4, x5, x6, kvs, rfl, sm, D⟩ := hm
      rw [List.length_map, la.1, List.take_length] at D
      exact ⟨_, rfl, q _ d kvs sm nd (D.congr (by omega) (fun _ => Iff.rfl) fun _ => rfl)⟩
theorem ok_stretches {f fC fN fS : Addr} {fd fdC fdN fdS : FuncData} (F : Fun K "stretches" "stretches" s_stretches f fd) (bi : Bi mg) (C_changes_of : Cal P w K mg base "changes_of" P_changes_of 2 spChanges fC fdC) (C_numbers_of : Cal P w K mg base "numbers_of" P_numbers_of 1 spNumbers fN fdN)
    (C_sorts_of : Cal P w K mg base "sorts_of" P_sorts_of 1 spSorts fS fdS) : FnOk P w K mg base CX0 3 f fd P_stretches spStretches := by
  refine F.ok sc_stretches (fun vs H Q E h => ?_) (fun cdv A outer s H vs Q E hr h => ?_)
  · obtain ⟨a, Ls, rfl, _⟩ := h
    rfl
  · obtain ⟨a, Ls, rfl, hs, hl, hg, q⟩ := h
    have hu64 := hr.units
    refine ⟨_, (pss_cons (ps_set (i := 1) sc_stretches.nd rfl (.inl rfl) (pe_call (C_changes_of.G.mono (by decide)) hr (by rfl) C_changes_of.g C_changes_of.kp C_changes_of.b .nil pass0 (pa_cons (pv 0) pa_nil)))
    (pss_cons (ps_set (i := 2) sc_stretches.nd rfl (.inl rfl) (pe_callB (call_sortD rfl) (by rfl) bi.m_sorted (by decide +kernel) (pa_cons (pv 1) pa_nil)))
    (pss_cons (ps_set (i := 3) sc_stretches.nd rfl (.inl rfl) (pe_op op_rep (pe_lst (pa_cons pe_int pa_nil)) (pe_callB call_len_seq (by rfl) bi.m_len (by decide +kernel) (pa_cons (pv 0) pa_nil))))
    (pss_cons (ps_set (i := 4) sc_stretches.nd rfl (.inl rfl) (pe_lst pa_nil))
    (pss_cons (ps_for PassesOwn.never rfl (RZ.pi_zipA (by rfl) bi.m_zip (pa_cons (pv 2) (pa_cons (pe_slice sl_list (pv 2) (po_some pe_int) po_none) pa_nil))) (pg_tup rfl (pgs_cons (pg_name (i := 5) sc_stretches.nd rfl (.inl rfl)) (pgs_cons (pg_name (i := 6) sc_stretches.nd rfl (.inl rfl)) pgs_nil)))
      (pss_cons (ps_for PassesOwn.never rfl (pi_list (pe_dget (hu1 hu64) (pv 1) (pv 5) (fun _ _ => rfl))) (pg_tup rfl (pgs_cons (pg_name (i := 7) sc_stretches.nd rfl (.inl rfl)) (pgs_cons (pg_name (i := 8) sc_stretches.nd rfl (.inl rfl)) pgs_nil)))
          (pss_one (ps_asg (pv 8) (pg_sub (pv 3) (pv 7) set_list))))
        (pss_one (ps_expr (pe_bm PySem.F.plainAttrs_list PySem.F.slot_list_append PySem.F.type_list_append mt_append (pv 4) (pa_cons (pe_tup (pa_cons (pv 5) (pa_cons (pv 6) (pa_cons (pe_call (C_numbers_of.G.mono (by decide)) hr (by rfl) C_numbers_of.g C_numbers_of.kp C_numbers_of.b .nil pass0 (pa_cons (pv 3) pa_nil)) (pa_cons (pe_call (C_sorts_of.G.mono (by decide)) hr (by rfl) C_sorts_of.g C_sorts_of.kp C_sorts_of.b .nil pass0 (pa_cons (pv 0) (pa_cons (pv 3) pa_nil))) pa_nil))))) pa_nil))))))
    (pss_one (ps_ret (pe_callTy call_tuple_of (by rfl) bi.m_tuple (by decide +kernel) (pa_cons (pv 4) pa_nil))))))))), ?_⟩
    refine ⟨_, rfl, a, Ls, rfl, hs, hl, hg, fun H1 d kvs s1 nd D => ?_⟩
    obtain ⟨ks, e1, e2, e3, e4⟩ := keys_of D.2.1
    refine ⟨_, rfl, d, kvs, ks, rfl, D.1, e1, fun ys S hperm hsort nS => ?_⟩
    have hpl : Places Ls ys := ⟨sorted_strict hperm hsort e3, fun k => by rw [hperm.mem_iff, e4, ← D.2.2.2.1], by
      have h1 := hperm.length_eq
      have h2 := D.2.2.1
      omega⟩
    have sS : Same H1 (upd H1 S (.lst (ys.map V.int))) := same_new (Same.refl _) nS
    have eS : upd H1 S (.lst (ys.map V.int)) S = some (.lst (ys.map V.int)) := upd_same
    show tSeq _ _ _ _ (upd H1 S (.lst (ys.map V.int)))
    generalize upd H1 S (.lst (ys.map V.int)) = H2 at sS eS
    -- thicknesses
    obtain ⟨as, ea, la⟩ := id hs
    have ea2 := sS _ _ (s1 _ _ ea)
    refine ⟨(by show 1 ≤ sizeLine; decide), fun Z nZ => ?_⟩
    have sZ : Same H2 (upd H2 Z (.lst [.int 0])) := same_new (Same.refl _) nZ
    refine ⟨_, rfl, a, _, rfl, .inr (SqT.of (sZ _ _ ea2)), Z, _, _, rfl, rfl, upd_same, by omega, ?_, ?_, fun t nt => ?_⟩
    · rw [List.length_map, la.1]
      omega
    · rw [List.length_map, la.1]
      show 1 * ((Ls.length : Int)).toNat ≤ sizeLine
      rw [Int.toNat_natCast, Nat.one_mul]
      exact Nat.le_of_lt (small1000 (by omega))
    have ez : (List.replicate ((as.map V.ref).length : Int).toNat [V.int 0]).flatten = (Ls.map fun L => thickL L (prevOf ys 0)).map V.int := by
      rw [List.length_map, la.1, Int.toNat_natCast]
      show _ = (Ls.map fun L => thickL L (-1)).map V.int
      clear la ea2 ea hs hl D hpl q
      induction Ls with
      | nil => rfl
      | cons L r ih =>
        show [V.int 0] ++ (List.replicate r.length [V.int 0]).flatten = V.int (thickL L (-1)) :: _
        rw [ih fun M hM => hg M (by simp [hM]), thick_ahead (hg L (by simp))]
        rfl
    rw [ez]
    have st : Same H2 (upd (upd H2 Z (.lst [.int 0])) t (.lst ((Ls.map fun L => thickL L (prevOf ys 0)).map V.int))) := same_new sZ nt
    have et : upd (upd H2 Z (.lst [.int 0])) t (.lst ((Ls.map fun L => thickL L (prevOf ys 0)).map V.int)) t = some (.lst ((Ls.map fun L => thickL L (prevOf ys 0)).map V.int)) := upd_same
    have nt2 : H2 t = none := sZ.free nt
    show tSeq _ _ _ _ (upd (upd H2 Z (.lst [.int 0])) t (.lst ((Ls.map fun L => thickL L (prevOf ys 0)).map V.int)))
    generalize upd (upd H2 Z (.lst [.int 0])) t (.lst ((Ls.map fun L => thickL L (prevOf ys 0)).map V.int)) = H3 at st et
    -- told
    refine ⟨Nat.zero_le _, fun R nR => ?_⟩
    have nR2 : H2 R = none := st.free nR
    have tR : t ≠ R := ne_of_none et nR
    have sR : Same H2 (upd H3 R (.lst [])) := same_new st nR
    have eR : upd H3 R (.lst []) R = some (.lst []) := upd_same
    have etR : upd H3 R (.lst []) t = some (.lst ((Ls.map fun L => thickL L (prevOf ys 0)).map V.int)) := (upd_ne tR).trans et
    show tSeq _ _ _ _ (upd H3 R (.lst []))
    generalize upd H3 R (.lst []) = H4 at sR eR etR
    -- the walk
    have D2 := D.same sS
    obtain ⟨r0, er0⟩ := places_zero hg hpl
    refine ⟨_, rfl, _, rfl, _, rfl, S, ys.map V.int, rfl, SqL.of (sR _ _ eS), fun U nU => ?_⟩
    have eU : cutV (ys.map V.int) (some 1) none = (ys.drop 1).map V.int := by
      have h := cut_drop (ys.map V.int) 1 (by rw [List.length_map, er0]; exact Nat.succ_le_succ (Nat.zero_le _))
      rw [List.map_drop]
      exact h
    rw [eU]
    have sU : Same H2 (upd H4 U (.lst ((ys.drop 1).map V.int))) := same_new sR nU
    have nU2 : H2 U = none := sR.free nU
    have RU : R ≠ U := ne_of_none eR nU
    have tU : t ≠ U := ne_of_none etR nU
    have eU5 : upd H4 U (.lst ((ys.drop 1).map V.int)) U = some (.lst ((ys.drop 1).map V.int)) := upd_same
    have eR5 : upd H4 U (.lst ((ys.drop 1).map V.int)) R = some (.lst []) := (upd_ne RU).trans eR
    have et5 : upd H4 U (.lst ((ys.drop 1).map V.int)) t = some (.lst ((Ls.map fun L => thickL L (prevOf ys 0)).map V.int)) := (upd_ne tU).trans etR
    refine ⟨S, U, _, _, rfl, .inl ⟨SqL.of (sU _ _ eS), SqL.of eU5, ?_⟩⟩
    generalize upd H4 U (.lst ((ys.drop 1).map V.int)) = H5 at sU eU5 eR5 et5
    have hlen : min (ys.map V.int).length ((ys.drop 1).map V.int).length = (pairs ys).length := by
      rw [List.length_map, List.length_map, List.length_zip]
    have hpr : (pairs ys).length ≤ 1300 := by
      have := hpl.2.2
      rw [List.length_zip]
      omega
    refine for_it (walk_zip (xs := ys.map V.int) (ys := (ys.drop 1).map V.int) hlen.symm) (fun i σ' H' => ∃ (x5 x6 x7 x8 : Option V) (rs : List Addr), σ' = [some (.ref a), some (.ref d), some (.ref S), some (.ref t), some (.ref R), x5, x6, x7, x8] ∧ Same H2 H' ∧ H' U = some (.lst ((ys.drop 1).map V.int)) ∧ H' t = some (.lst ((Ls.map fun L => thickL L (prevOf ys i)).map V.int)) ∧ H' R = some (.lst (rs.map V.ref)) ∧ SegsAt H' rs Ls ((pairs ys).take i)) ⟨_, _, _, _, [], rfl, sU, eU5, et5, eR5, SegsAt.nil⟩ (fun i σ' H' hi hm => ?_) (fun i x σ' H' Hb hi hm hy => ?_) (fun σ' H' hm => ?_)
    · obtain ⟨x5, x6, x7, x8, rs, rfl, sm, eU', _⟩ := hm
      exact ⟨SqL.of (sm _ _ eS), SqL.of eU'⟩
    · obtain ⟨x5, x6, x7, x8, rs, rfl, sm, eU', et', eR', sg⟩ := hm
      obtain ⟨c, y1, y2, rfl, nc, rfl, f1, f2⟩ := hy
      obtain ⟨st', rfl, ek1⟩ := int_get f1
      obtain ⟨en', rfl, ek2⟩ := int_get f2
      have sc : Same H2 (upd H' c (.tup [.int st', .int en'])) := same_new sm nc
      refine ⟨c, _, rfl, SqT.of upd_same, rfl, _, _, rfl, _, _, rfl, rfl, ?_⟩
      have eUc : upd H' c (.tup [.int st', .int en']) U = some (.lst ((ys.drop 1).map V.int)) := (upd_ne (ne_of_none eU' nc)).trans eU'
      have etc : upd H' c (.tup [.int st', .int en']) t = some (.lst ((Ls.map fun L => thickL L (prevOf ys i)).map V.int)) := (upd_ne (ne_of_none et' nc)).trans et'
      have eRc : upd H' c (.tup [.int st', .int en']) R = some (.lst (rs.map V.ref)) := (upd_ne (ne_of_none eR' nc)).trans eR'
      have sgc := sg.mono (Tups.new (o := .tup [.int st', .int en']) nc)
      generalize upd H' c (.tup [.int st', .int en']) = H6 at sc eUc etc eRc sgc
      -- changes[start]
      have hst : Keys Ls st' := (hpl.2.1 st').mp (List.mem_of_getElem? ek1)
      obtain ⟨v, hv⟩ := (D2.2.2.2.1 st').mp hst
      have D6 := D2.same sc
      obtain ⟨qa, qs, rfl, nqH, qd, elq, etq⟩ := D2.2.2.2.2.2.1 st' v hv
      have ql : qs.length = (Wall st' 0 Ls).length := by rw [etq.1, List.length_map]
      have nqt : qa ≠ t := fun e => by
        have z := sS
        rw [e] at elq
        rw [nt2] at elq
        cases elq
      have nqR : qa ≠ R := fun e => by
        rw [e, nR2] at elq
        cases elq
      have dg : DGet H6 d (.int st') (some (.ref qa)) := by
        have z := DGet.k (k := Sum.inl st') D6.1
        rw [hv] at z
        exact z
      refine ⟨_, rfl, _, rfl, d, _, rfl, dg, qa, rfl, ⟨_, SqL.of (sc _ _ elq)⟩, ?_⟩
      have hjk := prev_lt hg hpl ek1
      have stp := places_step hg hpl hjk.1 hjk.2
      refine for_list (xs := qs.map V.ref) (fun j σ' H7 => ∃ (x7 x8 : Option V), σ' = [some (.ref a), some (.ref d), some (.ref S), some (.ref t), some (.ref R), some (.int st'), some (.int en'), x7, x8] ∧ Same H2 H7 ∧ H7 U = some (.lst ((ys.drop 1).map V.int)) ∧ H7 t = some (.lst ((wrt (Ls.map fun L => thickL L (prevOf ys i)) ((Wall st' 0 Ls).take j)).map V.int)) ∧ H7 R = some (.lst (rs.map V.ref)) ∧ SegsAt H7 rs Ls ((pairs ys).take i)) ⟨_, _, rfl, sc, eUc, etc, eRc, sgc⟩ (fun j σ' H7 hj hm => ?_) (fun j x σ' H7 hx hm => ?_) (fun σ' H7 hm => ?_)
      · obtain ⟨x7, x8, rfl, s7, _⟩ := hm
        exact SqL.of (s7 _ _ elq)
      · obtain ⟨x7, x8, rfl, s7, eU7, et7, eR7, sg7⟩ := hm
        obtain ⟨z, n, th, rfl, ew, ez⟩ := step_get etq hx
        obtain ⟨m, hm, rfl⟩ := wall_num st' Ls 0 (n, th) (List.mem_of_getElem? ew)
        refine ⟨z, _, rfl, SqT.of (s7 _ _ ez), rfl, _, _, rfl, _, _, rfl, rfl, ?_⟩
        refine ⟨_, rfl, _, rfl, _, rfl, t, _, _, m, rfl, rfl, et7, ?_, ?_⟩
        · rw [List.length_map, wrt_len, List.length_map]
          exact ixN_at (by omega)
        refine ⟨_, _, rfl, same_mine s7 nt2, ?_, ?_, ?_, sg7.mono (Tups.ls et7)⟩
        · rw [upd_ne tU.symm]
          exact eU7
        · rw [upd_same, List.take_add_one, ew, Option.toList_some, wrt_snoc, Int.toNat_natCast, List.map_set]
        · rw [upd_ne tR.symm]
          exact eR7
      obtain ⟨x7, x8, rfl, s7, eU7, et7, eR7, sg7⟩ := hm
      rw [List.length_map, ql, List.take_length] at et7
      have wa := wrt_all st' (prevOf ys i) Ls [] 0 rfl stp
      rw [List.nil_append, List.nil_append] at wa
      rw [wa] at et7
      refine ⟨_, rfl, .inl ⟨rfl, _, SqL.of eR7⟩, _, rfl, _, rfl, _, rfl, t, _, rfl, et7, (by rw [List.length_map]; exact hl), fun H8 n s8 nn en => ?_⟩
      have hs8 : StrandAt H8 a Ls := hs.mono (Tups.same (((s1.trans sS).trans s7).trans s8))
      refine ⟨_, rfl, _, rfl, a, t, Ls, st', rfl, hs8, s8 _ _ et7, hg, fun H9 u s9 nu eu => ?_⟩
      refine ⟨(by show 4 ≤ sizeLine; decide), fun z nz => ?_⟩
      have s89 := s8.trans s9
      have eR9 := s89 _ _ eR7
      have eRz : upd H9 z (.tup [.int st', .int en', .ref n, .ref u]) R = some (.lst (rs.map V.ref)) := (upd_ne (ne_of_none eR9 nz)).trans eR9
      have hrs : rs.length ≤ 1300 := by
        have := sg7.1
        rw [List.length_take] at this
        omega
      refine ⟨R, _, _, rfl, rfl, eRz, ?_, ?_⟩
      · rw [List.length_map]
        exact small2000 (by omega)
      have sz : Same H2 (upd H9 z (.tup [.int st', .int en', .ref n, .ref u])) := same_new (s7.trans s89) nz
      have sg9 := (sg7.mono (Tups.same s89)).mono (Tups.new (o := .tup [.int st', .int en', .ref n, .ref u]) nz)
      have gz : SegAt (upd H9 z (.tup [.int st', .int en', .ref n, .ref u])) z Ls st' en' := ⟨n, u, upd_same, by
        have := s9 _ _ en
        rw [upd_ne (ne_of_none this nz)]
        exact this, by
        rw [upd_ne (ne_of_none eu nz)]
        exact eu⟩
      refine ⟨_, _, _, _, rs ++ [z], rfl, same_mine sz nR2, ?_, ?_, ?_, ?_⟩
      · have h1 := s89 _ _ eU7
        rw [upd_ne RU.symm, upd_ne (ne_of_none h1 nz)]
        exact h1
      · have h1 := s89 _ _ et7
        rw [upd_ne tR, upd_ne (ne_of_none h1 nz), h1, prev_succ ek1]
      · rw [upd_same, List.map_append]
        rfl
      · rw [pairs_take ek1 ek2]
        exact (sg9.snoc gz).mono (Tups.ls eRz)
    · obtain ⟨x5, x6, x7, x8, rs, rfl, sm, eU', et', eR', sg⟩ := hm
      rw [List.take_length] at sg
      refine ⟨_, rfl, R, _, rfl, .inl ⟨SqL.of eR', fun o no => ?_⟩⟩
      have so : Same H2 (upd H' o (.tup (rs.map V.ref))) := same_new sm no
      exact q _ o rs ys ((s1.trans sS).trans so) ((s1.trans sS).free (sm.free no)) upd_same (sg.mono (Tups.new no)) hpl
theorem ok_levels_between {fS fE f : Addr} {fdS fdE fd : FuncData} (F : Fun K "levels_between" "levels_between" s_levels_between f fd) (bi : Bi mg) (C_stretches : Cal P w K mg base "stretches" P_stretches 3 spStretches fS fdS) (C_end_of : Cal P w K mg base "end_of" P_end_of 2 spEnd fE fdE) : FnOk P w K mg base CX0 4 f fd P_levels_between spLevelsB := by
  refine F.ok sc_levels_between (fun vs H Q E h => ?_) (fun cdv A outer s H vs Q E hr h => ?_)
  · obtain ⟨c, Ls, a, b, rfl, _⟩ := h
    rfl
  · obtain ⟨c, Ls, a, b, rfl, hs, hl, hg, a0, q⟩ := h
    refine ⟨_, (pss_cons (ps_setLc (i := 3) (own := [("start", 5), ("end", 6), ("numbers", 7), ("sorts", 8)]) (g := (gTup K 4 (gCons (gName 5) (gCons (gName 6) (gCons (gName 7) (gCons (gName 8) gNil)))))) (tt := tYes) (te := (tTup (tCons (tVar 5) (tCons (tVar 6) (tCons (tCB (fun vs H Q => ∃ (a : Addr) (ns : List Int), vs = [V.ref a] ∧ SqT K H a (ns.map V.int) ∧ Q (.int ns.sum) H) (tCons (tVar 8) tNil)) tNil))))) rfl sc_levels_between.nd rfl rfl (sw_true rfl rfl rfl (by decide +kernel)) (pi_tup (pe_call (C_stretches.G.mono (by decide)) hr (by rfl) C_stretches.g C_stretches.kp C_stretches.b .nil pass0 (pa_cons (pv 0) pa_nil))) (blkOk_by (N := N_levels_between) (sc := defScope s_levels_between) (by decide +kernel)) (fun _ _ _ _ _ => (pg_tup rfl (pgs_cons (pg_name (i := 5) sc_levels_between.nd rfl (.inl rfl) (.inr rfl)) (pgs_cons (pg_name (i := 6) sc_levels_between.nd rfl (.inl rfl) (.inr rfl)) (pgs_cons (pg_name (i := 7) sc_levels_between.nd rfl (.inl rfl) (.inr rfl)) (pgs_cons (pg_name (i := 8) sc_levels_between.nd rfl (.inl rfl) (.inr rfl)) pgs_nil)))))) (fun _ _ _ _ _ => pts_nil) (fun _ _ _ _ _ => (pe_tup (pa_cons (pv 5) (pa_cons (pv 6) (pa_cons (pe_callB (cr_sumT rfl) (by rfl) bi.m_sum (by decide +kernel) (pa_cons (pv 8) pa_nil)) pa_nil))))))
    (pss_cons (ps_expr (pe_bm PySem.F.plainAttrs_list PySem.F.slot_list_append PySem.F.type_list_append mt_append (pv 3) (pa_cons (pe_tup (pa_cons (pe_call (C_end_of.G.mono (by decide)) hr (by rfl) C_end_of.g C_end_of.kp C_end_of.b .nil pass0 (pa_cons (pv 0) pa_nil)) (pa_cons (pv 2) (pa_cons pe_int pa_nil)))) pa_nil)))
    (pss_cons (ps_setLc (i := 4) (own := [("start", 5), ("end", 6), ("thickness", 9)]) (g := (gTup K 3 (gCons (gName 5) (gCons (gName 6) (gCons (gName 9) gNil))))) (tt := tYes) rfl sc_levels_between.nd rfl rfl (sw_true rfl rfl rfl (by decide +kernel)) (pi_list (pv 3)) (blkOk_by (N := N_levels_between) (sc := defScope s_levels_between) (by decide +kernel)) (fun _ _ _ _ _ => (pg_tup rfl (pgs_cons (pg_name (i := 5) sc_levels_between.nd rfl (.inl rfl) (.inr rfl)) (pgs_cons (pg_name (i := 6) sc_levels_between.nd rfl (.inl rfl) (.inr rfl)) (pgs_cons (pg_name (i := 9) sc_levels_between.nd rfl (.inl rfl) (.inr rfl)) pgs_nil))))) (fun _ _ _ _ _ => pts_nil) (fun _ _ _ _ _ => (pe_tup (pa_cons (pe_callB (call_max2 rfl) (by rfl) bi.m_max (by decide +kernel) (pa_cons (pv 5) (pa_cons (pv 1) pa_nil))) (pa_cons (pe_callB (call_min2 rfl) (by rfl) bi.m_min (by decide +kernel) (pa_cons (pv 6) (pa_cons (pv 2) pa_nil))) (pa_cons (pv 9) pa_nil))))))
    (pss_one (ps_ret (pe_lc (own := [("level", 10)]) (g := (gName 10)) (tt := (tTest (tOp (rI0 fun i j => V.bl (decide (i < j))) (tOp (rIxT K) (tVar 10) (tC (.int 0))) (tOp (rIxT K) (tVar 10) (tC (.int 1)))))) rfl sc_levels_between.nd (pi_list (pv 4)) (blkOk_by (N := N_levels_between) (sc := defScope s_levels_between) (by decide +kernel)) (fun _ _ _ _ _ => (pg_name (i := 10) sc_levels_between.nd rfl (.inl rfl) (.inr rfl))) (fun _ _ _ _ _ => (pts_one (pt_cmpR op_lt (pe_ix ix_tup (pv 10) pe_int (fun _ _ => rfl)) (pe_ix ix_tup (pv 10) pe_int (fun _ _ => rfl)) (nomark _)))) (fun _ _ _ _ _ => (pv 10)))))))), ?_⟩
    refine ⟨_, rfl, c, Ls, rfl, hs, hl, hg, fun H1 o as ys s1 no eo sg hpl => ⟨o, rfl, ⟨_, SqT.of eo⟩, fun D nD => ?_⟩⟩
    have hal : as.length = (pairs ys).length := sg.1
    have hpl' : (pairs ys).length ≤ 1300 := by
      have := hpl.2.2
      rw [List.length_zip]
      omega
    refine lc_tup (xs := as.map V.ref) (fun i H' => Same H1 H' ∧ ∃ cs : List Addr, H' D = some (.lst (cs.map V.ref)) ∧ TupsAt H' cs ((((pairs ys).take i).map fun p => (p.1, p.2, thickS Ls p.1)).map rowV)) ⟨same_new (Same.refl _) nD, [], upd_same, TupsAt.nil⟩ (fun i H' hi hm => SqT.of (hm.1 _ _ eo)) (fun i x H' hx hm => ?_) (fun H' hm => ?_)
    · obtain ⟨sm, cs, eD, tc⟩ := hm
      obtain ⟨y, rfl, ey⟩ := ref_get hx
      obtain ⟨st, en, ep, n, t, h1, h2, h3⟩ := sg.2 i y ey
      have hi : i < (pairs ys).length := (List.getElem?_eq_some_iff.mp ep).1
      have hcl : cs.length ≤ 1300 := by
        rw [tc.1, List.length_map, List.length_map, List.length_take]
        omega
      refine ⟨y, _, rfl, SqT.of (sm _ _ h1), rfl, _, _, rfl, _, _, rfl, _, _, rfl, _, _, rfl, rfl, rfl, yesIte ?_⟩
      refine ⟨_, rfl, _, rfl, _, rfl, t, [s0 Ls st, My.s1 Ls st], rfl, SqT.of (sm _ _ h3), ?_⟩
      have fs : [s0 Ls st, My.s1 Ls st].sum = thickS Ls st := by
        rw [← s01]
        simp only [List.sum_cons, List.sum_nil, Int.add_zero]
      rw [fs]
      refine ⟨(by show 3 ≤ sizeLine; decide), fun z nz => ?_⟩
      have eDz : upd H' z (.tup [.int st, .int en, .int (thickS Ls st)]) D = some (.lst (cs.map V.ref)) := (upd_ne (ne_of_none eD nz)).trans eD
      refine ⟨_, eDz, (by rw [List.length_map, sizeLine_eq]; omega), same_mine (same_new sm nz) nD, cs ++ [z], ?_, ?_⟩
      · rw [upd_same, List.map_append]
        rfl
      · rw [List.take_add_one, ep]
        show TupsAt _ (cs ++ [z]) ((((pairs ys).take i ++ [(st, en)]).map fun p => (p.1, p.2, thickS Ls p.1)).map rowV)
        rw [List.map_append, List.map_append]
        exact ((tc.mono (Tups.new nz)).snoc upd_same).mono (Tups.ls eDz)
    · obtain ⟨sm, cs, eD, tc⟩ := hm
      rw [List.length_map, hal, List.take_length] at tc
      have s1m := s1.trans sm
      have nDH : H D = none := s1.free nD
      -- behind the end
      refine ⟨_, rfl, .inl ⟨rfl, _, SqL.of eD⟩, _, rfl, c, Ls, rfl, hs.mono (Tups.same s1m), hl, hg, fun H2 m s2 hend => ⟨_, rfl, (by show 3 ≤ sizeLine; decide), fun z nz => ?_⟩⟩
      have eD2 := s2 _ _ eD
      have eDz : upd H2 z (.tup [.int m, .int b, .int 0]) D = some (.lst (cs.map V.ref)) := (upd_ne (ne_of_none eD2 nz)).trans eD2
      have hcl : cs.length ≤ 1300 := by
        rw [tc.1, List.length_map, List.length_map]
        exact hpl'
      refine ⟨D, _, _, rfl, rfl, eDz, (by rw [List.length_map, sizeLine_eq]; omega), ?_⟩
      generalize hts : ((pairs ys).map fun p => (p.1, p.2, thickS Ls p.1)) = ts at tc
      have tc3 : TupsAt (upd (upd H2 z (.tup [.int m, .int b, .int 0])) D (.lst (cs.map V.ref ++ [.ref z]))) (cs ++ [z]) ((ts ++ [(m, b, 0)]).map rowV) := by
        rw [List.map_append]
        exact (((tc.mono (Tups.same s2)).mono (Tups.new nz)).snoc upd_same).mono (Tups.ls eDz)
      have s3 : Same H (upd (upd H2 z (.tup [.int m, .int b, .int 0])) D (.lst (cs.map V.ref ++ [.ref z]))) := same_mine (same_new (s1m.trans s2) nz) nDH
      have eD3 : (upd (upd H2 z (.tup [.int m, .int b, .int 0])) D (.lst (cs.map V.ref ++ [.ref z]))) D = some (.lst ((cs ++ [z]).map V.ref)) := by
        rw [List.map_append]
        exact upd_same
      generalize upd (upd H2 z (.tup [.int m, .int b, .int 0])) D (.lst (cs.map V.ref ++ [.ref z])) = H3 at tc3 s3 eD3
      generalize hc1 : cs ++ [z] = cs1 at tc3 eD3
      have tl : Tiles Ls (mxI 0 a) b (clipT a b (ts ++ [(m, b, 0)])) := by
        refine tiles_of (fun q hq => thickS_over hg fun L hL => Int.le_trans (hend.2.2 L hL) hq) ts 0 ?_
        rw [← hts]
        exact segs_places hg hpl hend
      have m0 : mxI 0 a = a := by
        show (if a > 0 then a else 0) = a
        split <;> omega
      rw [m0] at tl
      have hcl1 : cs1.length ≤ 1301 := by
        rw [← hc1, List.length_append]
        show cs.length + 1 ≤ _
        omega
      generalize ts ++ [(m, b, 0)] = us at tc3 tl
      -- clipped
      refine ⟨_, rfl, D, rfl, ⟨_, SqL.of eD3⟩, fun D2 nD2 => ?_⟩
      refine lc_list (xs := cs1.map V.ref) (fun i H' => Same H3 H' ∧ ∃ ds : List Addr, H' D2 = some (.lst (ds.map V.ref)) ∧ TupsAt H' ds (((us.take i).map fun t => (mxI t.1 a, mnI t.2.1 b, t.2.2)).map rowV)) ⟨same_new (Same.refl _) nD2, [], upd_same, TupsAt.nil⟩ (fun i H' hi hm => SqL.of (hm.1 _ _ eD3)) (fun i x H' hx hm => ?_) (fun H' hm => ?_)
      · obtain ⟨sm, ds, eD2, td⟩ := hm
        obtain ⟨y, st, en, th, rfl, eu, ey⟩ := tri_get tc3 hx
        have hi : i < us.length := (List.getElem?_eq_some_iff.mp eu).1
        have hul : us.length ≤ 1301 := by
          have := tc3.1
          rw [List.length_map] at this
          omega
        have hdl : ds.length ≤ 1301 := by
          rw [td.1, List.length_map, List.length_map, List.length_take]
          omega
        refine ⟨y, _, rfl, SqT.of (sm _ _ ey), rfl, _, _, rfl, _, _, rfl, _, _, rfl, rfl, rfl, yesIte ?_⟩
        refine ⟨_, rfl, _, rfl, _, _, rfl, _, rfl, _, rfl, _, _, rfl, _, rfl, (by show 3 ≤ sizeLine; decide), fun z nz => ?_⟩
        have eDz : upd H' z (.tup [.int (mxI st a), .int (mnI en b), .int th]) D2 = some (.lst (ds.map V.ref)) := (upd_ne (ne_of_none eD2 nz)).trans eD2
        refine ⟨_, eDz, (by rw [List.length_map, sizeLine_eq]; omega), same_mine (same_new sm nz) nD2, ds ++ [z], ?_, ?_⟩
        · rw [upd_same, List.map_append]
          rfl
        · rw [List.take_add_one, eu]
          show TupsAt _ (ds ++ [z]) (((us.take i ++ [(st, en, th)]).map fun t => (mxI t.1 a, mnI t.2.1 b, t.2.2)).map rowV)
          rw [List.map_append, List.map_append]
          exact ((td.mono (Tups.new nz)).snoc upd_same).mono (Tups.ls eDz)
      · obtain ⟨sm, ds, eD2, td⟩ := hm
        have hus : (cs1.map V.ref).length = us.length := by
          have := tc3.1
          rw [List.length_map] at this
          rw [List.length_map]
          exact this
        rw [hus, List.take_length] at td
        have hul : us.length ≤ 1301 := by
          rw [List.length_map] at hus
          omega
        have e4 : clipT a b us = (us.map fun t => (mxI t.1 a, mnI t.2.1 b, t.2.2)).filter fun t => decide (t.1 < t.2.1) := rfl
        rw [e4] at tl
        have hvl : (us.map fun t => (mxI t.1 a, mnI t.2.1 b, t.2.2)).length ≤ 1301 := by
          rw [List.length_map]
          exact hul
        generalize (us.map fun t => (mxI t.1 a, mnI t.2.1 b, t.2.2)) = vs at td tl hvl
        refine ⟨_, rfl, D2, rfl, ⟨_, SqL.of eD2⟩, fun D3 nD3 => ?_⟩
        refine lc_list (xs := ds.map V.ref) (fun i H4 => Same H' H4 ∧ ∃ es : List Addr, H4 D3 = some (.lst (es.map V.ref)) ∧ TupsAt H4 es (((vs.take i).filter fun t => decide (t.1 < t.2.1)).map rowV)) ⟨same_new (Same.refl _) nD3, [], upd_same, TupsAt.nil⟩ (fun i H4 hi hm => SqL.of (hm.1 _ _ eD2)) (fun i x H4 hx hm => ?_) (fun H4 hm => ?_)
        · obtain ⟨sm4, es, eD3, te⟩ := hm
          obtain ⟨y, st, en, th, rfl, ev, ey⟩ := tri_get td hx
          have hel : es.length ≤ 1301 := by
            rw [te.1, List.length_map]
            refine Nat.le_trans (List.length_filter_le _ _) ?_
            rw [List.length_take]
            omega
          have ey4 := sm4 _ _ ey
          refine ⟨rfl, ?_⟩
          refine ⟨_, rfl, y, _, 0, _, rfl, rfl, SqT.of ey4, atI_nat (j := 0) rfl, _, rfl, y, _, 1, _, rfl, rfl, SqT.of ey4, atI_nat (j := 1) rfl, _, _, rfl, rfl, _, rfl, ite2 (fun e => ?_) (fun e => ?_)⟩
          · refine ⟨_, rfl, _, eD3, (by rw [List.length_map, sizeLine_eq]; omega), same_mine sm4 nD3, es ++ [y], ?_, ?_⟩
            · rw [upd_same, List.map_append]
              rfl
            · rw [List.take_add_one, ev]
              show TupsAt _ (es ++ [y]) (((vs.take i ++ [(st, en, th)]).filter fun t => decide (t.1 < t.2.1)).map rowV)
              rw [List.filter_append, List.filter_cons, if_pos e, List.map_append]
              exact (te.snoc ey4).mono (Tups.ls eD3)
          · refine ⟨sm4, es, eD3, ?_⟩
            rw [List.take_add_one, ev]
            show TupsAt _ es (((vs.take i ++ [(st, en, th)]).filter fun t => decide (t.1 < t.2.1)).map rowV)
            rw [List.filter_append, List.filter_cons, if_neg e]
            rw [List.filter_nil, List.append_nil]
            exact te
        · obtain ⟨sm4, es, eD3, te⟩ := hm
          have hdv : (ds.map V.ref).length = vs.length := by
            have := td.1
            rw [List.length_map] at this
            rw [List.length_map]
            exact this
          rw [hdv, List.take_length] at te
          exact q _ D3 _ (s3.trans (sm.trans sm4)) ((s3.trans sm).free nD3) ⟨es, eD3, te⟩ tl (Nat.le_trans (List.length_filter_le _ _) hvl)
theorem ok_thinnest {fL f : Addr} {fdL fd : FuncData} (F : Fun K "thinnest" "thinnest" s_thinnest f fd) (bi : Bi mg) (C_levels_between : Cal P w K mg base "levels_between" P_levels_between 4 spLevelsB fL fdL) : FnOk P w K mg base CX0 5 f fd P_thinnest (spExtr 1) := by
  refine F.ok sc_thinnest (fun vs H Q E h => ?_) (fun cdv A outer s H vs Q E hr h => ?_)
  · obtain ⟨c, Ls, a, b, rfl, _⟩ := h
    rfl
  · obtain ⟨c, Ls, a, b, rfl, hs, hl, hg, a0, ab, q⟩ := h
    have hu64 := hr.units
    refine ⟨_, (pss_cons (ps_set (i := 3) sc_thinnest.nd rfl (.inl rfl) (pe_call (C_levels_between.G.mono (by decide)) hr (by rfl) C_levels_between.g C_levels_between.kp C_levels_between.b .nil pass0 (pa_cons (pv 0) (pa_cons (pv 1) (pa_cons (pv 2) pa_nil)))))
    (pss_one (ps_ret (pe_callBK (call_minP rfl hu64) (by rfl) bi.m_min (by decide +kernel) (pa_cons (pe_lc (own := [("start", 4), ("end", 5), ("thickness", 6)]) (g := (gTup K 3 (gCons (gName 4) (gCons (gName 5) (gCons (gName 6) gNil))))) (tt := tYes) rfl sc_thinnest.nd (pi_list (pv 3)) (blkOk_by (N := N_thinnest) (sc := defScope s_thinnest) (by decide +kernel)) (fun _ _ _ _ _ => (pg_tup rfl (pgs_cons (pg_name (i := 4) sc_thinnest.nd rfl (.inl rfl) (.inr rfl)) (pgs_cons (pg_name (i := 5) sc_thinnest.nd rfl (.inl rfl) (.inr rfl)) (pgs_cons (pg_name (i := 6) sc_thinnest.nd rfl (.inl rfl) (.inr rfl)) pgs_nil))))) (fun _ _ _ _ _ => pts_nil) (fun _ _ _ _ _ => (pe_tup (pa_cons (pv 6) (pa_cons (pv 4) pa_nil))))) pa_nil) (pk_cons pe_non pk_nil))))), ?_⟩
    refine ⟨_, rfl, _, rfl, _, rfl, c, Ls, a, b, rfl, hs, hl, hg, a0, fun H1 o ts s1 no ⟨as, eo, tt⟩ tl lt => ?_⟩
    have hlen : as.length = ts.length := by rw [tt.1, List.length_map]
    refine ⟨_, rfl, o, rfl, ⟨_, SqL.of eo⟩, fun D nD => ?_⟩
    refine lc_list (xs := as.map V.ref) (fun i H' => Same H1 H' ∧ ∃ cs : List Addr, H' D = some (.lst (cs.map V.ref)) ∧ TupsAt H' cs (((ts.take i).map fun y => (y.2.2, y.1)).map stepV)) ⟨same_new (Same.refl _) nD, [], upd_same, TupsAt.nil⟩ (fun i H' hi hm => SqL.of (hm.1 _ _ eo)) (fun i x H' hx hm => ?_) (fun H' hm => ?_)
    · obtain ⟨sm, cs, eD, tc⟩ := hm
      obtain ⟨y, st, en, th, rfl, et, ey⟩ := tri_get tt hx
      have hi : i < ts.length := (List.getElem?_eq_some_iff.mp et).1
      have hcl : cs.length ≤ 1301 := by
        rw [tc.1, List.length_map, List.length_map, List.length_take]
        omega
      refine ⟨y, _, rfl, SqT.of (sm _ _ ey), rfl, _, _, rfl, _, _, rfl, _, _, rfl, rfl, rfl, yesIte ?_⟩
      refine ⟨_, rfl, _, rfl, (by show 2 ≤ sizeLine; decide), fun z nz => ?_⟩
      have eDz : upd H' z (.tup [.int th, .int st]) D = some (.lst (cs.map V.ref)) := (upd_ne (ne_of_none eD nz)).trans eD
      refine ⟨_, eDz, (by rw [List.length_map, sizeLine_eq]; omega), same_mine (same_new sm nz) nD, cs ++ [z], ?_, ?_⟩
      · rw [upd_same, List.map_append]
        rfl
      · rw [List.take_add_one, et]
        show TupsAt _ (cs ++ [z]) (((ts.take i ++ [(st, en, th)]).map fun y => (y.2.2, y.1)).map stepV)
        rw [List.map_append, List.map_append]
        exact ((tc.mono (Tups.new nz)).snoc upd_same).mono (Tups.ls eDz)
    · obtain ⟨sm, cs, eD, tc⟩ := hm
      rw [List.length_map, hlen, List.take_length] at tc
      have hne : (ts.map fun y => (y.2.2, y.1)) ≠ [] := fun z => by
        have z := List.map_eq_nil_iff.mp z
        subst z
        have tl : b ≤ a := tl
        omega
      refine ⟨D, cs, _, .non, rfl, rfl, SqL.of eD, tc, hne, fun i z p ez ep le => ?_⟩
      rw [List.getElem?_map] at ep
      cases ey : ts[i]? with
      | none =>
        rw [ey] at ep
        cases ep
      | some y =>
        rw [ey] at ep
        have ep : (y.2.2, y.1) = p := Option.some.inj ep
        subst ep
        obtain ⟨xs, ex, hz⟩ := tc.2 i z ez
        rw [List.getElem?_map, List.getElem?_map, ey] at ex
        have ex : stepV (y.2.2, y.1) = xs := Option.some.inj ex
        subst ex
        exact q _ z _ _ (s1.trans sm) hz (extr_thin tl (List.mem_of_getElem? ey) fun w hw => le _ (List.mem_map.mpr ⟨w, hw, rfl⟩))
theorem ok_word_of {f : Addr} {fd : FuncData} {k : Nat} (F : Fun K "word_of" "word_of" s_word_of f fd) (bi : Bi mg) : FnOk P w K mg base CX0 (k + 1) f fd P_word_of spWord := by
  refine F.ok sc_word_of (fun vs H Q E h => ?_) (fun cdv A outer s H vs Q E hr h => ?_)
  · obtain ⟨t, low, high, rfl, _⟩ := h
    rfl
  · obtain ⟨t, low, high, rfl, q⟩ := h
    refine ⟨_, (pss_cons (ps_if (pt_cmpR op_lt (pv 0) (pv 1) (nomark _))
      (pss_one (ps_ret pe_str))
      pss_nil)
    (pss_cons (ps_if (pt_cmpR op_gt (pv 0) (pv 2) (nomark _))
      (pss_one (ps_ret pe_str))
      pss_nil)
    (pss_one (ps_ret pe_non)))), ?_⟩
    unfold wordOf at q
    refine ⟨_, rfl, _, rfl, _, _, rfl, rfl, _, rfl, ite2 (fun e => ?_) (fun e => ?_)⟩
    · rw [if_pos (of_decide_eq_true e)] at q
      exact q
    · have e : ¬ t < low := of_decide_eq_false (Bool.eq_false_iff.mpr e)
      rw [if_neg e] at q
      refine ⟨_, rfl, _, rfl, _, _, rfl, rfl, _, rfl, ite2 (fun e => ?_) (fun e => ?_)⟩
      · rw [if_pos (of_decide_eq_true e)] at q
        exact q
      · have e : ¬ high < t := of_decide_eq_false (Bool.eq_false_iff.mpr e)
        rw [if_neg e] at q
        exact q
theorem ok_first_off {fL fW f : Addr} {fdL fdW fd : FuncData} (F : Fun K "first_off" "first_off" s_first_off f fd) (bi : Bi mg) (C_levels_between : Cal P w K mg base "levels_between" P_levels_between 4 spLevelsB fL fdL) (C_word_of : Cal P w K mg base "word_of" P_word_of 1 spWord fW fdW) : FnOk P w K mg base CX0 5 f fd P_first_off (spFirstOff K) := by
  refine F.ok sc_first_off (fun vs H Q E h => ?_) (fun cdv A outer s H vs Q E hr h => ?_)
  · obtain ⟨c, Ls, low, high, a, b, rfl, _⟩ := h
    rfl
  · obtain ⟨c, Ls, low, high, a, b, rfl, hs, hl, hg, a0, q⟩ := h
    refine ⟨_, (pss_cons (ps_for PassesOwn.never rfl (pi_list (pe_call (C_levels_between.G.mono (by decide)) hr (by rfl) C_levels_between.g C_levels_between.kp C_levels_between.b .nil pass0 (pa_cons (pv 0) (pa_cons (pv 3) (pa_cons (pv 4) pa_nil))))) (pg_tup rfl (pgs_cons (pg_name (i := 5) sc_first_off.nd rfl (.inl rfl)) (pgs_cons (pg_name (i := 6) sc_first_off.nd rfl (.inl rfl)) (pgs_cons (pg_name (i := 7) sc_first_off.nd rfl (.inl rfl)) pgs_nil))))
      (pss_cons (ps_set (i := 8) sc_first_off.nd rfl (.inl rfl) (pe_call (C_word_of.G.mono (by decide)) hr (by rfl) C_word_of.g C_word_of.kp C_word_of.b .nil pass0 (pa_cons (pv 7) (pa_cons (pv 1) (pa_cons (pv 2) pa_nil)))))
        (pss_one (ps_if (pt_cmpR op_notN (pv 8) pe_non (nomark _))
          (pss_one (ps_ret (pe_tup (pa_cons (pv 5) (pa_cons (pv 8) (pa_cons (pv 7) pa_nil))))))
          pss_nil))))
    (pss_one (ps_ret pe_non))), ?_⟩
    refine ⟨_, rfl, _, rfl, _, rfl, c, Ls, a, b, rfl, hs, hl, hg, a0, fun H1 o ts s1 no ⟨as, eo, tt⟩ tl _ => ⟨o, rfl, ⟨_, SqL.of eo⟩, ?_⟩⟩
    refine for_list (xs := as.map V.ref) (fun i σ' H' => H' = H1 ∧ ∃ (x5 x6 x7 x8 : Option V) (x : Int), σ' = [some (.ref c), some (.int low), some (.int high), some (.int a), some (.int b), x5, x6, x7, x8] ∧ a ≤ x ∧ Tiles Ls x b (ts.drop i) ∧ ∀ q, a ≤ q → q < x → wordOf (thickS Ls q) low high = none) ⟨rfl, _, _, _, _, a, rfl, Int.le_refl _, tl, fun q q1 q2 => by omega⟩ (fun i σ' H' hi hm => ?_) (fun i x σ' H' hx hm => ?_) (fun σ' H' hm => ?_)
    · obtain ⟨rfl, _⟩ := hm
      exact SqL.of eo
    · obtain ⟨rfl, x5, x6, x7, x8, x, rfl, ax, tx, fine⟩ := hm
      obtain ⟨y, st, en, th, rfl, et, ey⟩ := tri_get tt hx
      have hd : ts.drop i = (st, en, th) :: ts.drop (i + 1) := by
        obtain ⟨h1, h2⟩ := List.getElem?_eq_some_iff.mp et
        rw [← h2]
        exact List.drop_eq_getElem_cons h1
      rw [hd] at tx
      obtain ⟨rfl, t2, t3, t4, t5⟩ := tx
      have e0 : thickS Ls st = th := t4 st (Int.le_refl _) t2
      refine ⟨y, _, rfl, SqT.of ey, rfl, _, _, rfl, _, _, rfl, _, _, rfl, rfl, ?_⟩
      refine ⟨_, rfl, _, rfl, _, rfl, th, low, high, rfl, ?_⟩
      refine ⟨_, rfl, rfl, _, rfl, ?_⟩
      cases hw : wordOf th low high with
      | none =>
        refine iteF ?_
        refine ⟨rfl, _, _, _, _, en, rfl, by omega, t5, fun q q1 q2 => ?_⟩
        by_cases hq : q < st
        · exact fine q q1 hq
        · rw [t4 q (by omega) q2]
          exact hw
      | some z =>
        refine iteT ?_
        refine ⟨_, rfl, _, rfl, _, rfl, (by show 3 ≤ sizeLine; decide), fun u nu => ?_⟩
        have oi : OffIs Ls low high a b (some (st, z, thickS Ls st)) := .some ax (by omega) (by rw [e0]; exact hw) fine
        exact q _ _ _ (same_new s1 nu) oi ⟨u, rfl, by rw [e0]; exact upd_same⟩
    · obtain ⟨rfl, x5, x6, x7, x8, x, rfl, ax, tx, fine⟩ := hm
      have hlen : (as.map V.ref).length = ts.length := by
        have := tt.1
        rw [List.length_map] at this
        rw [List.length_map]
        exact this
      rw [hlen, List.drop_length] at tx
      have tx : b ≤ x := tx
      exact q _ _ _ s1 (.none fun q q1 q2 => fine q q1 (by omega)) rfl
theorem ok_lasts {fS fE f : Addr} {fdS fdE fd : FuncData} {dvs : List V} (F : FunD K "lasts" "lasts" (defArgs s_lasts) (defBody s_lasts) (defScope s_lasts) dvs [] f fd) (bi : Bi mg) (C_stretches : Cal P w K mg base "stretches" P_stretches 3 spStretches fS fdS) (C_end_of : Cal P w K mg base "end_of" P_end_of 2 spEnd fE fdE) : FnOk P w K mg base CX0 4 f fd P_lasts spLasts := by
  refine okD F sc_lasts (fun vs H Q E h => ?_) (fun cdv A outer s H vs Q E hr h => ?_)
  · obtain ⟨a, Ls, low, now, rfl, _⟩ := h
    rfl
  · obtain ⟨a, Ls, low, now, rfl, hs, hl, hg, l1, n0, q⟩ := h
    refine ⟨_, (pss_cons (ps_for PassesOwn.never rfl (pi_tup (pe_call (C_stretches.G.mono (by decide)) hr (by rfl) C_stretches.g C_stretches.kp C_stretches.b .nil pass0 (pa_cons (pv 0) pa_nil))) (pg_tup rfl (pgs_cons (pg_name (i := 3) sc_lasts.nd rfl (.inl rfl)) (pgs_cons (pg_name (i := 4) sc_lasts.nd rfl (.inl rfl)) (pgs_cons (pg_name (i := 5) sc_lasts.nd rfl (.inl rfl)) (pgs_cons (pg_name (i := 6) sc_lasts.nd rfl (.inl rfl)) pgs_nil)))))
      (pss_one (ps_if (pw_and (pt_cmpR op_lt (pv 2) (pv 4) (nomark _)) (pw_and1 (pt_cmpR op_lt (pe_callB (cr_sumT rfl) (by rfl) bi.m_sum (by decide +kernel) (pa_cons (pv 6) pa_nil)) (pv 1) (nomark _)))).pt
          (pss_one (ps_ret (pe_callB (call_max2 rfl) (by rfl) bi.m_max (by decide +kernel) (pa_cons (pv 3) (pa_cons (pv 2) pa_nil)))))
          pss_nil)))
    (pss_one (ps_ret (pe_callB (call_max2 rfl) (by rfl) bi.m_max (by decide +kernel) (pa_cons (pe_call (C_end_of.G.mono (by decide)) hr (by rfl) C_end_of.g C_end_of.kp C_end_of.b .nil pass0 (pa_cons (pv 0) pa_nil)) (pa_cons (pv 2) pa_nil)))))), ?_⟩
    refine ⟨_, rfl, a, Ls, rfl, hs, hl, hg, fun H1 o as ys s1 no eo sg hpl => ?_⟩
    refine ⟨o, rfl, ⟨_, SqT.of eo⟩, for_tup (xs := as.map V.ref) (fun i σ' H' => H' = H1 ∧ ∃ (x3 x4 x5 x6 : Option V), σ' = [some (.ref a), some (.int low), some (.int now), x3, x4, x5, x6] ∧ ∀ p e, now ≤ p → ys[i]? = some e → p < e → low ≤ thickS Ls p) ⟨rfl, _, _, _, _, rfl, fun p e h1 h2 h3 => ?_⟩ (fun i σ' H' hi hm => ?_) (fun i x σ' H' hx hm => ?_) (fun σ' H' hm => ?_)⟩
    · obtain ⟨r, er⟩ := places_zero hg hpl
      rw [er] at h2
      have : (0 : Int) = e := Option.some.inj h2
      omega
    · obtain ⟨rfl, _⟩ := hm
      exact SqT.of eo
    · obtain ⟨rfl, x3, x4, x5, x6, rfl, inv⟩ := hm
      obtain ⟨b, rfl, eb⟩ := ref_get hx
      obtain ⟨st, en, ep, n, t, h1, h2, h3⟩ := sg.2 i b eb
      obtain ⟨e1, e2⟩ := pairs_get ep
      refine ⟨b, _, rfl, SqT.of h1, rfl, _, _, rfl, _, _, rfl, _, _, rfl, _, _, rfl, rfl, ?_⟩
      have fs : [s0 Ls st, My.s1 Ls st].sum = thickS Ls st := by
        rw [← s01]
        simp only [List.sum_cons, List.sum_nil, Int.add_zero]
      refine ⟨_, rfl, _, rfl, _, _, rfl, rfl, _, rfl, ite2 (fun ea => ?_) (fun ea => ?_)⟩
      · have ea : now < en := of_decide_eq_true ea
        refine ⟨_, rfl, t, [s0 Ls st, My.s1 Ls st], rfl, SqT.of h3, _, rfl, _, _, rfl, rfl, _, rfl, ?_⟩
        rw [fs]
        refine ite2 (fun eb2 => ?_) (fun eb2 => ?_)
        · have eb2 : thickS Ls st < low := of_decide_eq_true eb2
          have hse : st < en := by
            obtain ⟨i1, g1⟩ := List.getElem?_eq_some_iff.mp e1
            obtain ⟨i2, g2⟩ := List.getElem?_eq_some_iff.mp e2
            have := List.pairwise_iff_getElem.mp hpl.1 i (i + 1) i1 i2 (by omega)
            omega
          have hm : (if now > st then now else st) ≥ st ∧ (if now > st then now else st) ≥ now ∧ ((if now > st then now else st) = st ∨ (if now > st then now else st) = now) := by
            split <;> omega
          refine ⟨_, rfl, _, rfl, _, _, rfl, q H' _ s1 ?_⟩
          generalize (if now > st then now else st) = m at hm
          refine ⟨hm.2.1, ?_, fun p p1 p2 => ?_⟩
          · rw [places_still hg hpl ep hm.1 (by omega)]
            exact eb2
          · exact inv p st p1 e1 (by omega)
        · have eb2 : ¬ thickS Ls st < low := of_decide_eq_false (Bool.eq_false_iff.mpr eb2)
          refine ⟨rfl, _, _, _, _, rfl, fun p e p1 p2 p3 => ?_⟩
          rw [e2] at p2
          have : en = e := Option.some.inj p2
          subst this
          by_cases hps : p < st
          · exact inv p st p1 e1 hps
          · rw [places_still hg hpl ep (by omega) p3]
            omega
      · have ea : ¬ now < en := of_decide_eq_false (Bool.eq_false_iff.mpr ea)
        refine ⟨rfl, _, _, _, _, rfl, fun p e p1 p2 p3 => ?_⟩
        rw [e2] at p2
        have : en = e := Option.some.inj p2
        omega
    · obtain ⟨rfl, x3, x4, x5, x6, rfl, inv⟩ := hm
      refine ⟨_, rfl, a, Ls, rfl, hs.mono (Tups.same s1), hl, hg, fun H2 m s2 hm => ?_⟩
      refine ⟨_, rfl, _, _, rfl, ?_⟩
      have hx : (if now > m then now else m) ≥ m ∧ (if now > m then now else m) ≥ now ∧ ((if now > m then now else m) = m ∨ (if now > m then now else m) = now) := by
        split <;> omega
      refine q H2 _ (s1.trans s2) ?_
      generalize (if now > m then now else m) = z at hx
      have hal : (as.map V.ref).length + 1 = ys.length := by
        obtain ⟨r, er⟩ := places_zero hg hpl
        rw [List.length_map, sg.1, List.length_zip, List.length_drop, er, List.length_cons]
        omega
      refine ⟨hx.2.1, ?_, fun p p1 p2 => ?_⟩
      · rw [thickS_over hg fun L hL => Int.le_trans (hm.2.2 L hL) hx.1]
        omega
      · have hi : (as.map V.ref).length < ys.length := by omega
        have hk := key_le hpl.1 ((hpl.2.1 m).mpr (end_key hg hm)) (List.getElem?_eq_getElem hi) hal
        exact inv p _ p1 (List.getElem?_eq_getElem hi) (by omega)
theorem ok_laid_out {f : Addr} {fd : FuncData} {k : Nat} (F : Fun K "laid_out" "laid_out" s_laid_out f fd) (bi : Bi mg) : FnOk P w K mg base CX0 (k + 1) f fd P_laid_out spLaidOut := by
  refine F.ok sc_laid_out (fun vs H Q E h => ?_) (fun cdv A outer s H vs Q E hr h => ?_)
  · obtain ⟨a, b, as, Ws, ms, rfl, _⟩ := h
    rfl
  · obtain ⟨a, b, as, Ws, ms, rfl, ea, ra, eb, hl, h60, q⟩ := h
    refine ⟨_, (pss_one (ps_ret (pe_callTy call_tuple_of (by rfl) bi.m_tuple (by decide +kernel) (pa_cons (pe_lc (own := [("wisp", 2), ("at", 3)]) (g := (gTup K 2 (gCons (gName 2) (gCons (gName 3) gNil)))) (tt := tYes) rfl sc_laid_out.nd (RZ.pi_zipA (by rfl) bi.m_zip (pa_cons (pv 0) (pa_cons (pv 1) pa_nil))) (blkOk_by (N := N_laid_out) (sc := defScope s_laid_out) (by decide +kernel)) (fun _ _ _ _ _ => (pg_tup rfl (pgs_cons (pg_name (i := 2) sc_laid_out.nd rfl (.inl rfl) (.inr rfl)) (pgs_cons (pg_name (i := 3) sc_laid_out.nd rfl (.inl rfl) (.inr rfl)) pgs_nil)))) (fun _ _ _ _ _ => pts_nil) (fun _ _ _ _ _ => (pe_tup (pa_cons (pv 2) (pa_cons (pv 3) (pa_cons pe_non pa_nil)))))) pa_nil)))), ?_⟩
    have hll : (as.map V.ref).length = (ms.map V.int).length := by rw [List.length_map, List.length_map, ra.1, hl]
    refine ⟨_, rfl, _, rfl, a, b, _, _, rfl, .inr ⟨SqT.of ea, SqT.of eb, fun D nD => ?_⟩⟩
    refine lcZip (xs := as.map V.ref) (ys := ms.map V.int) hll (fun i H' => ∃ cs : List Addr, Same H H' ∧ H' D = some (.lst (cs.map V.ref)) ∧ LaidsAt H' cs ((laidAll Ws ms).take i) ∧ i ≤ 60) ⟨[], same_new (Same.refl H) nD, upd_same, LaidsAt.nil, Nat.zero_le _⟩ (fun i H' hm => ?_) (fun i x y T H' hx hy nT hm => ?_) (fun H' hm => ?_)
    · obtain ⟨cs, sm, _⟩ := hm
      exact ⟨SqT.of (sm _ _ ea), SqT.of (sm _ _ eb)⟩
    · obtain ⟨cs, sm, eD, lc, hi60⟩ := hm
      obtain ⟨c, rfl, ec⟩ := ref_get hx
      obtain ⟨m, rfl, em⟩ := int_get hy
      obtain ⟨W, eW, wW⟩ := ra.2 i c ec
      have hi : i < 60 := by
        have := (List.getElem?_eq_some_iff.mp eW).1
        omega
      have sT : Same H (upd H' T (.tup [.ref c, .int m])) := same_new sm nT
      have eDT := (upd_ne (o := .tup [.ref c, .int m]) (ne_of_none eD nT)).trans eD
      have lT := lc.mono (Tups.new (o := .tup [.ref c, .int m]) nT)
      refine ⟨T, _, rfl, SqT.of upd_same, rfl, _, _, rfl, _, _, rfl, rfl, rfl, yesIte ?_⟩
      generalize upd H' T (.tup [.ref c, .int m]) = H2 at sT eDT lT
      refine ⟨_, rfl, _, rfl, (by show 3 ≤ sizeLine; decide), fun z nz => ?_⟩
      have eDz := (upd_ne (o := .tup [.ref c, .int m, .non]) (ne_of_none eDT nz)).trans eDT
      have sz : Same H (upd H2 z (.tup [.ref c, .int m, .non])) := same_new sT nz
      have lz : LaidAt (upd H2 z (.tup [.ref c, .int m, .non])) z (laidOf W m) := ⟨c, upd_same, wW.mono (Tups.same sz)⟩
      have hcl : cs.length ≤ 60 := by
        have := lc.1
        rw [List.length_take] at this
        omega
      refine ⟨_, eDz, ?_, cs ++ [z], same_mine sz nD, ?_, ?_, hi⟩
      · rw [List.length_map]
        exact small1000 (by omega)
      · rw [upd_same, List.map_append]
        rfl
      · rw [List.take_add_one, laidAll_get eW em]
        exact ((lT.mono (Tups.new nz)).snoc lz).mono (Tups.ls eDz)
    · obtain ⟨cs, sm, eD, lc, _⟩ := hm
      rw [List.take_of_length_le (by rw [laidAll_len _ _ hl, List.length_map, ra.1]; exact Nat.le_refl _)] at lc
      refine ⟨D, _, rfl, .inl ⟨SqL.of eD, fun o no => ?_⟩⟩
      exact q _ o (same_new sm no) (sm.free no) ⟨cs, upd_same, lc.mono (Tups.new no)⟩
theorem ok_strand_with {f fL : Addr} {fd fdL : FuncData} (F : Fun K "strand_with" "strand_with" s_strand_with f fd) (bi : Bi mg) (C_laid_out : Cal P w K mg base "laid_out" P_laid_out 1 spLaidOut fL fdL) : FnOk P w K mg base CX0 2 f fd P_strand_with spStrandWith := by
  refine F.ok sc_strand_with (fun vs H Q E h => ?_) (fun cdv A outer s H vs Q E hr h => ?_)
  · obtain ⟨a, b, x, as, Ws, ms, Ls, rfl, _⟩ := h
    rfl
  · obtain ⟨a, b, x, as, Ws, ms, Ls, rfl, ea, ra, eb, hl, sx, hf, q⟩ := h
    refine ⟨_, (pss_one (ps_ret (pe_op op_catA (pe_ifExp (pt_cmpR op_isN (pv 2) pe_non (nomark _)) (pe_tup pa_nil) (pv 2)) (pe_call (C_laid_out.G.mono (by decide)) hr (by rfl) C_laid_out.g C_laid_out.kp C_laid_out.b .nil pass0 (pa_cons (pv 0) (pa_cons (pv 1) pa_nil)))))), ?_⟩
    -- the rest, from either
    have rest : ∀ (c : Addr) (cs : List Addr) (H1 : Hp), Same H H1 → H1 c = some (.tup (cs.map V.ref)) → LaidsAt H1 cs Ls → spLaidOut [.ref a, .ref b] H1 (fun y H2 => rCatA K (.ref c) y H2 Q) E0 := fun c cs H1 s1 ec lc => by
      refine ⟨a, b, as, Ws, ms, rfl, s1 _ _ ea, ra.mono (Tups.same s1), s1 _ _ eb, hl, by omega, fun H2 o s2 no ⟨ds, eo, ld⟩ => ?_⟩
      refine catA (s2 _ _ ec) eo ?_ fun H3 p s3 ep => ?_
      · rw [List.length_map, List.length_map, lc.1, ld.1, laidAll_len _ _ hl]
        exact Nat.le_of_lt (small1000 (by omega))
      · rw [← List.map_append] at ep
        exact q H3 p ((s1.trans s2).trans s3) ⟨cs ++ ds, ep, ((lc.mono (Tups.same s2)).app ld).mono (Tups.same s3)⟩
    rcases sx with ⟨rfl, rfl⟩ | ⟨c, rfl, cs, ec, lc⟩
    · refine ⟨_, rfl, rfl, _, rfl, ?_⟩
      refine iteT ?_
      refine ⟨Nat.zero_le _, fun z nz => ?_⟩
      refine ⟨_, rfl, _, rfl, ?_⟩
      exact rest z [] _ (same_new (Same.refl _) nz) upd_same LaidsAt.nil
    · refine ⟨_, rfl, rfl, _, rfl, ?_⟩
      refine iteEqF (decide_eq_false fun z => by cases z) ?_
      refine ⟨_, rfl, _, rfl, _, rfl, ?_⟩
      exact rest c cs H (Same.refl _) ec lc
theorem ok_drawn {f fL fW : Addr} {fd fdL fdW : FuncData} {dvs : List V} (F : FunD K "drawn" "drawn" (defArgs s_drawn) (defBody s_drawn) (defScope s_drawn) dvs [] f fd) (bi : Bi mg) (C_lasts : Cal P w K mg base "lasts" P_lasts 4 spLasts fL fdL) (C_strand_with : Cal P w K mg base "strand_with" P_strand_with 2 spStrandWith fW fdW) : FnOk P w K mg base CX0 5 f fd P_drawn spDrawn := by
  refine okD F sc_drawn (fun vs H Q E h => ?_) (fun cdv A outer s H vs Q E hr h => ?_)
  · obtain ⟨a, x, low, now, as, Ws, Ls, rfl, _⟩ := h
    rfl
  · obtain ⟨a, x, low, now, as, Ws, Ls, rfl, ea, ra, sx, Fr, q⟩ := h
    refine ⟨_, (pss_cons (ps_set (i := 4) sc_drawn.nd rfl (.inl rfl) (pe_tup pa_nil))
    (pss_cons (ps_for PassesOwn.never rfl (pi_range1 rfl bi.m_range (pa_cons (pe_callB call_len_seq (by rfl) bi.m_len (by decide +kernel) (pa_cons (pv 0) pa_nil)) pa_nil)) (pg_name (i := 5) sc_drawn.nd rfl (.inl rfl))
      (pss_one (ps_aug (i := 4) sc_drawn.nd rfl (.inl rfl) (pe_tup (pa_cons (pe_call (C_lasts.G.mono (by decide)) hr (by rfl) C_lasts.g C_lasts.kp C_lasts.b .nil pass0 (pa_cons (pe_call (C_strand_with.G.mono (by decide)) hr (by rfl) C_strand_with.g C_strand_with.kp C_strand_with.b .nil pass0 (pa_cons (pe_slice sl_tupA (pv 0) po_none (po_some (pv 5))) (pa_cons (pv 4) (pa_cons (pv 2) pa_nil)))) (pa_cons (pv 1) (pa_cons (pv 3) pa_nil)))) pa_nil)) ip_catA)))
    (pss_one (ps_ret (pv 4))))), ?_⟩
    refine ⟨Nat.zero_le _, fun z nz => ?_⟩
    have hw60 : Ws.length ≤ 60 := by
      have := Fr.few
      omega
    have sz : Same H (upd H z (.tup [])) := same_new (Same.refl _) nz
    refine ⟨_, rfl, a, _, rfl, .inr (SqT.of (sz _ _ ea)), _, rfl, ?_, ?_, ?_⟩
    · rw [List.length_map, ra.1]
      omega
    · rw [List.length_map, ra.1]
      omega
    rw [List.length_map, ra.1, Int.toNat_natCast]
    refine for_range (n := Ws.length) (fun i σ' H' => ∃ (x5 : Option V) (b : Addr) (ms : List Int), σ' = [some (.ref a), some (.int low), some x, some (.int now), some (.ref b), x5] ∧ Same H H' ∧ H' b = some (.tup (ms.map V.int)) ∧ SoFar Ls Ws low now i ms) ⟨_, z, [], rfl, sz, upd_same, rfl, (fun j m e => by cases e), fun m hm => by cases hm⟩ (fun i σ' H' hi hm => ?_) (fun σ' H' hm => ?_)
    · obtain ⟨x5, b, ms, rfl, sm, eb, sf⟩ := hm
      obtain ⟨g1, g2, g3⟩ := so_far_good Fr sf (Nat.le_of_lt hi)
      refine ⟨_, rfl, _, rfl, _, rfl, _, rfl, slA (sm _ _ ea) fun H1 p s1 ep => ?_⟩
      rw [Int.zero_add, cut_take, ← List.map_take] at ep
      have sm1 := sm.trans s1
      refine ⟨_, rfl, _, rfl, p, b, x, as.take i, Ws.take i, ms, Ls, rfl, ep, (ra.mono (Tups.same sm1)).take i, s1 _ _ eb, by rw [List.length_take, sf.1]; omega, sx.mono (Tups.same sm1), by rw [List.length_take]; have := Fr.few; omega, fun H2 o s2 so => ?_⟩
      refine ⟨_, rfl, _, rfl, o, _, low, now, rfl, so, g2, g1, Fr.l1, Fr.n0, fun H3 m s3 hm => ?_⟩
      refine ⟨(by show 1 ≤ sizeLine; decide), fun t nt => ?_⟩
      have eb3 := s3 _ _ (s2 _ _ (s1 _ _ eb))
      have st : Same H3 (upd H3 t (.tup [.int m])) := same_new (Same.refl _) nt
      have sall := (((sm.trans s1).trans s2).trans s3).trans st
      have mb := first_le g1 hm Fr.l1 (show now ≤ 2 ^ 115 + ((i + 1 : Nat) : Int) * 2 ^ 110 by
        have h1 := Fr.n1
        have h2 : 0 ≤ ((i + 1 : Nat) : Int) * 2 ^ 110 := Int.mul_nonneg (by omega) (by decide)
        omega) g3
      have sf' : SoFar Ls Ws low now (i + 1) (ms ++ [m]) := by
        refine ⟨by rw [List.length_append, sf.1]; rfl, fun j n e => ?_, fun n hn => ?_⟩
        · by_cases hj : j < ms.length
          · rw [List.getElem?_append_left hj] at e
            rw [List.take_append_of_le_length (by omega)]
            exact sf.2.1 j n e
          · have hji : j = ms.length := by
              have := (List.getElem?_eq_some_iff.mp e).1
              rw [List.length_append] at this
              have : j < ms.length + 1 := this
              omega
            subst hji
            rw [List.getElem?_append_right (Nat.le_refl _), Nat.sub_self] at e
            have : m = n := Option.some.inj e
            subst this
            rw [List.take_append_of_le_length (Nat.le_refl _), List.take_length, sf.1]
            exact hm
        · rcases List.mem_append.mp hn with hn | hn
          · have h1 := sf.2.2 n hn
            have e1 : ((i + 1 : Nat) : Int) * 2 ^ 110 = (i : Int) * 2 ^ 110 + 2 ^ 110 := by
              rw [Int.natCast_add, Int.add_mul]
              rfl
            omega
          · simp only [List.mem_cons, List.not_mem_nil, or_false] at hn
            rw [hn]
            have := hm.1
            have := Fr.n0
            exact ⟨by omega, mb⟩
      refine catA (st _ _ eb3) upd_same ?_ fun H4 p2 s4 ep2 => ?_
      · rw [List.length_map, sf.1]
        exact Nat.le_of_lt (small1000 (by show i + 1 ≤ 1000; omega))
      · refine ⟨_, p2, ms ++ [m], rfl, sall.trans s4, ?_, sf'⟩
        rw [ep2, List.map_append]
        rfl
    · obtain ⟨x5, b, ms, rfl, sm, eb, sf⟩ := hm
      refine ⟨_, rfl, q H' b ms sm eb ⟨sf.1, sf.2.1⟩ fun m hm => ?_⟩
      have h1 := sf.2.2 m hm
      have h2 : (Ws.length : Int) * 2 ^ 110 ≤ 60 * 2 ^ 110 := Int.mul_le_mul_of_nonneg_right (by omega) (by decide)
      exact ⟨h1.1, by omega⟩
theorem late_good {Ls : List Lw} {Ws : List Wi} {low now : Int} (F : From Ls Ws low now) {ms : List Int} (h : LateP Ls Ws low now ms) (hb : ∀ m ∈ ms, 0 ≤ m ∧ m < 2 ^ 125) : (∀ L ∈ Ls ++ laidAll Ws ms, GoodL L) ∧ (Ls ++ laidAll Ws ms).length ≤ 60 := by
  refine ⟨fun L hL => ?_, ?_⟩
  · rcases List.mem_append.mp hL with hL | hL
    · exact F.gl L hL
    · obtain ⟨W, hW, m, hm, rfl⟩ := laidAll_mem hL
      have := hb m hm
      exact good_laid (F.gw W hW) this.1 (by omega)
  · rw [List.length_append, laidAll_len _ _ h.1.symm]
    exact F.few
theorem ok_lasting {f fL fW fD : Addr} {fd fdL fdW fdD : FuncData} {dvs : List V} (F : FunD K "lasting" "lasting" (defArgs s_lasting) (defBody s_lasting) (defScope s_lasting) dvs [] f fd) (bi : Bi mg) (C_lasts : Cal P w K mg base "lasts" P_lasts 4 spLasts fL fdL) (C_strand_with : Cal P w K mg base "strand_with" P_strand_with 2 spStrandWith fW fdW) (C_drawn : Cal P w K mg base "drawn" P_drawn 5 spDrawn fD fdD) : FnOk P w K mg base CX0 6 f fd P_lasting spLasting := by
  refine okD F sc_lasting (fun vs H Q E h => ?_) (fun cdv A outer s H vs Q E hr h => ?_)
  · obtain ⟨a, x, low, now, as, Ws, Ls, rfl, _⟩ := h
    rfl
  · obtain ⟨a, x, low, now, as, Ws, Ls, rfl, ea, ra, sx, Fr, q⟩ := h
    refine ⟨_, (pss_one (ps_ret (pe_call (C_lasts.G.mono (by decide)) hr (by rfl) C_lasts.g C_lasts.kp C_lasts.b .nil pass0 (pa_cons (pe_call (C_strand_with.G.mono (by decide)) hr (by rfl) C_strand_with.g C_strand_with.kp C_strand_with.b .nil pass0 (pa_cons (pv 0) (pa_cons (pe_call (C_drawn.G.mono (by decide)) hr (by rfl) C_drawn.g C_drawn.kp C_drawn.b .nil pass0 (pa_cons (pv 0) (pa_cons (pv 1) (pa_cons (pv 2) (pa_cons (pv 3) pa_nil))))) (pa_cons (pv 2) pa_nil)))) (pa_cons (pv 1) (pa_cons (pv 3) pa_nil)))))), ?_⟩
    refine ⟨_, rfl, _, rfl, _, rfl, _, rfl, _, rfl, a, x, low, now, as, Ws, Ls, rfl, ea, ra, sx, Fr, fun H1 o ms s1 eo lp hb => ?_⟩
    obtain ⟨g1, g2⟩ := late_good Fr lp hb
    refine ⟨_, rfl, a, o, x, as, Ws, ms, Ls, rfl, s1 _ _ ea, ra.mono (Tups.same s1), eo, lp.1.symm, sx.mono (Tups.same s1), Fr.few, fun H2 p s2 sp => ?_⟩
    refine ⟨_, rfl, _, rfl, p, _, low, now, rfl, sp, g2, g1, Fr.l1, Fr.n0, fun H3 m s3 hm => ?_⟩
    exact q H3 ms m ((s1.trans s2).trans s3) lp hm
theorem ok_is_wide {f fT : Addr} {fd fdT : FuncData} (F : Fun K "is_wide" "is_wide" s_is_wide f fd) (bi : Bi mg) (C_thick_at : Cal P w K mg base "thick_at" P_thick_at 1 spThick fT fdT) : FnOk P w K mg base CX0 2 f fd P_is_wide spIsWide := by
  refine F.ok sc_is_wide (fun vs H Q E h => ?_) (fun cdv A outer s H vs Q E hr h => ?_)
  · obtain ⟨a, low, high, as, Ws, rfl, _⟩ := h
    rfl
  · obtain ⟨a, low, high, as, Ws, rfl, ea, ra, h60, gw, q⟩ := h
    refine ⟨_, (pss_one (ps_ret (pe_callB (cr_all rfl) (by rfl) bi.m_all (by decide +kernel) (pa_cons (pe_lc (own := [("wisp", 3)]) (g := (gName 3)) (tt := tYes) rfl sc_is_wide.nd (pi_tup (pv 0)) (blkOk_by (N := N_is_wide) (sc := defScope s_is_wide) (by decide +kernel)) (fun _ _ _ _ _ => (pg_name (i := 3) sc_is_wide.nd rfl (.inl rfl) (.inr rfl))) (fun _ _ _ _ _ => pts_nil) (fun _ _ _ _ _ => (pe_cmpR op_le (pe_op op_add (pe_op op_sub (pv 1) pe_int) (pe_call (C_thick_at.G.mono (by decide)) hr (by rfl) C_thick_at.g C_thick_at.kp C_thick_at.b .nil pass0 (pa_cons (pv 3) (pa_cons pe_int pa_nil)))) (pv 2) (nomark _)))) pa_nil)))), ?_⟩
    refine ⟨_, rfl, a, rfl, ⟨_, SqT.of ea⟩, fun D nD => ?_⟩
    refine lc_tup (xs := as.map V.ref) (fun i H' => Same H H' ∧ H' D = some (.lst (((Ws.take i).map fun W => decide (low - 1 + thickAt W.2 0 ≤ high)).map V.bl)) ∧ i ≤ 60) ⟨same_new (Same.refl H) nD, upd_same, Nat.zero_le _⟩ (fun i H' hi hm => SqT.of (hm.1 _ _ ea)) (fun i x H' hx hm => ?_) (fun H' hm => ?_)
    · obtain ⟨sm, eD, hi⟩ := hm
      obtain ⟨b, rfl, eb⟩ := ref_get hx
      obtain ⟨W, eW, wW⟩ := ra.2 i b eb
      have hi2 : i < Ws.length := (List.getElem?_eq_some_iff.mp eW).1
      refine ⟨rfl, yesIte ?_⟩
      refine ⟨_, rfl, _, _, rfl, rfl, _, rfl, b, W.1, W.2, 0, rfl, wW.mono (Tups.same sm), _, _, rfl, rfl, _, rfl, _, _, rfl, rfl, ?_⟩
      refine ⟨_, eD, ?_, same_mine sm nD, ?_, by omega⟩
      · rw [List.length_map, List.length_map, List.length_take]
        exact small1000 (by omega)
      · rw [upd_same, List.take_add_one, eW, List.map_append, List.map_append]
        rfl
    · obtain ⟨sm, eD, _⟩ := hm
      rw [List.take_of_length_le (by rw [List.length_map, ra.1]; exact Nat.le_refl _)] at eD
      refine ⟨D, _, rfl, SqL.of eD, ?_⟩
      have e : (Ws.map fun W => decide (low - 1 + thickAt W.2 0 ≤ high)).all id = wideB low high Ws := by
        unfold wideB
        rw [List.all_map]
        rfl
      rw [e]
      exact q _ sm
theorem ok_drawn_to {f fD fL fA fT : Addr} {fd fdD fdL fdA fdT : FuncData} (F : Fun K "drawn_to" "drawn_to" s_drawn_to f fd) (bi : Bi mg) (C_drawn : Cal P w K mg base "drawn" P_drawn 5 spDrawn fD fdD) (C_laid_out : Cal P w K mg base "laid_out" P_laid_out 1 spLaidOut fL fdL)
    (C_lasts : Cal P w K mg base "lasts" P_lasts 4 spLasts fA fdA) (C_thicknesses_at : Cal P w K mg base "thicknesses_at" P_thicknesses_at 3 spThicks fT fdT) (B_drawn_2 : BD K fdD P_drawn [.non, .int 0]) (B_lasts_2 : BD K fdA P_lasts [.int 0]) : FnOk P w K mg base CX0 6 f fd P_drawn_to (spDrawnTo K) := by
  obtain ⟨ds1, v_drawn_2, b_drawn_2⟩ := B_drawn_2
  obtain ⟨ds2, v_lasts_2, b_lasts_2⟩ := B_lasts_2
  refine F.ok sc_drawn_to (fun vs H Q E h => ?_) (fun cdv A outer s H vs Q E hr h => ?_)
  · obtain ⟨a, low, len, as, Ws, rfl, _⟩ := h
    rfl
  · obtain ⟨a, low, len, as, Ws, rfl, ea, ra, Fr, q⟩ := h
    refine ⟨_, (pss_cons (ps_set (i := 3) sc_drawn_to.nd rfl (.inl rfl) (pe_call (C_drawn.G.mono (by decide)) hr (by rfl) C_drawn.g C_drawn.kp b_drawn_2 v_drawn_2 pass0 (pa_cons (pv 0) (pa_cons (pv 1) pa_nil))))
    (pss_cons (ps_set (i := 4) sc_drawn_to.nd rfl (.inl rfl) (pe_call (C_laid_out.G.mono (by decide)) hr (by rfl) C_laid_out.g C_laid_out.kp C_laid_out.b .nil pass0 (pa_cons (pv 0) (pa_cons (pv 3) pa_nil))))
    (pss_cons (ps_set (i := 5) sc_drawn_to.nd rfl (.inl rfl) (pe_call (C_lasts.G.mono (by decide)) hr (by rfl) C_lasts.g C_lasts.kp b_lasts_2 v_lasts_2 pass0 (pa_cons (pv 4) (pa_cons (pv 1) pa_nil))))
    (pss_cons (ps_if (pt_cmpR op_lt (pv 5) (pv 2) (nomark _))
      (pss_one (ps_ret (pe_tup (pa_cons pe_str (pa_cons (pv 5) (pa_cons (pe_callTy call_tuple_of (by rfl) bi.m_tuple (by decide +kernel) (pa_cons (pe_call (C_thicknesses_at.G.mono (by decide)) hr (by rfl) C_thicknesses_at.g C_thicknesses_at.kp C_thicknesses_at.b .nil pass0 (pa_cons (pv 4) (pa_cons (pv 5) pa_nil))) pa_nil)) pa_nil))))))
      pss_nil)
    (pss_one (ps_ret (pe_tup (pa_cons pe_str (pa_cons (pe_callTy call_tuple_of (by rfl) bi.m_tuple (by decide +kernel) (pa_cons (pe_lc (own := [("place", 6)]) (g := (gName 6)) rfl sc_drawn_to.nd (pi_tup (pv 3)) (blkOk_by (N := N_drawn_to) (sc := defScope s_drawn_to) (by decide +kernel)) (fun _ _ _ _ _ => (pg_name (i := 6) sc_drawn_to.nd rfl (.inl rfl) (.inr rfl))) (fun _ _ _ _ _ => (pts_one (pt_cmpR op_lt (pv 6) (pv 2) (nomark _)))) (fun _ _ _ _ _ => (pv 6))) pa_nil)) pa_nil))))))))), ?_⟩
    refine ⟨_, rfl, _, rfl, a, .non, low, 0, as, Ws, [], rfl, ea, ra, .inl ⟨rfl, rfl⟩, Fr, fun H1 o ms s1 eo lp hb => ?_⟩
    obtain ⟨g1, g2⟩ := late_good Fr lp hb
    have hw60 : Ws.length ≤ 60 := by
      have := Fr.few
      have : 0 + Ws.length ≤ 60 := this
      omega
    refine ⟨_, rfl, _, rfl, a, o, as, Ws, ms, rfl, s1 _ _ ea, ra.mono (Tups.same s1), eo, lp.1.symm, hw60, fun H2 p s2 np sp => ?_⟩
    refine ⟨_, rfl, _, rfl, p, _, low, 0, rfl, sp, g2, g1, Fr.l1, Int.le_refl _, fun H3 m s3 hm => ?_⟩
    have s13 := (s1.trans s2).trans s3
    refine ⟨_, rfl, _, rfl, _, _, rfl, rfl, _, rfl, ite2 (fun e => ?_) (fun e => ?_)⟩
    · have e : m < len := of_decide_eq_true e
      refine ⟨_, rfl, _, rfl, _, rfl, p, _, m, rfl, sp.mono (Tups.same s3), g2, fun H4 t s4 nt et => ?_⟩
      refine ⟨t, _, rfl, .inl ⟨SqL.of et, fun u nu => ?_⟩⟩
      refine ⟨(by show 3 ≤ sizeLine; decide), fun z nz => ?_⟩
      refine q _ z ms m ((s13.trans s4).trans (same_new (same_new (Same.refl _) nu) nz)) lp hm ?_
      unfold ansD
      rw [if_pos e]
      refine .tup (SqT.of upd_same) (.cons (.str _) (.cons (.int _) (.cons (.tup (SqT.of ?_) (DpAll.ints _)) .nil)))
      exact (upd_ne (ne_of_none upd_same nz)).trans upd_same
    · have e : ¬ m < len := of_decide_eq_false (Bool.eq_false_iff.mpr e)
      have eo3 := s3 _ _ (s2 _ _ eo)
      refine ⟨_, rfl, o, rfl, ⟨_, SqT.of eo3⟩, fun D nD => ?_⟩
      refine lc_tup (xs := ms.map V.int) (fun i H' => Same H3 H' ∧ H' D = some (.lst (((ms.take i).filter fun n => decide (n < len)).map V.int)) ∧ i ≤ 60) ⟨same_new (Same.refl _) nD, upd_same, Nat.zero_le _⟩ (fun i H' hi hm => SqT.of (hm.1 _ _ eo3)) (fun i x H' hx hm => ?_) (fun H' hm => ?_)
      · obtain ⟨sm, eD, hi⟩ := hm
        obtain ⟨n, rfl, en⟩ := int_get hx
        have hi2 : i < ms.length := (List.getElem?_eq_some_iff.mp en).1
        have hms : ms.length ≤ 60 := by rw [lp.1]; exact hw60
        have ht : ms.take (i + 1) = ms.take i ++ [n] := by
          rw [List.take_add_one, en]
          rfl
        refine ⟨rfl, ⟨_, rfl, _, rfl, _, _, rfl, rfl, _, rfl, ite2 (fun e2 => ?_) (fun e2 => ?_)⟩⟩
        · refine ⟨_, rfl, _, eD, ?_, same_mine sm nD, ?_, by omega⟩
          · rw [List.length_map]
            refine small1000 (Nat.le_trans (List.length_filter_le _ _) ?_)
            rw [List.length_take]
            omega
          · rw [upd_same, ht, List.filter_append, List.map_append]
            have : [n].filter (fun n => decide (n < len)) = [n] := by
              rw [List.filter_cons, if_pos e2]
              rfl
            rw [this]
            rfl
        · refine ⟨sm, ?_, by omega⟩
          have : [n].filter (fun n => decide (n < len)) = [] := by
            rw [List.filter_cons, if_neg e2]
            rfl
          rw [ht, List.filter_append, this, List.append_nil]
          exact eD
      · obtain ⟨sm, eD, _⟩ := hm
        rw [List.length_map, List.take_length] at eD
        refine ⟨D, _, rfl, .inl ⟨SqL.of eD, fun u nu => ?_⟩⟩
        refine ⟨(by show 2 ≤ sizeLine; decide), fun z nz => ?_⟩
        refine q _ z ms m ((s13.trans sm).trans (same_new (same_new (Same.refl _) nu) nz)) lp hm ?_
        unfold ansD
        rw [if_neg e]
        refine .tup (SqT.of upd_same) (.cons (.str _) (.cons (.tup (SqT.of ?_) (DpAll.ints _)) .nil))
        exact (upd_ne (ne_of_none upd_same nz)).trans upd_same
theorem ok_thick {f fP : Addr} {fd fdP : FuncData} (F : Fun K "thick" "thick" s_thick f fd) (bi : Bi mg) (C_thicknesses_at : Cal P w K mg base "thicknesses_at" P_thicknesses_at 3 spThicks fP fdP) : FnOk P w K mg base CX0 4 f fd P_thick spThickS := by
  refine F.ok sc_thick (fun vs H Q E h => ?_) (fun cdv A outer s H vs Q E hr h => ?_)
  · obtain ⟨a, Ls, p, rfl, _⟩ := h
    rfl
  · obtain ⟨a, Ls, p, rfl, hs, hl, q⟩ := h
    refine ⟨_, (pss_one (ps_ret (pe_callB (cr_sum rfl) (by rfl) bi.m_sum (by decide +kernel) (pa_cons (pe_call (C_thicknesses_at.G.mono (by decide)) hr (by rfl) C_thicknesses_at.g C_thicknesses_at.kp C_thicknesses_at.b .nil pass0 (pa_cons (pv 0) (pa_cons (pv 1) pa_nil))) pa_nil)))), ?_⟩
    refine ⟨_, rfl, _, rfl, a, Ls, p, rfl, hs, hl, fun H1 o s1 no eo => ?_⟩
    exact ⟨o, _, rfl, SqL.of eo, q _ s1⟩
theorem ok_moved {f : Addr} {fd : FuncData} {k : Nat} (F : Fun K "moved" "moved" s_moved f fd) (bi : Bi mg) : FnOk P w K mg base CX0 (k + 1) f fd P_moved spMoved := by
  refine F.ok sc_moved (fun vs H Q E h => ?_) (fun cdv A outer s H vs Q E hr h => ?_)
  · obtain ⟨a, L, p, rfl, _⟩ := h
    rfl
  · obtain ⟨a, L, d, rfl, ⟨wa, ea, hw⟩, q⟩ := h
    refine ⟨_, (pss_cons (ps_asg (pv 0) (pg_tup rfl (pgs_cons (pg_name (i := 2) sc_moved.nd rfl (.inl rfl)) (pgs_cons (pg_name (i := 3) sc_moved.nd rfl (.inl rfl)) (pgs_cons (pg_name (i := 4) sc_moved.nd rfl (.inl rfl)) pgs_nil)))))
    (pss_one (ps_ret (pe_tup (pa_cons (pv 2) (pa_cons (pe_op op_add (pv 3) (pv 1)) (pa_cons (pe_ifExp (pt_cmpR op_isN (pv 4) pe_non (nomark _)) pe_non (pe_op op_add (pv 4) (pv 1))) pa_nil))))))), ?_⟩
    refine ⟨_, rfl, a, _, rfl, SqT.of ea, rfl, _, _, rfl, _, _, rfl, _, _, rfl, rfl, ?_⟩
    refine ⟨_, rfl, _, rfl, _, rfl, _, _, rfl, rfl, ?_⟩
    have fin : ∀ z, z = letV (L.le.map (· + d)) → 3 ≤ sizeLine ∧ ∀ o, H o = none → Q (.ref o) (upd H o (.tup [.ref wa, .int (L.pl + d), z])) := fun z e => by
      subst e
      exact ⟨by decide, fun o no => q _ o (same_new (Same.refl H) no) no ⟨wa, upd_same, hw.mono (Tups.new no)⟩⟩
    refine ⟨_, rfl, rfl, _, rfl, ?_⟩
    cases hle : L.le with
    | none =>
      rw [hle] at fin
      refine iteT ?_
      exact fin _ rfl
    | some n =>
      rw [hle] at fin
      refine iteEqF (letV_some' n) ?_
      exact ⟨_, rfl, _, rfl, _, _, rfl, rfl, fin _ rfl⟩
theorem ok_rest_from {f fM fT : Addr} {fd fdM fdT : FuncData} (F : Fun K "rest_from" "rest_from" s_rest_from f fd) (bi : Bi mg) (C_moved : Cal P w K mg base "moved" P_moved 1 spMoved fM fdM) (C_tail : Cal P w K mg base "tail" P_tail 1 spTail fT fdT) : FnOk P w K mg base CX0 2 f fd P_rest_from spRestFrom := by
  refine F.ok sc_rest_from (fun vs H Q E h => ?_) (fun cdv A outer s H vs Q E hr h => ?_)
  · obtain ⟨a, L, p, rfl, _⟩ := h
    rfl
  · obtain ⟨a, L, p, rfl, hb, h10, q⟩ := h
    refine ⟨_, (pss_cons (ps_asg (pv 0) (pg_tup rfl (pgs_cons (pg_name (i := 2) sc_rest_from.nd rfl (.inl rfl)) (pgs_cons (pg_name (i := 3) sc_rest_from.nd rfl (.inl rfl)) (pgs_cons (pg_name (i := 4) sc_rest_from.nd rfl (.inl rfl)) pgs_nil)))))
    (pss_cons (ps_if (pt_cmpR op_lt (pv 3) (pv 1) (nomark _))
      (pss_one (ps_ret (pe_call (C_moved.G.mono (by decide)) hr (by rfl) C_moved.g C_moved.kp C_moved.b .nil pass0 (pa_cons (pe_tup (pa_cons (pe_call (C_tail.G.mono (by decide)) hr (by rfl) C_tail.g C_tail.kp C_tail.b .nil pass0 (pa_cons (pv 2) (pa_cons (pe_op op_sub (pv 1) (pv 3)) pa_nil))) (pa_cons (pv 1) (pa_cons (pv 4) pa_nil)))) (pa_cons (pe_un un_neg (pv 1)) pa_nil)))))
      pss_nil)
    (pss_one (ps_ret (pe_call (C_moved.G.mono (by decide)) hr (by rfl) C_moved.g C_moved.kp C_moved.b .nil pass0 (pa_cons (pv 0) (pa_cons (pe_un un_neg (pv 1)) pa_nil))))))), ?_⟩
    obtain ⟨wa, ea, hw⟩ := id hb
    refine ⟨_, rfl, a, _, rfl, SqT.of ea, rfl, _, _, rfl, _, _, rfl, _, _, rfl, rfl, ?_⟩
    refine ⟨_, rfl, _, rfl, _, _, rfl, rfl, _, rfl, ite2 (fun e => ?_) (fun e => ?_)⟩
    · have e : L.pl < p := of_decide_eq_true e
      refine ⟨_, rfl, _, rfl, _, rfl, _, _, rfl, rfl, wa, L.so, L.ps, _, rfl, hw, h10, fun H1 t s1 nt ht => ?_⟩
      refine ⟨_, rfl, _, rfl, (by show 3 ≤ sizeLine; decide), fun z nz => ?_⟩
      have lz : LaidAt (upd H1 z (.tup [.ref t, .int p, letV L.le])) z (cutL L p) := ⟨t, upd_same, ht.mono (Tups.new nz)⟩
      refine ⟨_, rfl, _, rfl, z, cutL L p, -p, rfl, lz, fun H2 o s2 no lo => ?_⟩
      have sz : Same H (upd H1 z (.tup [.ref t, .int p, letV L.le])) := same_new s1 nz
      refine q _ o (sz.trans s2) (sz.free no) ?_
      unfold restL
      rw [if_pos e]
      exact lo
    · have e : ¬ L.pl < p := of_decide_eq_false (Bool.eq_false_iff.mpr e)
      refine ⟨_, rfl, _, rfl, _, rfl, a, L, -p, rfl, hb, fun H2 o s2 no lo => ?_⟩
      refine q _ o s2 no ?_
      unfold restL
      rw [if_neg e]
      exact lo
theorem ok_from_on {f fR fK : Addr} {fd fdR fdK : FuncData} (F : Fun K "from_on" "from_on" s_from_on f fd) (bi : Bi mg) (C_thick_of : Cal P w K mg base "thick_of" P_thick_of 2 spThickOf fK fdK) (C_rest_from : Cal P w K mg base "rest_from" P_rest_from 2 spRestFrom fR fdR) : FnOk P w K mg base CX0 3 f fd P_from_on spFromOn := by
  refine F.ok sc_from_on (fun vs H Q E h => ?_) (fun cdv A outer s H vs Q E hr h => ?_)
  · obtain ⟨a, Ls, p, rfl, _⟩ := h
    rfl
  · obtain ⟨a, Ls, p, rfl, ⟨as, ea, la⟩, hl, h10, q⟩ := h
    refine ⟨_, (pss_cons (ps_setLc (i := 2) (own := [("laid", 3)]) (g := (gName 3)) (tt := (tOr (tTest (tOp (rI0 fun i j => V.bl (decide (j ≤ i))) (tOp (rIxT K) (tVar 3) (tC (.int 1))) (tVar 1))) (tTest (tOp (rI0 fun i j => V.bl (decide (j < i))) (tCall spThickOf [] E0 (tCons (tVar 3) (tCons (tVar 1) tNil))) (tC (.int 0)))))) rfl sc_from_on.nd rfl rfl (sw_true rfl rfl rfl (by decide +kernel)) (pi_tup (pv 0)) (blkOk_by (N := N_from_on) (sc := defScope s_from_on) (by decide +kernel)) (fun _ _ _ _ _ => (pg_name (i := 3) sc_from_on.nd rfl (.inl rfl) (.inr rfl))) (fun _ _ _ _ _ => (pts_one (pw_or (pt_cmpR op_ge (pe_ix ix_tup (pv 3) pe_int (fun _ _ => rfl)) (pv 1) (nomark _)) (pw_or1 (pt_cmpR op_gt (pe_call (C_thick_of.G.mono (by decide)) hr (by rfl) C_thick_of.g C_thick_of.kp C_thick_of.b .nil pass0 (pa_cons (pv 3) (pa_cons (pv 1) pa_nil))) pe_int (nomark _)))).pt)) (fun _ _ _ _ _ => (pv 3)))
    (pss_one (ps_ret (pe_callTy call_tuple_of (by rfl) bi.m_tuple (by decide +kernel) (pa_cons (pe_lc (own := [("laid", 3)]) (g := (gName 3)) (tt := tYes) rfl sc_from_on.nd (pi_list (pv 2)) (blkOk_by (N := N_from_on) (sc := defScope s_from_on) (by decide +kernel)) (fun _ _ _ _ _ => (pg_name (i := 3) sc_from_on.nd rfl (.inl rfl) (.inr rfl))) (fun _ _ _ _ _ => pts_nil) (fun _ _ _ _ _ => (pe_call (C_rest_from.G.mono (by decide)) hr (by rfl) C_rest_from.g C_rest_from.kp C_rest_from.b .nil pass0 (pa_cons (pv 3) (pa_cons (pv 1) pa_nil))))) pa_nil))))), ?_⟩
    refine ⟨_, rfl, a, rfl, ⟨_, SqT.of ea⟩, fun D nD => ?_⟩
    refine lc_tup (xs := as.map V.ref) (fun i H' => Same H H' ∧ ∃ cs : List Addr, H' D = some (.lst (cs.map V.ref)) ∧ LaidsAt H' cs ((Ls.take i).filter (isKept p))) ⟨same_new (Same.refl H) nD, [], upd_same, LaidsAt.nil⟩ (fun i H' hi hm => SqT.of (hm.1 _ _ ea)) (fun i x H' hx hm => ?_) (fun H' hm => ?_)
    · obtain ⟨sm, cs, eD, lc⟩ := hm
      obtain ⟨b, L, rfl, _, eL, hb⟩ := laid_get la hx
      have hi' : i < Ls.length := (List.getElem?_eq_some_iff.mp eL).1
      have ht : (Ls.take (i + 1)).filter (isKept p) = (Ls.take i).filter (isKept p) ++ (if isKept p L = true then [L] else []) := by
        rw [List.take_add_one, eL]
        show (Ls.take i ++ [L]).filter (isKept p) = _
        rw [List.filter_append]
        congr 1
        by_cases h : isKept p L = true <;> simp [h]
      have hcl : cs.length ≤ 60 := by
        rw [lc.1]
        refine Nat.le_trans (List.length_filter_le _ _) ?_
        rw [List.length_take]
        omega
      obtain ⟨wa, eb, hw⟩ := id hb
      have yes : isKept p L = true → ∃ acc, H' D = some (.lst acc) ∧ acc.length < sizeLine ∧ (Same H (upd H' D (.lst (acc ++ [.ref b]))) ∧ ∃ cs : List Addr, upd H' D (.lst (acc ++ [.ref b])) D = some (.lst (cs.map V.ref)) ∧ LaidsAt (upd H' D (.lst (acc ++ [.ref b]))) cs ((Ls.take (i + 1)).filter (isKept p))) := fun hk => by
        refine ⟨_, eD, (by rw [List.length_map]; exact small1000 (by omega)), same_mine sm nD, cs ++ [b], ?_, ?_⟩
        · rw [List.map_append]
          exact upd_same
        · rw [ht, if_pos hk]
          exact (lc.snoc (hb.mono (Tups.same sm))).mono (Tups.ls eD)
      refine ⟨rfl, ?_⟩
      refine ⟨_, rfl, b, _, 1, _, rfl, rfl, SqT.of (sm _ _ eb), atI_nat (j := 1) rfl, _, rfl, _, _, rfl, rfl, _, rfl, ite2 (fun e => ?_) (fun e => ?_)⟩
      · have e : p ≤ L.pl := of_decide_eq_true e
        exact iteT ⟨_, rfl, yes (by unfold isKept; rw [decide_eq_true e]; rfl)⟩
      · have e : ¬ p ≤ L.pl := of_decide_eq_false (Bool.eq_false_iff.mpr e)
        refine ⟨_, rfl, _, rfl, b, L, p, rfl, hb.mono (Tups.same sm), _, _, rfl, rfl, _, rfl, ite2 (fun e2 => ?_) (fun e2 => ?_)⟩
        · have e2 : 0 < thickL L p := of_decide_eq_true e2
          exact ⟨_, rfl, yes (by unfold isKept; rw [decide_eq_true e2]; simp)⟩
        · have e2 : ¬ 0 < thickL L p := of_decide_eq_false (Bool.eq_false_iff.mpr e2)
          refine ⟨sm, cs, eD, ?_⟩
          rw [ht, if_neg (by unfold isKept; rw [decide_eq_false e, decide_eq_false e2]; decide), List.append_nil]
          exact lc
    · obtain ⟨sm, cs, eD, lc⟩ := hm
      rw [List.length_map, la.1, List.take_length] at lc
      have hk10 : ∀ L ∈ Ls.filter (isKept p), L.ps.length ≤ 10 := fun L hL => h10 L (List.mem_filter.mp hL).1
      have hk60 : (Ls.filter (isKept p)).length ≤ 60 := Nat.le_trans kept_len hl
      have ab : aboveOf p Ls = (Ls.filter (isKept p)).map (restL p) := rfl
      generalize Ls.filter (isKept p) = Ks at lc hk10 hk60 ab
      refine ⟨_, rfl, D, rfl, ⟨_, SqL.of eD⟩, fun D2 nD2 => ?_⟩
      refine lc_list (xs := cs.map V.ref) (fun i H2 => Same H' H2 ∧ ∃ ds : List Addr, H2 D2 = some (.lst (ds.map V.ref)) ∧ LaidsAt H2 ds ((Ks.take i).map (restL p))) ⟨same_new (Same.refl _) nD2, [], upd_same, LaidsAt.nil⟩ (fun i H2 hi hm => SqL.of (hm.1 _ _ eD)) (fun i x H2 hx hm => ?_) (fun H2 hm => ?_)
      · obtain ⟨sm2, ds, eD2, ld⟩ := hm
        obtain ⟨b, L, rfl, _, eL, hb⟩ := laid_get lc hx
        have hi' : i < Ks.length := (List.getElem?_eq_some_iff.mp eL).1
        have hdl : ds.length ≤ 60 := by
          rw [ld.1, List.length_map, List.length_take]
          omega
        refine ⟨rfl, yesIte ?_⟩
        refine ⟨_, rfl, _, rfl, b, L, p, rfl, hb.mono (Tups.same sm2), hk10 L (List.mem_of_getElem? eL), fun H3 o s3 no lo => ?_⟩
        have eD3 := s3 _ _ eD2
        refine ⟨_, eD3, (by rw [List.length_map]; exact small1000 (by omega)), same_mine (sm2.trans s3) nD2, ds ++ [o], ?_, ?_⟩
        · rw [List.map_append]
          exact upd_same
        · rw [take_map_succ _ eL]
          exact ((ld.mono (Tups.same s3)).snoc lo).mono (Tups.ls eD3)
      · obtain ⟨sm2, ds, eD2, ld⟩ := hm
        rw [List.length_map, lc.1, List.take_length, ← ab] at ld
        refine ⟨D2, _, rfl, .inl ⟨SqL.of eD2, fun U nU => ?_⟩⟩
        have s2 := sm.trans sm2
        exact q _ U (same_new s2 nU) (Same.free s2 nU) ⟨ds, upd_same, ld.mono (Tups.new nU)⟩
theorem ok_shows_thin {fC fW fL fT f : Addr} {fdC fdW fdL fdT fd : FuncData} (F : Fun K "shows_thin" "shows_thin" s_shows_thin f fd) (bi : Bi mg) (C_is_schedule : Cal P w K mg base "is_schedule" P_is_schedule 6 spSchedT fC fdC) (C_is_whole : Cal P w K mg base "is_whole" P_is_whole 1 spWholeT fW fdW)
    (C_laid_out : Cal P w K mg base "laid_out" P_laid_out 1 spLaidOut fL fdL) (C_thick : Cal P w K mg base "thick" P_thick 4 spThickS fT fdT) : FnOk P w K mg base CX0 7 f fd P_shows_thin spShows := by
  refine F.ok sc_shows_thin (fun vs H Q E h => ?_) (fun cdv A outer s H vs Q E hr h => ?_)
  · obtain ⟨r, u, low, place, Ws, t, rfl, _⟩ := h
    rfl
  · obtain ⟨r, u, low, place, Ws, t, rfl, hr', l1, l2, p0, p1, hu, q⟩ := h
    refine ⟨_, (pss_cons (ps_if (pw_or (pt_not (pt_val (pe_call (C_is_schedule.G.mono (by decide)) hr (by rfl) C_is_schedule.g C_is_schedule.kp C_is_schedule.b .nil pass0 (pa_cons (pv 0) (pa_cons (pv 3) pa_nil))))) (pw_or (pt_not (pt_val (pe_call (C_is_whole.G.mono (by decide)) hr (by rfl) C_is_whole.g C_is_whole.kp C_is_whole.b .nil pass0 (pa_cons (pv 1) (pa_cons pe_int pa_nil))))) (pw_or1 (pt_not (pt_val (pe_call (C_is_whole.G.mono (by decide)) hr (by rfl) C_is_whole.g C_is_whole.kp C_is_whole.b .nil pass0 (pa_cons (pv 2) (pa_cons pe_int pa_nil)))))))).pt
      (pss_one (ps_ret pe_bl))
      pss_nil)
    (pss_cons (ps_set (i := 4) sc_shows_thin.nd rfl (.inr rfl) (pe_call (C_laid_out.G.mono (by decide)) hr (by rfl) C_laid_out.g C_laid_out.kp C_laid_out.b .nil pass0 (pa_cons (pv 0) (pa_cons (pv 3) pa_nil))))
    (pss_cons (ps_setLc (i := 5) (own := [("number", 6), ("at", 7)]) (g := (gTup K 2 (gCons (gName 6) (gCons (gName 7) gNil)))) (tt := tYes) (te := (tAndV (tOp (rI0 fun i j => V.bl (decide (i ≤ j))) (tVar 7) (tVar 2)) (tOp (rI0 fun i j => V.bl (decide (i < j))) (tCall spThickS [] E0 (tCons (tSl (rSlA K) (tVar 4) tNoPart (tPart (tVar 6))) (tCons (tVar 7) tNil))) (tVar 1)))) rfl sc_shows_thin.nd rfl rfl (sw_true rfl rfl rfl (by decide +kernel)) (pi_enuT (by rfl) bi.m_enumerate (pa_cons (pv 3) pa_nil)) (blkOk_by (N := N_shows_thin) (sc := defScope s_shows_thin) (by decide +kernel)) (fun _ _ _ _ _ => (pg_tup rfl (pgs_cons (pg_name (i := 6) sc_shows_thin.nd rfl (.inl rfl) (.inr rfl)) (pgs_cons (pg_name (i := 7) sc_shows_thin.nd rfl (.inl rfl) (.inr rfl)) pgs_nil)))) (fun _ _ _ _ _ => pts_nil) (fun _ _ _ _ _ => (pe_and (pe_cmpR op_le (pv 7) (pv 2) (nomark _)) (pe_one (pe_cmpR op_lt (pe_call (C_thick.G.mono (by decide)) hr (by rfl) C_thick.g C_thick.kp C_thick.b .nil pass0 (pa_cons (pe_slice sl_tupA (pv 4) po_none (po_some (pv 6))) (pa_cons (pv 7) pa_nil))) (pv 1) (nomark _))))))
    (pss_one (ps_ret (pe_and (pe_callB (cr_all rfl) (by rfl) bi.m_all (by decide +kernel) (pa_cons (pv 5) pa_nil)) (pe_one (pe_cmpR op_lt (pe_call (C_thick.G.mono (by decide)) hr (by rfl) C_thick.g C_thick.kp C_thick.b .nil pass0 (pa_cons (pv 4) (pa_cons (pv 2) pa_nil))) (pv 1) (nomark _))))))))), ?_⟩
    have hWl : (Ws.map wispT).length = Ws.length := List.length_map wispT
    refine ⟨_, rfl, _, rfl, .ref r, u, _, t, rfl, hr'.th, hr'.isRow, hu, fun H1 s1 => ?_⟩
    rw [hWl]
    cases hsch : isSchedT Ws.length t with
    | false =>
      refine ⟨_, rfl, iteNF ?_⟩
      have := q _ s1
      rw [dueT_no hsch] at this
      exact this
    | true =>
      refine ⟨_, rfl, iteNT ?_⟩
      refine ⟨_, rfl, .int low, .int low, 1, rfl, .int low (by show -2 ^ 250 ≤ low; omega) l2, _, rfl, ?_⟩
      rw [show whT (.int low) 1 = true from decide_eq_true l1]
      refine iteNT ?_
      refine ⟨_, rfl, .int place, .int place, 0, rfl, .int place (by show -2 ^ 250 ≤ place; omega) p1, _, rfl, ?_⟩
      rw [show whT (.int place) 0 = true from decide_eq_true p0]
      refine iteNT ?_
      obtain ⟨a, ms, rfl, ea, rfl, hml, m0⟩ := sched_at hu hsch
      obtain ⟨as, er, ra, gw, h60⟩ := hr'
      refine ⟨_, rfl, _, rfl, r, a, as, Ws, ms, rfl, s1 _ _ er, ra.mono (Tups.same s1), s1 _ _ ea, hml.symm, h60, fun H2 d s2 nd hd => ?_⟩
      obtain ⟨ds, ed, ld⟩ := hd
      have ea2 := s2 _ _ (s1 _ _ ea)
      have hLl := laidAll_len Ws ms hml.symm
      refine ⟨_, rfl, a, _, rfl, SqT.of ea2, fun D nD => ?_⟩
      refine lc_it (walk_enuT (xs := ms.map V.int)) (fun i H' => Same H2 H' ∧ H' D = some (.lst (((List.range i).map fun k => decide (ms.getD k 0 ≤ place) && decide (thickS ([] ++ laidAll (Ws.take k) (ms.take k)) (ms.getD k 0) < low)).map V.bl))) ⟨same_new (Same.refl _) nD, upd_same⟩ (fun i H' hi hm => SqT.of (hm.1 _ _ ea2)) (fun i x H' Hx hi hm hy => ?_) (fun H3 hm => ?_)
      · obtain ⟨sm, eD⟩ := hm
        obtain ⟨T, x1, x2, rfl, nT, rfl, f1, f2⟩ := hy
        have e1 : x1 = .int (i : Nat) := (Option.some.inj f1).symm
        subst e1
        obtain ⟨m, rfl, em⟩ := int_get f2
        have hi' : i < ms.length := (List.getElem?_eq_some_iff.mp em).1
        have gd : ms.getD i 0 = m := by rw [List.getD_eq_getElem?_getD, em]; rfl
        have sT : Same H' (upd H' T (.tup [.int (i : Nat), .int m])) := same_new (Same.refl _) nT
        refine ⟨T, _, rfl, SqT.of upd_same, rfl, _, _, rfl, _, _, rfl, rfl, rfl, yesIte ?_⟩
        generalize upd H' T (.tup [.int (i : Nat), .int m]) = H4 at sT
        have s24 := sm.trans sT
        have fin : ∀ (H5 : Hp) (bb : Bool), Same H4 H5 → bb = (decide (m ≤ place) && decide (thickS ([] ++ laidAll (Ws.take i) (ms.take i)) m < low)) → ∃ acc, H5 D = some (HO.lst acc) ∧ acc.length < sizeLine ∧ Same H2 (upd H5 D (.lst (acc ++ [.bl bb]))) ∧ upd H5 D (.lst (acc ++ [.bl bb])) D = some (.lst (((List.range (i + 1)).map fun k => decide (ms.getD k 0 ≤ place) && decide (thickS ([] ++ laidAll (Ws.take k) (ms.take k)) (ms.getD k 0) < low)).map V.bl)) := fun H5 bb s5 hbb => by
          refine ⟨_, (sT.trans s5) _ _ eD, ?_, same_mine (s24.trans s5) nD, ?_⟩
          · rw [List.length_map, List.length_map, List.length_range]
            exact small1000 (by omega)
          · rw [upd_same, List.range_succ, List.map_append, List.map_append, hbb]
            show _ = some (HO.lst (_ ++ [V.bl (decide (ms.getD i 0 ≤ place) && decide (thickS ([] ++ laidAll (Ws.take i) (ms.take i)) (ms.getD i 0) < low))]))
            rw [gd]
        refine ⟨_, rfl, _, rfl, _, _, rfl, rfl, _, rfl, ite2 (fun e1 => ?_) (fun e1 => ?_)⟩
        · refine ⟨_, rfl, _, rfl, _, rfl, slA (s24 _ _ ed) fun H5 z s5 ez => ?_⟩
          rw [cut_take, ← List.map_take] at ez
          have hst : StrandAt H5 z (laidAll (Ws.take i) (ms.take i)) := ⟨ds.take i, ez, by rw [laidAll_take]; exact (ld.mono (Tups.same (s24.trans s5))).take i⟩
          refine ⟨_, rfl, z, _, m, rfl, hst, ?_, fun H6 s6 => ?_⟩
          · rw [laidAll_take, List.length_take]
            omega
          refine ⟨_, rfl, _, _, rfl, rfl, fin H6 _ (s5.trans s6) ?_⟩
          rw [e1, Bool.true_and]
          rfl
        · refine fin H4 _ (Same.refl _) ?_
          rw [Bool.eq_false_iff.mpr e1, Bool.false_and]
      obtain ⟨sm3, eD3⟩ := hm
      rw [List.length_map] at eD3
      refine ⟨_, rfl, D, _, rfl, SqL.of eD3, ?_⟩
      have hd3 : StrandAt H3 d (laidAll Ws ms) := ⟨ds, sm3 _ _ ed, ld.mono (Tups.same sm3)⟩
      have s03 := (s1.trans s2).trans sm3
      have qq : ∀ H', Same H H' → Q (.bl (((List.range ms.length).map fun k => decide (ms.getD k 0 ≤ place) && decide (thickS ([] ++ laidAll (Ws.take k) (ms.take k)) (ms.getD k 0) < low)).all id && decide (thickS ([] ++ laidAll Ws ms) place < low))) H' := fun H' sH => by
        have := q H' sH
        rw [dueT_tup, hsch, Bool.true_and, numT_ints, late_all low place ms Ws [] hml] at this
        exact this
      refine ⟨_, rfl, ite2 (fun e1 => ?_) (fun e1 => ?_)⟩
      · refine ⟨_, rfl, _, rfl, d, _, place, rfl, hd3, by omega, fun H4 s4 => ?_⟩
        refine ⟨_, rfl, _, _, rfl, rfl, ?_⟩
        have := qq _ (s03.trans s4)
        rw [e1, Bool.true_and] at this
        exact this
      · have := qq _ s03
        rw [Bool.eq_false_iff.mpr e1, Bool.false_and] at this
        exact this
theorem ok__law_begin {f : Addr} {fd : FuncData} {k : Nat} (F : Fun K "_law_begin" "_law_begin" s__law_begin f fd) (bi : Bi mg) : FnOk P w K mg base CX0 (k + 1) f fd P__law_begin (spBeginC K) := by
  refine F.ok sc__law_begin (fun vs H Q E h => ?_) (fun cdv A outer s H vs Q E hr h => ?_)
  · obtain ⟨a, ns, i, rfl, _⟩ := h
    rfl
  · obtain ⟨a, ns, i, rfl, hS, hn, i0, i1, q⟩ := h
    refine ⟨_, (C8.pss_cut (ps_set (i := 2) sc__law_begin.nd rfl (.inl rfl) (pe_ifExp (pt_cmpR op_lt (pv 1) (pe_callB call_len_seq (by rfl) bi.m_len (by decide +kernel) (pa_cons (pv 0) pa_nil)) (nomark _)) (pe_ix ix_list (pv 0) (pv 1) (fun _ _ => rfl)) pe_int))
    (pss_cons (ps_set (i := 3) sc__law_begin.nd rfl (.inl rfl) (pe_op op_add pe_int (pe_op op_mul pe_int (pv 1))))
    (pss_cons (ps_for PassesOwn.never rfl (pi_list (pe_slice sl_list (pv 0) po_none (po_some pe_int))) (pg_name (i := 4) sc__law_begin.nd rfl (.inl rfl))
      (pss_one (ps_set (i := 3) sc__law_begin.nd rfl (.inl rfl) (pe_op op_mod (pe_op op_add (pe_op op_add (pe_op op_mul (pv 3) pe_int) (pe_op op_mod (pv 4) pe_int)) pe_int) pe_int))))
    (pss_one (ps_ret (pe_lst (pa_cons (pe_op op_mul (pe_op op_mod (pe_callB call_abs (by rfl) bi.m_abs (by decide +kernel) (pa_cons (pv 2) pa_nil)) (pe_op op_mulW (pe_op op_pow pe_int pe_int) (pe_op op_pow pe_int pe_int))) (pe_callTy call_int1 (by rfl) bi.m_int (by decide +kernel) (pa_cons (pe_cmpR op_ge (pe_callB call_abs (by rfl) bi.m_abs (by decide +kernel) (pa_cons (pv 2) pa_nil)) (pe_op op_pow pe_int pe_int) (nomark _)) pa_nil))) (pa_cons (pv 3) (pa_cons pe_int pa_nil))))))))), ?_⟩
    refine ⟨fun σ' H' => ∃ c : Int, σ' = [some (.ref a), some (.int i), some (.int c), none, none] ∧ H' = H, ?_, fun σ' H' hm => ?_⟩
    · refine ⟨_, rfl, _, rfl, a, _, rfl, .inl hS, _, _, rfl, rfl, _, rfl, ite2 (fun e => ?_) (fun e => ?_)⟩
      · have e' : i < ((ns.map V.int).length : Int) := of_decide_eq_true e
        rw [List.length_map] at e'
        obtain ⟨j, rfl⟩ : ∃ j : Nat, i = j := ⟨i.toNat, by omega⟩
        have hjl : j < ns.length := by omega
        refine ⟨_, rfl, _, rfl, a, _, _, .int ns[j], rfl, rfl, hS, atI_nat (j := j) ?_, _, rfl, rfl⟩
        rw [List.getElem?_map, List.getElem?_eq_getElem hjl]
        rfl
      · exact ⟨_, rfl, rfl⟩
    obtain ⟨c, rfl, rfl⟩ := hm
    refine ⟨_, rfl, _, _, rfl, rfl, .inl ⟨by decide, by decide⟩, _, _, rfl, rfl, ?_⟩
    refine ⟨_, rfl, _, rfl, a, _, rfl, hS, fun D nD => ?_⟩
    have e63 : cutV (ns.map V.int) none (some 63) = (ns.take 63).map V.int := by
      have := cut_take (ns.map V.int) 63
      rw [← List.map_take] at this
      exact this
    rw [e63]
    refine ⟨D, rfl, ⟨_, SqL.of upd_same⟩, ?_⟩
    have sD : Same H' (upd H' D (.lst ((ns.take 63).map V.int))) := same_new (Same.refl _) nD
    have eD : upd H' D (.lst ((ns.take 63).map V.int)) D = some (.lst ((ns.take 63).map V.int)) := upd_same
    generalize upd H' D (.lst ((ns.take 63).map V.int)) = H1 at sD eD
    refine for_list (xs := (ns.take 63).map V.int) (fun j σ' H2 => H2 = H1 ∧ ∃ (x4 : Option V) (se : Int), σ' = [some (.ref a), some (.int i), some (.int c), some (.int se), x4] ∧ 0 ≤ se ∧ se < 2 ^ 62) ⟨rfl, _, _, rfl, by omega, by omega⟩ (fun j σ' H2 hj hm => ?_) (fun j x σ' H2 hx hm => ?_) (fun σ' H2 hm => ?_)
    · obtain ⟨rfl, _⟩ := hm
      exact SqL.of eD
    · obtain ⟨rfl, x4, se, rfl, h0, h1⟩ := hm
      obtain ⟨n, rfl, _⟩ := int_get hx
      refine ⟨_, rfl, _, _, rfl, rfl, .inr ⟨by decide, by decide⟩, _, rfl, _, _, rfl, rfl, (by show (0 : Int) < 1000000007; decide), _, _, rfl, rfl, _, _, rfl, rfl, _, _, rfl, rfl, (by show (0 : Int) < 2305843009213693951; decide), ?_⟩
      exact ⟨rfl, _, _, rfl, Int.emod_nonneg _ (by decide), Int.lt_trans (Int.emod_lt_of_pos _ (by decide)) (by decide)⟩
    obtain ⟨rfl, x4, se, rfl, h0, h1⟩ := hm
    refine ⟨_, rfl, c, rfl, _, _, rfl, rfl, ⟨by decide, by decide, by decide⟩, _, _, rfl, rfl, ⟨by decide, by decide, by decide⟩, _, _, rfl, rfl, (by unfold CMulW; decide +kernel), _, _, rfl, rfl, (by show (0 : Int) < 10 ^ (64 : Int).toNat * 10 ^ (60 : Int).toNat; decide +kernel), _, rfl, c, rfl, _, _, rfl, rfl, ⟨by decide, by decide, by decide⟩, _, _, rfl, rfl, .inr ⟨_, rfl, ?_⟩⟩
    generalize hb : (10 : Int) ^ (64 : Int).toNat * 10 ^ (60 : Int).toNat = B
    have B0 : 0 < B := by
      rw [← hb]
      decide +kernel
    generalize hab : (if c < 0 then -c else c) = ac
    have c0 := Int.emod_nonneg ac (Int.ne_of_gt B0)
    generalize hd : (if decide (10 ^ Int.toNat 18 ≤ ac) = true then (1 : Int) else 0) = d
    have d0 : 0 ≤ d ∧ d ≤ 1 := by
      rw [← hd]
      split <;> decide
    refine ⟨_, _, rfl, rfl, .inr ⟨by omega, by omega⟩, _, rfl, (by show 3 ≤ sizeLine; decide), fun p np => ?_⟩
    refine q _ p (same_new sD np) (sD.free np) ⟨_, _, 0, upd_same, Int.mul_nonneg c0 d0.1, h0, h1, Nat.le_refl _⟩
theorem ok__law_take {f : Addr} {fd : FuncData} {k : Nat} (F : Fun K "_law_take" "_law_take" s__law_take f fd) (bi : Bi mg) : FnOk P w K mg base CX0 (k + 1) f fd P__law_take spTakeC := by
  refine F.ok sc__law_take (fun vs H Q E h => ?_) (fun cdv A outer s H vs Q E hr h => ?_)
  · obtain ⟨p, T, many, rfl, _⟩ := h
    rfl
  · obtain ⟨p, T, many, rfl, hp, hT, m0, q⟩ := h
    refine ⟨_, (pss_cons (ps_if (pt_cmpR op_gt (pe_ix ix_list (pv 0) pe_int (fun _ _ => rfl)) pe_int (nomark _))
      (pss_cons (ps_set (i := 2) sc__law_take.nd rfl (.inl rfl) (pe_op op_mod (pe_ix ix_list (pv 0) pe_int (fun _ _ => rfl)) (pv 1)))
        (pss_cons (ps_asg (pe_op op_fdivW (pe_ix ix_list (pv 0) pe_int (fun _ _ => rfl)) (pv 1)) (pg_sub (pv 0) pe_int set_list))
        (pss_one (ps_ret (pv 2)))))
      pss_nil)
    (pss_cons (ps_asg (pe_op op_add (pe_ix ix_list (pv 0) pe_int (fun _ _ => rfl)) pe_int) (pg_sub (pv 0) pe_int set_list))
    (pss_cons (ps_set (i := 3) sc__law_take.nd rfl (.inl rfl) (pe_op op_mod (pe_op op_mul (pe_op op_add (pe_ix ix_list (pv 0) pe_int (fun _ _ => rfl)) (pe_op op_mul (pe_op op_mul pe_int (pe_ix ix_list (pv 0) pe_int (fun _ _ => rfl))) (pe_ix ix_list (pv 0) pe_int (fun _ _ => rfl)))) pe_int) pe_int))
    (pss_cons (ps_set (i := 3) sc__law_take.nd rfl (.inl rfl) (pe_op op_mod (pe_op op_mul (pv 3) (pe_op op_add (pe_op op_mod (pv 3) pe_int) (pe_op op_mul pe_int (pe_ix ix_list (pv 0) pe_int (fun _ _ => rfl))))) pe_int))
    (pss_one (ps_ret (pe_op op_mod (pe_op op_add (pe_op op_fdiv (pv 3) pe_int) (pe_op op_fdiv (pv 3) pe_int)) (pv 1)))))))), ?_⟩
    obtain ⟨c, m, t, ep, c0, s0, s1, tT⟩ := hp
    refine ⟨_, rfl, p, _, 0, _, rfl, rfl, SqL.of ep, atI_nat (j := 0) rfl, _, _, rfl, rfl, _, rfl, ite2 (fun e => ?_) (fun e => ?_)⟩
    · refine ⟨_, rfl, p, _, 0, _, rfl, rfl, SqL.of ep, atI_nat (j := 0) rfl, _, rfl, _, _, rfl, rfl, m0.1, ?_⟩
      refine ⟨_, rfl, p, _, 0, _, rfl, rfl, SqL.of ep, atI_nat (j := 0) rfl, _, rfl, _, _, rfl, rfl, m0, _, rfl, p, _, 0, 0, rfl, rfl, ep, rfl, ?_⟩
      exact ⟨_, rfl, q _ _ (Int.emod_nonneg _ (Int.ne_of_gt m0.1)) (Int.emod_lt_of_pos _ m0.1) ⟨_, m, t, upd_same, Int.ediv_nonneg c0 (Int.le_of_lt m0.1), s0, s1, by omega⟩ Keep.refl.own⟩
    · refine ⟨_, rfl, p, _, 2, _, rfl, rfl, SqL.of ep, atI_nat (j := 2) rfl, _, _, rfl, rfl, _, rfl, p, _, 2, 2, rfl, rfl, ep, rfl, ?_⟩
      have ep1 : upd H p (.lst [.int c, .int m, .int ((t : Int) + 1)]) p = some (.lst [.int c, .int m, .int ((t : Int) + 1)]) := upd_same
      have k1 : Keep p p H (upd H p (.lst [.int c, .int m, .int ((t : Int) + 1)])) := Keep.refl.own
      show tSeq _ _ _ _ (upd H p (.lst [.int c, .int m, .int ((t : Int) + 1)]))
      generalize upd H p (.lst [.int c, .int m, .int ((t : Int) + 1)]) = H1 at ep1 k1
      refine ⟨_, rfl, p, _, 1, _, rfl, rfl, SqL.of ep1, atI_nat (j := 1) rfl, _, rfl, p, _, 2, _, rfl, rfl, SqL.of ep1, atI_nat (j := 2) rfl, _, _, rfl, rfl, .inl ⟨by decide, by decide⟩, _, rfl, p, _, 2, _, rfl, rfl, SqL.of ep1, atI_nat (j := 2) rfl, _, _, rfl, rfl, .inr ⟨by omega, by omega⟩, _, _, rfl, rfl, _, _, rfl, rfl, .inr ⟨by decide, by decide⟩, _, _, rfl, rfl, (by show (0 : Int) < 2305843009213693921; decide), ?_⟩
      have b2 : ∀ x : Int, -(2 ^ 64) < x % 2305843009213693921 ∧ x % 2305843009213693921 < 2 ^ 64 := fun x => ⟨by omega, by omega⟩
      refine ⟨_, rfl, _, rfl, _, _, rfl, rfl, (by show (0 : Int) < 1000003; decide), _, rfl, p, _, 2, _, rfl, rfl, SqL.of ep1, atI_nat (j := 2) rfl, _, _, rfl, rfl, .inl ⟨by decide, by decide⟩, _, _, rfl, rfl, _, _, rfl, rfl, .inl (b2 _), _, _, rfl, rfl, (by show (0 : Int) < 2305843009213693907; decide), ?_⟩
      refine ⟨_, rfl, _, _, rfl, rfl, ⟨by decide, by decide⟩, _, rfl, _, _, rfl, rfl, ⟨by decide, by decide⟩, _, _, rfl, rfl, _, rfl, _, _, rfl, rfl, m0.1, ?_⟩
      exact q _ _ (Int.emod_nonneg _ (Int.ne_of_gt m0.1)) (Int.emod_lt_of_pos _ m0.1) ⟨c, m, t + 1, ep1, c0, s0, s1, by omega⟩ k1
theorem ok__law_of {f fT : Addr} {fd fdT : FuncData} (F : Fun K "_law_of" "_law_of" s__law_of f fd) (bi : Bi mg) (C__law_take : Cal P w K mg base "_law_take" P__law_take 1 spTakeC fT fdT) : FnOk P w K mg base CX0 2 f fd P__law_of spOfB := by
  refine F.ok sc__law_of (fun vs H Q E h => ?_) (fun cdv A outer s H vs Q E hr h => ?_)
  · obtain ⟨p, T, a, xs, rfl, _⟩ := h
    rfl
  · obtain ⟨p, T, a, xs, rfl, hp, hT, ea, nap, h1, h2, q⟩ := h
    refine ⟨_, (pss_one (ps_ret (pe_ix ix_list (pv 1) (pe_call (C__law_take.G.mono (by decide)) hr (by rfl) C__law_take.g C__law_take.kp C__law_take.b .nil pass0 (pa_cons (pv 0) (pa_cons (pe_callB call_len_seq (by rfl) bi.m_len (by decide +kernel) (pa_cons (pv 1) pa_nil)) pa_nil))) (fun _ _ => rfl)))), ?_⟩
    refine ⟨_, rfl, _, rfl, _, rfl, a, xs, rfl, .inl (SqL.of ea), p, T, (xs.length : Int), rfl, hp, by omega, wdiv (by omega) (by omega), fun d H1 d0 d1 hp1 k1 => ?_⟩
    obtain ⟨j, rfl⟩ : ∃ j : Nat, d = j := ⟨d.toNat, by omega⟩
    have hj : j < xs.length := by omega
    refine ⟨a, xs, _, xs[j], rfl, rfl, SqL.of (k1.at nap ea), atI_nat (List.getElem?_eq_getElem hj), ?_⟩
    exact q _ j _ (List.getElem?_eq_getElem hj) hp1 k1
theorem ok__law_drawn_wisp {f fT fO : Addr} {fd fdT fdO : FuncData} (F : Fun K "_law_drawn_wisp" "_law_drawn_wisp" s__law_drawn_wisp f fd) (bi : Bi mg) (C__law_take : Cal P w K mg base "_law_take" P__law_take 1 spTakeC fT fdT) (C__law_of : Cal P w K mg base "_law_of" P__law_of 2 spOfB fO fdO) : FnOk P w K mg base CX0 3 f fd P__law_drawn_wisp spDWisp74 := by
  refine F.ok sc__law_drawn_wisp (fun vs H Q E h => ?_) (fun cdv A outer s H vs Q E hr h => ?_)
  · obtain ⟨p, T, sty, rfl, _⟩ := h
    rfl
  · obtain ⟨p, T, sty, rfl, hp, hT, y0, y1, q⟩ := h
    refine ⟨_, (pss_cons (ps_par3 (i := 2) (j := 3) (l := 4) rfl sc__law_drawn_wisp.nd rfl rfl rfl (by decide) (by decide) (by decide) rfl rfl rfl (pa_cons (pe_op op_add pe_int (pe_call (C__law_take.G.mono (by decide)) hr (by rfl) C__law_take.g C__law_take.kp C__law_take.b .nil pass0 (pa_cons (pv 0) (pa_cons (pe_call (C__law_of.G.mono (by decide)) hr (by rfl) C__law_of.g C__law_of.kp C__law_of.b .nil pass0 (pa_cons (pv 0) (pa_cons (pe_lst (pa_cons pe_int (pa_cons pe_int (pa_cons pe_int (pa_cons pe_int pa_nil))))) pa_nil))) pa_nil)))) (pa_cons (pe_ix ix_list (pe_lst (pa_cons pe_int (pa_cons pe_int (pa_cons (pe_op op_pow pe_int pe_int) pa_nil)))) (pv 1) (fun _ _ => rfl)) (pa_cons (pe_lst pa_nil) pa_nil))) rfl)
    (pss_cons (ps_for PassesOwn.never rfl (pi_range1 rfl bi.m_range (pa_cons (pv 2) pa_nil)) (pg_name (i := 5) sc__law_drawn_wisp.nd rfl (.inl rfl))
      (pss_cons (ps_set (i := 3) sc__law_drawn_wisp.nd rfl (.inl rfl) (pe_op op_add (pe_op op_add (pv 3) pe_int) (pe_call (C__law_take.G.mono (by decide)) hr (by rfl) C__law_take.g C__law_take.kp C__law_take.b .nil pass0 (pa_cons (pv 0) (pa_cons pe_int pa_nil)))))
        (pss_cons (ps_set (i := 6) sc__law_drawn_wisp.nd rfl (.inl rfl) (pe_op op_add pe_int (pe_call (C__law_take.G.mono (by decide)) hr (by rfl) C__law_take.g C__law_take.kp C__law_take.b .nil pass0 (pa_cons (pv 0) (pa_cons (pe_call (C__law_of.G.mono (by decide)) hr (by rfl) C__law_of.g C__law_of.kp C__law_of.b .nil pass0 (pa_cons (pv 0) (pa_cons (pe_lst (pa_cons pe_int (pa_cons pe_int pa_nil))) pa_nil))) pa_nil)))))
        (C8.pss_cut (ps_if (pw_and (pt_cmpR op_eq (pv 1) pe_int (nomark _)) (pw_and1 (pt_cmpR op_eq (pe_call (C__law_take.G.mono (by decide)) hr (by rfl) C__law_take.g C__law_take.kp C__law_take.b .nil pass0 (pa_cons (pv 0) (pa_cons pe_int pa_nil))) pe_int (nomark _)))).pt
          (pss_one (ps_set (i := 6) sc__law_drawn_wisp.nd rfl (.inl rfl) (pe_op op_add (pe_op op_mul (pe_op op_pow pe_int pe_int) (pe_op op_add pe_int (pe_call (C__law_take.G.mono (by decide)) hr (by rfl) C__law_take.g C__law_take.kp C__law_take.b .nil pass0 (pa_cons (pv 0) (pa_cons pe_int pa_nil))))) (pe_call (C__law_take.G.mono (by decide)) hr (by rfl) C__law_take.g C__law_take.kp C__law_take.b .nil pass0 (pa_cons (pv 0) (pa_cons pe_int pa_nil))))))
          pss_nil)
        (pss_one (ps_expr (pe_bm PySem.F.plainAttrs_list PySem.F.slot_list_insert PySem.F.type_list_insert mt_insert (pv 4) (pa_cons pe_int (pa_cons (pe_tup (pa_cons (pv 3) (pa_cons (pv 6) pa_nil))) pa_nil)))))))))
    (pss_one (ps_ret (pe_tup (pa_cons (pe_call (C__law_take.G.mono (by decide)) hr (by rfl) C__law_take.g C__law_take.kp C__law_take.b .nil pass0 (pa_cons (pv 0) (pa_cons pe_int pa_nil))) (pa_cons (pe_callTy call_tuple_of (by rfl) bi.m_tuple (by decide +kernel) (pa_cons (pv 4) pa_nil)) pa_nil))))))), ?_⟩
    -- many
    refine ⟨_, rfl, _, rfl, (by show 4 ≤ sizeLine; decide), fun Z nZ => ?_⟩
    have nZp := hp.fresh nZ
    refine ⟨p, T, Z, [.int 1, .int 2, .int 3, .int 8], rfl, hp.new nZ, by omega, upd_same, nZp, by decide, by decide, fun H1 j x hx hp1 k1 => ?_⟩
    obtain ⟨b, rfl, b0, b1⟩ : ∃ b : Int, x = .int b ∧ 1 ≤ b ∧ b ≤ 8 := by
      have := List.mem_of_getElem? hx
      simp only [List.mem_cons, List.not_mem_nil, or_false] at this
      rcases this with h | h | h | h
      · exact ⟨1, h, by decide, by decide⟩
      · exact ⟨2, h, by decide, by decide⟩
      · exact ⟨3, h, by decide, by decide⟩
      · exact ⟨8, h, by decide, by decide⟩
    refine ⟨p, _, b, rfl, hp1, by omega, wdiv (by omega) (by omega), fun d H2 d0 d1 hp2 k2 => ⟨_, _, rfl, rfl, ?_⟩⟩
    have k02 : Keep p p H H2 := (Keep.refl.new nZ).trans (k1.trans k2)
    -- strong
    refine ⟨_, _, rfl, rfl, ⟨by decide, by decide, by decide⟩, (by show 3 ≤ sizeLine; decide), fun Y nY => ?_⟩
    have ix : ∃ st : Int, 0 ≤ st ∧ st ≤ 10 ^ 39 ∧ atI [V.int 0, V.int 0, V.int (10 ^ (39 : Int).toNat)] sty = some (.int st) := by
      have hw : sty = 0 ∨ sty = 1 ∨ sty = 2 := by omega
      rcases hw with rfl | rfl | rfl
      · exact ⟨0, by decide, by decide, rfl⟩
      · exact ⟨0, by decide, by decide, rfl⟩
      · exact ⟨10 ^ 39, by decide, by decide, rfl⟩
    obtain ⟨st0, t0, t1, est⟩ := ix
    refine ⟨_, rfl, Y, _, sty, _, rfl, rfl, SqL.of upd_same, est, ?_⟩
    have k03 : Keep p p H (upd H2 Y (.lst [.int 0, .int 0, .int (10 ^ (39 : Int).toNat)])) := k02.new nY
    have hp3 := hp2.new (o := .lst [.int 0, .int 0, .int (10 ^ (39 : Int).toNat)]) nY
    generalize upd H2 Y (.lst [.int 0, .int 0, .int (10 ^ (39 : Int).toNat)]) = H3 at k03 hp3
    refine ⟨Nat.zero_le _, fun R nR => ⟨_, _, _, rfl, ?_⟩⟩
    have nRp := hp3.fresh nR
    have nRH : H R = none := k03.freeC hp3 nR
    obtain ⟨N, hN⟩ : ∃ N : Nat, 1 + d = N := ⟨(1 + d).toNat, by omega⟩
    have hN8 : 1 ≤ N ∧ N ≤ 8 := by omega
    refine ⟨_, rfl, _, rfl, by omega, by omega, ?_⟩
    have hN' : (1 + d).toNat = N := by omega
    rw [hN']
    refine for_range (n := N) (fun i σ' H' => ∃ (x5 x6 : Option V) (st : Int) (as : List Addr) (ps : List (Int × Int)), σ' = [some (.ref p), some (.int sty), some (.int (1 + d)), some (.int st), some (.ref R), x5, x6] ∧ PotC H' p (T + 2 + 8 * i) ∧ Keep p p H H' ∧ H' R = some (.lst (as.map V.ref)) ∧ TupsAt H' as (ps.map stepV) ∧ ps.length = i ∧ 0 ≤ st ∧ st ≤ 10 ^ 39 + 3 * (i : Int) ∧ (Falls ps ∧ ∀ x ∈ ps, x.1 ≤ st) ∧ ∀ x ∈ ps, 1 ≤ x.1 ∧ x.1 < 2 ^ 135 ∧ 1 ≤ x.2 ∧ x.2 ≤ 2 ^ 104) ⟨_, _, st0, [], [], rfl, hp3.new nR, k03.new nR, upd_same, TupsAt.nil, rfl, t0, by omega, ⟨List.Pairwise.nil, fun x hx => by cases hx⟩, fun x hx => by cases hx⟩ (fun i σ' H' hi hm => ?_) (fun σ' H' hm => ?_)
    · obtain ⟨x5, x6, st, as, ps, rfl, hpi, ki, eR, tu, hl, u0, u1, fl, ok⟩ := hm
      refine ⟨_, rfl, _, _, rfl, rfl, _, rfl, p, _, _, rfl, hpi, by omega, ⟨by decide, by decide⟩, fun e1 H4 e10 e11 hp4 k4 => ⟨_, _, rfl, rfl, ?_⟩⟩
      have e11 : e1 < 3 := e11
      -- long
      refine ⟨_, rfl, _, rfl, (by show 2 ≤ sizeLine; decide), fun X nX => ?_⟩
      have nXp := hp4.fresh nX
      refine ⟨p, _, X, [.int 2, .int 5], rfl, hp4.new nX, by omega, upd_same, nXp, by decide, by decide, fun H5 j x hx hp5 k5 => ?_⟩
      obtain ⟨b5, rfl, b50, b51⟩ : ∃ b : Int, x = .int b ∧ 1 ≤ b ∧ b ≤ 5 := by
        have := List.mem_of_getElem? hx
        simp only [List.mem_cons, List.not_mem_nil, or_false] at this
        rcases this with h | h
        · exact ⟨2, h, by decide, by decide⟩
        · exact ⟨5, h, by decide, by decide⟩
      refine ⟨p, _, b5, rfl, hp5, by omega, wdiv (by omega) (by omega), fun d6 H6 d60 d61 hp6 k6 => ⟨_, _, rfl, rfl, ?_⟩⟩
      have k46 : Keep p p H' H6 := (k4.new nX).trans (k5.trans k6)
      -- far
      refine ⟨fun σ' H7 => ∃ lg : Int, σ' = [some (.ref p), some (.int sty), some (.int (1 + d)), some (.int (st + 1 + e1)), some (.ref R), some (.int (0 + i)), some (.int lg)] ∧ 1 ≤ lg ∧ lg ≤ 2 ^ 104 ∧ PotC H7 p (T + 2 + 8 * i + 6) ∧ Keep p p H' H7, ?_, fun σ' H7 hm => ?_⟩
      · refine ⟨_, rfl, rfl, _, rfl, ite2 (fun ea => ?_) (fun ea => ?_)⟩
        · refine ⟨_, rfl, p, _, _, rfl, hp6, by omega, ⟨by decide, by decide⟩, fun d7 H7 d70 d71 hp7 k7 => ⟨rfl, _, rfl, ?_⟩⟩
          refine ite2 (fun eb => ?_) (fun eb => ?_)
          · refine ⟨_, _, rfl, rfl, ⟨by decide, by decide, by decide⟩, _, rfl, p, _, _, rfl, hp7, by omega, ⟨by decide, by decide⟩, fun d8 H8 d80 d81 hp8 k8 => ⟨_, _, rfl, rfl, _, _, rfl, rfl, .inr ⟨by omega, ?_⟩, ?_⟩⟩
            · have : d8 < 9 := d81
              omega
            refine ⟨_, rfl, p, _, _, rfl, hp8, by omega, ⟨by decide, by decide⟩, fun d9 H9 d90 d91 hp9 k9 => ⟨_, _, rfl, rfl, ?_⟩⟩
            have d81 : d8 < 9 := d81
            have d91 : d9 < 9 := d91
            have e30 : (10 : Int) ^ (30 : Int).toNat = 10 ^ 30 := rfl
            refine ⟨_, rfl, ?_, ?_, hp9.mono (by omega), ((k46.trans k7).trans k8).trans k9⟩
            · show 1 ≤ 10 ^ (30 : Int).toNat * (1 + d8) + d9
              rw [e30]
              omega
            · show 10 ^ (30 : Int).toNat * (1 + d8) + d9 ≤ 2 ^ 104
              rw [e30]
              omega
          · exact ⟨_, rfl, by omega, by omega, hp7.mono (by omega), k46.trans k7⟩
        · exact ⟨_, rfl, by omega, by omega, hp6.mono (by omega), k46⟩
      obtain ⟨lg, rfl, lg0, lg1, hp7, k7⟩ := hm
      have eR7 := k7.at nRp eR
      have tu7 := tu.mono (k7.tupsC hpi)
      refine ⟨_, rfl, .inl ⟨rfl, _, SqL.of eR7⟩, _, rfl, _, rfl, (by show 2 ≤ sizeLine; decide), fun t nt => ?_⟩
      have eRt : upd H7 t (.tup [.int (st + 1 + e1), .int lg]) R = some (.lst (as.map V.ref)) := (upd_ne (ne_of_none eR7 nt)).trans eR7
      have hal : as.length = i := by rw [tu.1, List.length_map, hl]
      refine ⟨R, _, 0, _, rfl, rfl, eRt, ?_, by decide, by decide, ?_⟩
      · rw [List.length_map]
        exact small1000 (by omega)
      have tut : TupsAt (upd H7 t (.tup [.int (st + 1 + e1), .int lg])) (t :: as) (((st + 1 + e1, lg) :: ps).map stepV) := (tu7.mono (Tups.new nt)).cons upd_same
      refine ⟨_, _, st + 1 + e1, t :: as, (st + 1 + e1, lg) :: ps, rfl, ((hp7.new nt).other nRp).mono (by omega), ((ki.trans k7).new nt).mine nRH, upd_same, tut.mono (Tups.ls eRt), by rw [List.length_cons, hl], by omega, by omega, ⟨List.pairwise_cons.mpr ⟨fun x hx => by have := fl.2 x hx; show x.1 < st + 1 + e1; omega, fl.1⟩, fun x hx => by
        rcases List.mem_cons.mp hx with rfl | hx
        · exact Int.le_refl _
        · have := fl.2 x hx
          omega⟩, fun x hx => ?_⟩
      rcases List.mem_cons.mp hx with rfl | hx
      · refine ⟨?_, ?_, lg0, lg1⟩
        · show 1 ≤ st + 1 + e1
          omega
        · show st + 1 + e1 < 2 ^ 135
          omega
      · exact ok x hx
    · obtain ⟨x5, x6, st, as, ps, rfl, hpi, ki, eR, tu, hl, u0, u1, fl, ok⟩ := hm
      refine ⟨_, rfl, p, _, _, rfl, hpi, by omega, ⟨by decide, by decide⟩, fun so H4 so0 so1 hp4 k4 => ?_⟩
      have so1 : so < 2 := so1
      have eR4 := k4.at nRp eR
      refine ⟨_, rfl, R, _, rfl, .inl ⟨SqL.of eR4, fun U nU => ?_⟩⟩
      refine ⟨(by show 2 ≤ sizeLine; decide), fun W nW => ?_⟩
      have nW4 : H4 W = none := (same_new (o := .tup (as.map V.ref)) (Same.refl H4) nU).free nW
      have eU : upd (upd H4 U (.tup (as.map V.ref))) W (.tup [.int so, .ref U]) U = some (.tup (as.map V.ref)) := (upd_ne (ne_of_none upd_same nW)).trans upd_same
      have tu4 := ((tu.mono (k4.tupsC hpi)).mono (Tups.new (o := .tup (as.map V.ref)) nU)).mono (Tups.new (o := .tup [.int so, .ref U]) nW)
      have lb := longs_le (ps := ps) (B := 2 ^ 104) fun x hx => (ok x hx).2.2.2
      have lg8 : (ps.length : Int) * 2 ^ 104 ≤ 8 * 2 ^ 104 := Int.mul_le_mul_of_nonneg_right (by omega) (by decide)
      refine q _ W (so, ps) ⟨U, as, upd_same, eU, tu4⟩ ⟨⟨⟨by show 1 ≤ ps.length; omega, by show ps.length ≤ 10; omega, fun x hx => ?_⟩, so0, by show so ≤ 1; omega, ?_⟩, fl.1, by show ps.length ≤ 8; omega⟩ (fun x hx => ?_) (by show longs ps ≤ 2 ^ 107; omega) ((ki.trans k4).freeC hp4 nW4) (((hp4.new nU).new nW).mono (by omega)) (((ki.trans k4).new nU).new nW)
      · have := ok x hx
        omega
      · show longs ps < 2 ^ 110
        omega
      · have := fl.2 x hx
        omega
theorem ok__law_least {f fT : Addr} {fd fdT : FuncData} (F : Fun K "_law_least" "_law_least" s__law_least f fd) (bi : Bi mg) (C__law_take : Cal P w K mg base "_law_take" P__law_take 1 spTakeC fT fdT) : FnOk P w K mg base CX0 2 f fd P__law_least spLeast := by
  refine F.ok sc__law_least (fun vs H Q E h => ?_) (fun cdv A outer s H vs Q E hr h => ?_)
  · obtain ⟨p, T, sty, rfl, _⟩ := h
    rfl
  · obtain ⟨p, T, sty, rfl, hp, hT, q⟩ := h
    refine ⟨_, (pss_one (ps_ret (pe_ifExp (pt_cmpR op_lt (pv 1) pe_int (nomark _)) (pe_op op_add pe_int (pe_call (C__law_take.G.mono (by decide)) hr (by rfl) C__law_take.g C__law_take.kp C__law_take.b .nil pass0 (pa_cons (pv 0) (pa_cons pe_int pa_nil)))) (pe_op op_add (pe_op op_mul (pe_op op_pow pe_int pe_int) (pe_op op_add pe_int (pe_call (C__law_take.G.mono (by decide)) hr (by rfl) C__law_take.g C__law_take.kp C__law_take.b .nil pass0 (pa_cons (pv 0) (pa_cons pe_int pa_nil))))) (pe_call (C__law_take.G.mono (by decide)) hr (by rfl) C__law_take.g C__law_take.kp C__law_take.b .nil pass0 (pa_cons (pv 0) (pa_cons pe_int pa_nil))))))), ?_⟩
    refine ⟨_, rfl, _, _, rfl, rfl, _, rfl, ite2 (fun e => ?_) (fun e => ?_)⟩
    · refine ⟨_, rfl, p, _, _, rfl, hp, by omega, ⟨by decide, by decide⟩, fun d H1 d0 d1 hp1 k1 => ⟨_, _, rfl, rfl, ?_⟩⟩
      have d1 : d < 9 := d1
      exact q _ _ (by omega) (by omega) (hp1.mono (by omega)) k1
    · refine ⟨_, _, rfl, rfl, ⟨by decide, by decide, by decide⟩, _, rfl, p, _, _, rfl, hp, by omega, ⟨by decide, by decide⟩, fun d H1 d0 d1 hp1 k1 => ⟨_, _, rfl, rfl, _, _, rfl, rfl, .inr ⟨by omega, ?_⟩, ?_⟩⟩
      · have : d < 3 := d1
        omega
      refine ⟨_, rfl, p, _, _, rfl, hp1, by omega, ⟨by decide, by decide⟩, fun d2 H2 d20 d21 hp2 k2 => ⟨_, _, rfl, rfl, ?_⟩⟩
      have d1 : d < 3 := d1
      have d21 : d2 < 9 := d21
      refine q _ _ ?_ ?_ hp2 (k1.trans k2)
      · show 1 ≤ 10 ^ 39 * (1 + d) + d2
        omega
      · show 10 ^ 39 * (1 + d) + d2 < 2 ^ 140
        omega
theorem ok__law_strong_at {f : Addr} {fd : FuncData} {k : Nat} (F : Fun K "_law_strong_at" "_law_strong_at" s__law_strong_at f fd) (bi : Bi mg) : FnOk P w K mg base CX0 (k + 1) f fd P__law_strong_at spStrongB := by
  refine F.ok sc__law_strong_at (fun vs H Q E h => ?_) (fun cdv A outer s H vs Q E hr h => ?_)
  · obtain ⟨a, so, ps, k, rfl, _⟩ := h
    rfl
  · obtain ⟨a, so, ps, k, rfl, ⟨st, as, ea, es, tu⟩, q⟩ := h
    refine ⟨_, (pss_cons (ps_for PassesOwn.never rfl (pi_tup (pe_ix ix_tup (pv 0) pe_int (fun _ _ => rfl))) (pg_tup rfl (pgs_cons (pg_name (i := 2) sc__law_strong_at.nd rfl (.inl rfl)) (pgs_cons (pg_name (i := 3) sc__law_strong_at.nd rfl (.inl rfl)) pgs_nil)))
      (pss_cons (ps_if (pt_cmpR op_lt (pv 1) (pv 3) (nomark _))
          (pss_one (ps_ret (pv 2)))
          pss_nil)
        (pss_one (ps_set (i := 1) sc__law_strong_at.nd rfl (.inl rfl) (pe_op op_sub (pv 1) (pv 3))))))
    (pss_one (ps_ret pe_int))), ?_⟩
    refine ⟨_, rfl, a, _, 1, _, rfl, rfl, SqT.of ea, atI_nat (j := 1) rfl, st, rfl, ⟨_, SqT.of es⟩, for_tup (xs := as.map V.ref) (fun i σ' H' => H' = H ∧ ∃ (x2 x3 : Option V) (j : Int), σ' = [some (.ref a), some (.int j), x2, x3] ∧ thickAt ps k = thickAt (ps.drop i) j) ⟨rfl, _, _, k, rfl, rfl⟩ (fun i σ' H' hi hm => ?_) (fun i x σ' H' hx hm => ?_) (fun σ' H' hm => ?_)⟩
    · obtain ⟨rfl, _⟩ := hm
      exact SqT.of es
    · obtain ⟨rfl, x2, x3, j, rfl, e⟩ := hm
      obtain ⟨b, t, g, rfl, ep, eb⟩ := step_get tu hx
      have hd : ps.drop i = (t, g) :: ps.drop (i + 1) := by
        obtain ⟨h1, h2⟩ := List.getElem?_eq_some_iff.mp ep
        rw [← h2]
        exact List.drop_eq_getElem_cons h1
      rw [hd] at e
      have e : thickAt ps k = if j < g then t else thickAt (ps.drop (i + 1)) (j - g) := e
      refine ⟨b, _, rfl, SqT.of eb, rfl, _, _, rfl, _, _, rfl, rfl, ?_⟩
      refine ⟨_, rfl, _, rfl, _, _, rfl, rfl, _, rfl, ite2 (fun e2 => ?_) (fun e2 => ?_)⟩
      · have e2 : j < g := of_decide_eq_true e2
        rw [if_pos e2] at e
        refine ⟨_, rfl, ?_⟩
        rw [← e]
        exact q
      · have e2 : ¬ j < g := of_decide_eq_false (Bool.eq_false_iff.mpr e2)
        rw [if_neg e2] at e
        exact ⟨_, rfl, _, rfl, _, _, rfl, rfl, rfl, _, _, _, rfl, e⟩
    · obtain ⟨rfl, x2, x3, j, rfl, e⟩ := hm
      rw [List.length_map, tu.1, List.length_map, List.drop_length] at e
      have e : thickAt ps k = 0 := e
      rw [e] at q
      exact q
theorem ok__law_there {f fS : Addr} {fd fdS : FuncData} (F : Fun K "_law_there" "_law_there" s__law_there f fd) (bi : Bi mg) (C__law_strong_at : Cal P w K mg base "_law_strong_at" P__law_strong_at 1 spStrongB fS fdS) : FnOk P w K mg base CX0 2 f fd P__law_there spThere := by
  refine F.ok sc__law_there (fun vs H Q E h => ?_) (fun cdv A outer s H vs Q E hr h => ?_)
  · obtain ⟨a, Ls, p, rfl, _⟩ := h
    rfl
  · obtain ⟨a, Ls, p, rfl, ⟨as, ea, la⟩, q⟩ := h
    refine ⟨_, (pss_cons (ps_set (i := 2) sc__law_there.nd rfl (.inl rfl) pe_int)
    (pss_cons (ps_for PassesOwn.never rfl (pi_tup (pv 0)) (pg_tup rfl (pgs_cons (pg_name (i := 3) sc__law_there.nd rfl (.inl rfl)) (pgs_cons (pg_name (i := 4) sc__law_there.nd rfl (.inl rfl)) (pgs_cons (pg_name (i := 5) sc__law_there.nd rfl (.inl rfl)) pgs_nil))))
      (pss_one (ps_if (pw_and (pt_cmpR op_le (pv 4) (pv 1) (nomark _)) (pw_and1 (pw_or (pt_cmpR op_isN (pv 5) pe_non (nomark _)) (pw_or1 (pt_cmpR op_lt (pv 1) (pv 5) (nomark _)))).pt)).pt
          (pss_one (ps_set (i := 2) sc__law_there.nd rfl (.inl rfl) (pe_op op_add (pv 2) (pe_call (C__law_strong_at.G.mono (by decide)) hr (by rfl) C__law_strong_at.g C__law_strong_at.kp C__law_strong_at.b .nil pass0 (pa_cons (pv 3) (pa_cons (pe_op op_sub (pv 1) (pv 4)) pa_nil))))))
          pss_nil)))
    (pss_one (ps_ret (pv 2))))), ?_⟩
    refine ⟨_, rfl, a, rfl, ⟨_, SqT.of ea⟩, for_tup (xs := as.map V.ref) (fun i σ' H' => H' = H ∧ ∃ (x3 x4 x5 : Option V), σ' = [some (.ref a), some (.int p), some (.int (thickS (Ls.take i) p)), x3, x4, x5]) ⟨rfl, _, _, _, rfl⟩ (fun i σ' H' hi hm => ?_) (fun i x σ' H' hx hm => ?_) (fun σ' H' hm => ?_)⟩
    · obtain ⟨rfl, _⟩ := hm
      exact SqT.of ea
    · obtain ⟨rfl, x3, x4, x5, rfl⟩ := hm
      obtain ⟨b, L, rfl, _, eL, wa, eb, hw⟩ := laid_get la hx
      have e1 : thickS (Ls.take (i + 1)) p = thickS (Ls.take i) p + thickL L p := by
        rw [List.take_add_one, eL]
        show thickS (Ls.take i ++ [L]) p = _
        rw [thickS_app, thickS_one]
      refine ⟨b, _, rfl, SqT.of eb, rfl, _, _, rfl, _, _, rfl, _, _, rfl, rfl, ?_⟩
      have no : thickL L p = 0 → ∃ (x3 x4 x5 : Option V), [some (V.ref a), some (.int p), some (.int (thickS (Ls.take i) p)), some (.ref wa), some (.int L.pl), some (letV L.le)] = [some (V.ref a), some (.int p), some (.int (thickS (Ls.take (i + 1)) p)), x3, x4, x5] := fun e => by
        rw [e1, e, Int.add_zero]
        exact ⟨_, _, _, rfl⟩
      have yes : thickL L p = thickAt L.ps (p - L.pl) → ∃ x y, (V.int (thickS (Ls.take i) p)) = .int x ∧ V.int (thickAt L.ps (p - L.pl)) = .int y ∧ (H' = H' ∧ ∃ (x3 x4 x5 : Option V), [some (V.ref a), some (.int p), some (.int (x + y)), some (.ref wa), some (.int L.pl), some (letV L.le)] = [some (V.ref a), some (.int p), some (.int (thickS (Ls.take (i + 1)) p)), x3, x4, x5]) := fun e => by
        refine ⟨_, _, rfl, rfl, rfl, ?_⟩
        rw [e1, e]
        exact ⟨_, _, _, rfl⟩
      refine ⟨_, rfl, _, rfl, _, _, rfl, rfl, _, rfl, ite2 (fun e2 => ?_) (fun e2 => ?_)⟩
      · have e2 : L.pl ≤ p := of_decide_eq_true e2
        have tl : thickL L p = match L.le with | none => thickAt L.ps (p - L.pl) | some n => if p ≥ n then 0 else thickAt L.ps (p - L.pl) := by
          unfold thickL
          rw [if_neg (by omega)]
          all_goals (cases L.le <;> rfl)
        cases hle : L.le with
        | none =>
          rw [hle] at tl
          refine ⟨_, rfl, rfl, _, rfl, ?_⟩
          refine iteT ?_
          refine ⟨_, rfl, _, rfl, _, rfl, _, rfl, _, _, rfl, rfl, wa, L.so, L.ps, _, rfl, hw, ?_⟩
          have := yes tl
          rw [hle] at this
          exact this
        | some n =>
          rw [hle] at tl
          refine ⟨_, rfl, rfl, _, rfl, ?_⟩
          refine iteEqF (letV_some' n) ?_
          refine ⟨_, rfl, _, rfl, _, _, rfl, rfl, _, rfl, ite2 (fun e3 => ?_) (fun e3 => ?_)⟩
          · have e3 : p < n := of_decide_eq_true e3
            have tl : thickL L p = thickAt L.ps (p - L.pl) := by
              rw [tl]
              dsimp only
              rw [if_neg (by omega)]
            refine ⟨_, rfl, _, rfl, _, rfl, _, rfl, _, _, rfl, rfl, wa, L.so, L.ps, _, rfl, hw, ?_⟩
            have := yes tl
            rw [hle] at this
            exact this
          · have e3 : ¬ p < n := of_decide_eq_false (Bool.eq_false_iff.mpr e3)
            have tl : thickL L p = 0 := by
              rw [tl]
              dsimp only
              rw [if_pos (by omega)]
            have := no tl
            rw [hle] at this
            exact ⟨rfl, this⟩
      · have e2 : ¬ L.pl ≤ p := of_decide_eq_false (Bool.eq_false_iff.mpr e2)
        exact ⟨rfl, no (by
          unfold thickL
          rw [if_pos (by omega)])⟩
    · obtain ⟨rfl, x3, x4, x5, rfl⟩ := hm
      rw [List.length_map, la.1, List.take_length]
      exact ⟨_, rfl, q⟩
theorem ok__law_borders {f : Addr} {fd : FuncData} {k : Nat} (F : Fun K "_law_borders" "_law_borders" s__law_borders f fd) (bi : Bi mg) : FnOk P w K mg base CX0 (k + 1) f fd P__law_borders spBorders := by
  refine F.ok sc__law_borders (fun vs H Q E h => ?_) (fun cdv A outer s H vs Q E hr h => ?_)
  · obtain ⟨a, Ls, now, rfl, _⟩ := h
    rfl
  · obtain ⟨a, Ls, now, rfl, ⟨as, ea, la⟩, hl, hg, q⟩ := h
    have hu64 := hr.units
    refine ⟨_, (pss_cons (ps_set (i := 2) sc__law_borders.nd rfl (.inl rfl) (pe_disp (pps_cons (pv 1) pe_bl pps_nil) rfl rfl (by decide) (by decide)))
    (pss_cons (ps_for PassesOwn.never rfl (pi_tup (pv 0)) (pg_tup rfl (pgs_cons (pg_name (i := 3) sc__law_borders.nd rfl (.inl rfl)) (pgs_cons (pg_name (i := 4) sc__law_borders.nd rfl (.inl rfl)) (pgs_cons (pg_name (i := 5) sc__law_borders.nd rfl (.inl rfl)) pgs_nil))))
      (pss_cons (ps_dput (hu1 hu64) (pv 2) (pv 4) pe_bl rfl)
        (C8.pss_cut (ps_if (pt_cmpR op_notN (pv 5) pe_non (nomark _))
          (pss_one (ps_dput (hu1 hu64) (pv 2) (pv 5) pe_bl rfl))
          pss_nil)
        (pss_one (ps_for PassesOwn.never rfl (pi_tup (pe_ix ix_tup (pv 3) pe_int (fun _ _ => rfl))) (pg_tup rfl (pgs_cons (pg_name (i := 6) sc__law_borders.nd rfl (.inl rfl)) (pgs_cons (pg_name (i := 7) sc__law_borders.nd rfl (.inl rfl)) pgs_nil)))
          (pss_cons (ps_set (i := 4) sc__law_borders.nd rfl (.inl rfl) (pe_op op_add (pv 4) (pv 7)))
            (pss_one (ps_dput (hu1 hu64) (pv 2) (pv 4) pe_bl rfl))))))))
    (pss_one (ps_ret (pe_lc (own := [("_law_place", 8)]) (g := (gName 8)) rfl sc__law_borders.nd (pi_list (pe_callB (call_sortD rfl) (by rfl) bi.m_sorted (by decide +kernel) (pa_cons (pv 2) pa_nil))) (blkOk_by (N := N__law_borders) (sc := defScope s__law_borders) (by decide +kernel)) (fun _ _ _ _ _ => (pg_name (i := 8) sc__law_borders.nd rfl (.inl rfl) (.inr rfl))) (fun _ _ _ _ _ => (pts_one (pt_cmpR op_ge (pv 8) (pv 1) (nomark _)))) (fun _ _ _ _ _ => (pv 8))))))), ?_⟩
    intro d nd
    refine ⟨_, rfl, upd_same, [(Sum.inl now, .bl true)], rfl, (by show 1 ≤ 15; decide), ?_⟩
    have s0 : Same H (upd (upd H d (.dK [])) d (.dK (mergeK [] [((Sum.inl now : Key), V.bl true)]))) := same_mine (same_new (Same.refl H) nd) nd
    have D0 : DSet (upd (upd H d (.dK [])) d (.dK (mergeK [] [((Sum.inl now : Key), V.bl true)]))) d 1 (fun k => k = now ∨ ∃ L ∈ Ls.take 0, LKey L k) := by
      refine ⟨_, upd_same, ⟨fun x hx => ?_, by show ([Sum.inl now] : List Key).Nodup; simp⟩, Nat.le_refl _, fun k => ?_⟩
      · have hx : x ∈ [((Sum.inl now : Key), V.bl true)] := hx
        simp only [List.mem_cons, List.not_mem_nil, or_false] at hx
        rw [hx]
        exact ⟨now, rfl⟩
      · show (∃ v, valV [((Sum.inl now : Key), V.bl true)] (Sum.inl k) = some v) ↔ _
        by_cases e : now = k
        · rw [valV_pos (show ((Sum.inl now : Key), V.bl true).1 = Sum.inl k by rw [e])]
          exact ⟨fun _ => .inl e.symm, fun _ => ⟨_, rfl⟩⟩
        · rw [valV_neg (fun z => e (Sum.inl.inj z))]
          constructor
          · rintro ⟨v, z⟩
            cases z
          · rintro (z | ⟨L, hL, _⟩)
            · exact absurd z.symm e
            · cases hL
    show tSeq _ _ _ _ (upd (upd H d (.dK [])) d (.dK (mergeK [] [((Sum.inl now : Key), V.bl true)])))
    generalize upd (upd H d (.dK [])) d (.dK (mergeK [] [((Sum.inl now : Key), V.bl true)])) = H0 at s0 D0
    refine ⟨_, rfl, a, rfl, ⟨_, SqT.of (s0 _ _ ea)⟩, for_tup (xs := as.map V.ref) (fun i σ' H' => ∃ (x3 x4 x5 x6 x7 x8 : Option V), σ' = [some (.ref a), some (.int now), some (.ref d), x3, x4, x5, x6, x7, x8] ∧ Same H H' ∧ DSet H' d (1 + 12 * i) (fun k => k = now ∨ ∃ L ∈ Ls.take i, LKey L k)) ⟨_, _, _, _, _, _, rfl, s0, D0⟩ (fun i σ' H' hi hm => ?_) (fun i x σ' H' hx hm => ?_) (fun σ' H' hm => ?_)⟩
    · obtain ⟨x3, x4, x5, x6, x7, x8, rfl, sm, _⟩ := hm
      exact SqT.of (sm _ _ ea)
    · obtain ⟨x3, x4, x5, x6, x7, x8, rfl, sm, D⟩ := hm
      obtain ⟨b, L, rfl, _, eL, wa, eb, st, cs, ew, es, tu⟩ := laid_get la hx
      have gL := hg L (List.mem_of_getElem? eL)
      have h10 := gL.1.2.1
      have hi60 : i < 60 := by
        have := (List.getElem?_eq_some_iff.mp eL).1
        omega
      refine ⟨b, _, rfl, SqT.of (sm _ _ eb), rfl, _, _, rfl, _, _, rfl, _, _, rfl, rfl, ?_⟩
      -- at
      obtain ⟨kvs1, ed1, l1, D1⟩ := D.put (S' := fun k => (k = now ∨ ∃ L ∈ Ls.take i, LKey L k) ∨ k = L.pl) L.pl fun x => Iff.rfl
      refine ⟨_, rfl, _, rfl, d, _, rfl, DPut.k (k := Sum.inl L.pl) ed1 (small2000 (by omega)), ?_⟩
      have s1 : Same H (upd H' d (.dK (putK kvs1 (Sum.inl L.pl) (.bl true)))) := same_mine sm nd
      show C8.tCut _ _ _ _ (upd H' d (.dK (putK kvs1 (Sum.inl L.pl) (.bl true))))
      generalize upd H' d (.dK (putK kvs1 (Sum.inl L.pl) (.bl true))) = H1 at D1 s1
      -- let
      refine ⟨fun σ' H2 => σ' = [some (.ref a), some (.int now), some (.ref d), some (.ref wa), some (.int L.pl), some (letV L.le), x6, x7, x8] ∧ Same H H2 ∧ DSet H2 d (1 + 12 * i + 2) (fun k => (k = now ∨ ∃ L ∈ Ls.take i, LKey L k) ∨ k = L.pl ∨ L.le = some k), ?_, fun σ' H2 hm => ?_⟩
      · refine ⟨_, rfl, rfl, _, rfl, ?_⟩
        cases hle : L.le with
        | none =>
          refine iteF ?_
          refine ⟨rfl, s1, D1.congr (by omega) fun x => ?_⟩
          constructor
          · rintro (h | h | h)
            · exact .inl h
            · exact .inr h
            · cases h
          · rintro (h | h)
            · exact .inl h
            · exact .inr (.inl h)
        | some n =>
          obtain ⟨kvs2, ed2, l2, D2⟩ := D1.put (S' := fun k => (k = now ∨ ∃ L ∈ Ls.take i, LKey L k) ∨ k = L.pl ∨ some n = some k) n fun x => by
            constructor
            · rintro (h | h | h)
              · exact .inl (.inl h)
              · exact .inl (.inr h)
              · exact .inr (Option.some.inj h).symm
            · rintro ((h | h) | h)
              · exact .inl h
              · exact .inr (.inl h)
              · exact .inr (.inr (by rw [h]))
          refine iteEqT (letV_some n) ?_
          refine ⟨_, rfl, _, rfl, d, _, rfl, DPut.k (k := Sum.inl n) ed2 (small2000 (by omega)), ?_⟩
          exact ⟨rfl, same_mine s1 nd, D2⟩
      obtain ⟨rfl, s2, D2⟩ := hm
      refine ⟨_, rfl, wa, _, 1, _, rfl, rfl, SqT.of (s2 _ _ ew), atI_nat (j := 1) rfl, st, rfl, ⟨_, SqT.of (s2 _ _ es)⟩, ?_⟩
      have hcl : cs.length = L.ps.length := by
        rw [tu.1, List.length_map]
      refine for_tup (xs := cs.map V.ref) (fun j σ' H3 => ∃ (x6 x7 : Option V), σ' = [some (.ref a), some (.int now), some (.ref d), some (.ref wa), some (.int (L.pl + longs (L.ps.take j))), some (letV L.le), x6, x7, x8] ∧ Same H H3 ∧ DSet H3 d (1 + 12 * i + 2 + j) (fun k => (k = now ∨ ∃ L ∈ Ls.take i, LKey L k) ∨ k = L.pl ∨ L.le = some k ∨ ∃ m, m < j ∧ k = L.pl + longs (L.ps.take (m + 1)))) ⟨x6, x7, ?_, s2, D2.congr (Nat.le_refl _) fun x => ?_⟩ (fun j σ' H3 hj hm => ?_) (fun j x σ' H3 hx hm => ?_) (fun σ' H3 hm => ?_)
      · rw [show L.pl + longs (L.ps.take 0) = L.pl by show L.pl + 0 = L.pl; omega]
      · constructor
        · rintro (h | h | h | ⟨m, hm, _⟩)
          · exact .inl h
          · exact .inr (.inl h)
          · exact .inr (.inr h)
          · exact absurd hm (Nat.not_lt_zero _)
        · rintro (h | h | h)
          · exact .inl h
          · exact .inr (.inl h)
          · exact .inr (.inr (.inl h))
      · obtain ⟨x6, x7, rfl, s3, _⟩ := hm
        exact SqT.of (s3 _ _ es)
      · obtain ⟨x6, x7, rfl, s3, D3⟩ := hm
        obtain ⟨z, t, g, rfl, ep, ez⟩ := step_get tu hx
        have hj10 : j < 10 := by
          have := (List.getElem?_eq_some_iff.mp ep).1
          omega
        refine ⟨z, _, rfl, SqT.of (s3 _ _ ez), rfl, _, _, rfl, _, _, rfl, rfl, ?_⟩
        refine ⟨_, rfl, _, rfl, _, _, rfl, rfl, ?_⟩
        have eg : L.pl + longs (L.ps.take j) + g = L.pl + longs (L.ps.take (j + 1)) := by
          rw [longs_take ep]
          omega
        obtain ⟨kvs4, ed4, l4, D4⟩ := D3.put (S' := fun k => (k = now ∨ ∃ L ∈ Ls.take i, LKey L k) ∨ k = L.pl ∨ L.le = some k ∨ ∃ m, m < j + 1 ∧ k = L.pl + longs (L.ps.take (m + 1))) (L.pl + longs (L.ps.take j) + g) fun x => by
          rw [eg]
          constructor
          · rintro (h | h | h | ⟨m, hm, h⟩)
            · exact .inl (.inl h)
            · exact .inl (.inr (.inl h))
            · exact .inl (.inr (.inr (.inl h)))
            · by_cases e : m = j
              · exact .inr (by rw [h, e])
              · exact .inl (.inr (.inr (.inr ⟨m, by omega, h⟩)))
          · rintro ((h | h | h | ⟨m, hm, h⟩) | h)
            · exact .inl h
            · exact .inr (.inl h)
            · exact .inr (.inr (.inl h))
            · exact .inr (.inr (.inr ⟨m, by omega, h⟩))
            · exact .inr (.inr (.inr ⟨j, by omega, h⟩))
        refine ⟨_, rfl, _, rfl, d, _, rfl, DPut.k (k := Sum.inl (L.pl + longs (L.ps.take j) + g)) ed4 (small2000 (by omega)), ?_⟩
        refine ⟨some (.int t), some (.int g), ?_, same_mine s3 nd, D4⟩
        rw [← eg]
        rfl
      · obtain ⟨x6, x7, rfl, s3, D3⟩ := hm
        refine ⟨_, _, _, _, _, _, rfl, s3, D3.congr ?_ fun k => ?_⟩
        · rw [List.length_map]
          omega
        · rw [List.length_map, hcl, List.take_add_one, eL]
          unfold LKey
          constructor
          · rintro (h | ⟨M, hM, h⟩)
            · exact .inl (.inl h)
            · rcases List.mem_append.mp hM with hM | hM
              · exact .inl (.inr ⟨M, hM, h⟩)
              · simp only [Option.toList_some, List.mem_cons, List.not_mem_nil, or_false] at hM
                rw [hM] at h
                exact .inr h
          · rintro ((h | ⟨M, hM, h⟩) | h)
            · exact .inl h
            · exact .inr ⟨M, by simp [hM], h⟩
            · exact .inr ⟨L, by simp, h⟩
    · obtain ⟨x3, x4, x5, x6, x7, x8, rfl, sm, kvs, ed, ik, hk, hv⟩ := hm
      rw [List.length_map, la.1] at hk hv
      rw [List.take_length] at hv
      obtain ⟨ks, e1, e2, e3, e4⟩ := keys_of ik
      refine ⟨_, rfl, d, kvs, ks, rfl, ed, e1, fun ys S hperm hsort nS => ?_⟩
      have sS : Same H (upd H' S (.lst (ys.map V.int))) := same_new sm nS
      have eS : upd H' S (.lst (ys.map V.int)) S = some (.lst (ys.map V.int)) := upd_same
      have hys := sorted_strict hperm hsort e3
      have hyl : ys.length ≤ 1000 := by
        have := hperm.length_eq
        omega
      have hym : ∀ k, k ∈ ys ↔ BKey Ls now k := fun k => by
        rw [hperm.mem_iff, e4, hv]
        exact Iff.rfl
      refine ⟨S, rfl, ⟨_, SqL.of eS⟩, fun D nD => ?_⟩
      generalize upd H' S (.lst (ys.map V.int)) = H2 at sS eS nD
      refine lc_list (xs := ys.map V.int) (fun j H3 => Same H2 H3 ∧ H3 D = some (.lst (((ys.take j).filter fun k => decide (now ≤ k)).map V.int)) ∧ j ≤ 1000) ⟨same_new (Same.refl _) nD, upd_same, Nat.zero_le _⟩ (fun j H3 hj hm => SqL.of (hm.1 _ _ eS)) (fun j x H3 hx hm => ?_) (fun H3 hm => ?_)
      · obtain ⟨s3, eD, hj⟩ := hm
        obtain ⟨n, rfl, en⟩ := int_get hx
        have hj2 : j < ys.length := (List.getElem?_eq_some_iff.mp en).1
        have et : (ys.take (j + 1)).filter (fun k => decide (now ≤ k)) = (ys.take j).filter (fun k => decide (now ≤ k)) ++ (if now ≤ n then [n] else []) := by
          rw [List.take_add_one, en, List.filter_append]
          congr 1
          show List.filter _ [n] = _
          rw [List.filter_cons, List.filter_nil]
          by_cases e : now ≤ n
          · rw [if_pos (decide_eq_true e), if_pos e]
          · rw [if_neg (by rw [decide_eq_false e]; decide), if_neg e]
        refine ⟨rfl, _, rfl, _, rfl, _, _, rfl, rfl, _, rfl, ?_⟩
        refine ite2 (fun e => ?_) (fun e => ?_)
        · have e : now ≤ n := of_decide_eq_true e
          refine ⟨_, rfl, _, eD, ?_, same_mine s3 nD, ?_, by omega⟩
          · rw [List.length_map]
            exact small1000 (Nat.le_trans (List.length_filter_le _ _) (by rw [List.length_take]; omega))
          · rw [upd_same, et, if_pos e, List.map_append]
            rfl
        · have e : ¬ now ≤ n := of_decide_eq_false (Bool.eq_false_iff.mpr e)
          refine ⟨s3, ?_, by omega⟩
          rw [eD, et, if_neg e, List.append_nil]
      · obtain ⟨s3, eD, _⟩ := hm
        rw [List.length_map, List.take_length] at eD
        refine q H3 D _ (sS.trans s3) (sS.free nD) eD ⟨hys.filter _, fun k => ?_, Nat.le_trans (List.length_filter_le _ _) hyl⟩
        rw [List.mem_filter, hym, decide_eq_true_iff]
theorem ok__law_first_thin {f fT fB : Addr} {fd fdT fdB : FuncData} (F : Fun K "_law_first_thin" "_law_first_thin" s__law_first_thin f fd) (bi : Bi mg) (C__law_there : Cal P w K mg base "_law_there" P__law_there 2 spThere fT fdT) (C__law_borders : Cal P w K mg base "_law_borders" P__law_borders 1 spBorders fB fdB) : FnOk P w K mg base CX0 3 f fd P__law_first_thin spFirstThin := by
  refine F.ok sc__law_first_thin (fun vs H Q E h => ?_) (fun cdv A outer s H vs Q E hr h => ?_)
  · obtain ⟨a, Ls, low, now, rfl, _⟩ := h
    rfl
  · obtain ⟨a, Ls, low, now, rfl, hs, hl, hg, l1, q⟩ := h
    refine ⟨_, (pss_cons (ps_for PassesOwn.never rfl (pi_list (pe_call (C__law_borders.G.mono (by decide)) hr (by rfl) C__law_borders.g C__law_borders.kp C__law_borders.b .nil pass0 (pa_cons (pv 0) (pa_cons (pv 2) pa_nil)))) (pg_name (i := 3) sc__law_first_thin.nd rfl (.inl rfl))
      (pss_one (ps_if (pt_cmpR op_lt (pe_call (C__law_there.G.mono (by decide)) hr (by rfl) C__law_there.g C__law_there.kp C__law_there.b .nil pass0 (pa_cons (pv 0) (pa_cons (pv 3) pa_nil))) (pv 1) (nomark _))
          (pss_one (ps_ret (pv 3)))
          pss_nil)))
    (pss_one (ps_ret pe_non))), ?_⟩
    refine ⟨_, rfl, _, rfl, a, Ls, now, rfl, hs, hl, hg, fun H1 o ns s1 no eo hb => ?_⟩
    refine ⟨o, rfl, ⟨_, SqL.of eo⟩, for_list (xs := ns.map V.int) (fun i σ' H' => H' = H1 ∧ ∃ (x3 : Option V), σ' = [some (.ref a), some (.int low), some (.int now), x3] ∧ ∀ (j : Nat) (k : Int), j < i → ns[j]? = some k → low ≤ thickS Ls k) ⟨rfl, _, rfl, fun j k hj => absurd hj (Nat.not_lt_zero _)⟩ (fun i σ' H' hi hm => ?_) (fun i x σ' H' hx hm => ?_) (fun σ' H' hm => ?_)⟩
    · obtain ⟨rfl, _⟩ := hm
      exact SqL.of eo
    · obtain ⟨rfl, x3, rfl, inv⟩ := hm
      obtain ⟨n, rfl, en⟩ := int_get hx
      refine ⟨_, rfl, _, rfl, a, Ls, n, rfl, hs.mono (Tups.same s1), _, rfl, _, _, rfl, rfl, _, rfl, ite2 (fun e => ?_) (fun e => ?_)⟩
      · have e : thickS Ls n < low := of_decide_eq_true e
        exact ⟨_, rfl, q _ n s1 (border_first hg hb en e inv)⟩
      · have e : ¬ thickS Ls n < low := of_decide_eq_false (Bool.eq_false_iff.mpr e)
        refine ⟨rfl, _, rfl, fun j k hj hk => ?_⟩
        by_cases hji : j = i
        · subst hji
          have : n = k := Option.some.inj (en.symm.trans hk)
          subst this
          omega
        · exact inv j k (by omega) hk
    · obtain ⟨rfl, x3, rfl, inv⟩ := hm
      rw [List.length_map] at inv
      exact (border_some hg l1 hb inv).elim
theorem steps_sh {ps : List (Int × Int)} (h : ps.length ≤ 8) : SeqAt.shaped (.list (ps.map fun p => PyData.tuple [.int p.1, .int p.2])) = true := by
  match ps, h with
  | [], _ => rfl
  | [_], _ => rfl
  | [_, _], _ => rfl
  | [_, _, _], _ => rfl
  | [_, _, _, _], _ => rfl
  | [_, _, _, _, _], _ => rfl
  | [_, _, _, _, _, _], _ => rfl
  | [_, _, _, _, _, _, _], _ => rfl
  | [_, _, _, _, _, _, _, _], _ => rfl
  | _ :: _ :: _ :: _ :: _ :: _ :: _ :: _ :: _ :: _, h => simp at h
theorem ok__law_small_row {fT f : Addr} {fdT fd : FuncData} (F : Fun K "_law_small_row" "_law_small_row" s__law_small_row f fd) (bi : Bi mg) (C__law_take : Cal P w K mg base "_law_take" P__law_take 1 spTakeC fT fdT) : FnOk P w K mg base CX0 2 f fd P__law_small_row spSmallRow := by
  refine F.ok sc__law_small_row (fun vs H Q E h => ?_) (fun cdv A outer s H vs Q E hr h => ?_)
  · obtain ⟨p, T, rfl, _⟩ := h
    rfl
  · obtain ⟨p, T, rfl, hp, hT, q⟩ := h
    have hu64 := hr.units
    refine ⟨_, (pss_cons (ps_asg (pe_tup (pa_cons (pe_tup pa_nil) (pa_cons pe_int pa_nil))) (pg_tup rfl (pgs_cons (pg_name (i := 1) sc__law_small_row.nd rfl (.inl rfl)) (pgs_cons (pg_name (i := 2) sc__law_small_row.nd rfl (.inl rfl)) pgs_nil))))
    (pss_cons (ps_for PassesOwn.never rfl (pi_range1 rfl bi.m_range (pa_cons (pe_call (C__law_take.G.mono (by decide)) hr (by rfl) C__law_take.g C__law_take.kp C__law_take.b .nil pass0 (pa_cons (pv 0) (pa_cons pe_int pa_nil))) pa_nil)) (pg_name (i := 3) sc__law_small_row.nd rfl (.inl rfl))
      (pss_cons (ps_par (i := 4) (j := 5) rfl sc__law_small_row.nd rfl rfl (by decide) rfl rfl (pa_cons (pe_lst pa_nil) (pa_cons pe_int pa_nil)) rfl)
        (pss_cons (ps_for PassesOwn.never rfl (pi_range1 rfl bi.m_range (pa_cons (pe_op op_add pe_int (pe_call (C__law_take.G.mono (by decide)) hr (by rfl) C__law_take.g C__law_take.kp C__law_take.b .nil pass0 (pa_cons (pv 0) (pa_cons pe_int pa_nil)))) pa_nil)) (pg_name (i := 6) sc__law_small_row.nd rfl (.inl rfl))
          (pss_cons (ps_par (i := 7) (j := 5) rfl sc__law_small_row.nd rfl rfl (by decide) rfl rfl (pa_cons (pe_op op_add pe_int (pe_call (C__law_take.G.mono (by decide)) hr (by rfl) C__law_take.g C__law_take.kp C__law_take.b .nil pass0 (pa_cons (pv 0) (pa_cons pe_int pa_nil)))) (pa_cons (pe_op op_add (pe_op op_add (pv 5) pe_int) (pe_call (C__law_take.G.mono (by decide)) hr (by rfl) C__law_take.g C__law_take.kp C__law_take.b .nil pass0 (pa_cons (pv 0) (pa_cons pe_int pa_nil)))) pa_nil)) rfl)
            (pss_one (ps_if (pt_cmpR op_le (pv 7) (pv 2) (nomark _))
              (pss_cons (ps_expr (pe_bm PySem.F.plainAttrs_list PySem.F.slot_list_insert PySem.F.type_list_insert mt_insert (pv 4) (pa_cons pe_int (pa_cons (pe_tup (pa_cons (pv 5) (pa_cons (pv 7) pa_nil))) pa_nil))))
                (pss_one (ps_set (i := 2) sc__law_small_row.nd rfl (.inl rfl) (pe_op op_sub (pv 2) (pv 7)))))
              pss_nil))))
        (pss_one (ps_set (i := 1) sc__law_small_row.nd rfl (.inl rfl) (pe_op op_catA (pv 1) (pe_op op_rep01 (pe_tup (pa_cons (pe_tup (pa_cons (pe_call (C__law_take.G.mono (by decide)) hr (by rfl) C__law_take.g C__law_take.kp C__law_take.b .nil pass0 (pa_cons (pv 0) (pa_cons pe_int pa_nil))) (pa_cons (pe_callTy call_tuple_of (by rfl) bi.m_tuple (by decide +kernel) (pa_cons (pv 4) pa_nil)) pa_nil))) pa_nil)) (pe_callTy call_int1 (by rfl) bi.m_int (by decide +kernel) (pa_cons (pe_cmpR (op_neD hu64) (pv 4) (pe_lst pa_nil) (nomark _)) pa_nil)))))))))
    (pss_one (ps_ret (pv 1))))), ?_⟩
    refine ⟨Nat.zero_le _, fun A0 n0 => ?_⟩
    refine ⟨(by show 2 ≤ sizeLine; decide), fun Z nZ => ⟨Z, _, rfl, SqT.of upd_same, rfl, _, _, rfl, _, _, rfl, rfl, ?_⟩⟩
    have e0 : upd (upd H A0 (.tup [])) Z (.tup [.ref A0, .int 8]) A0 = some (.tup []) := (upd_ne (ne_of_none upd_same nZ)).trans upd_same
    have hp0 := (hp.new (o := .tup []) n0).new (o := .tup [.ref A0, .int 8]) nZ
    have k0 : Keep p p H (upd (upd H A0 (.tup [])) Z (.tup [.ref A0, .int 8])) := (Keep.refl.new n0).new nZ
    generalize upd (upd H A0 (.tup [])) Z (.tup [.ref A0, .int 8]) = H0 at e0 hp0 k0
    refine ⟨_, rfl, p, T, 4, rfl, hp0, by omega, wdiv (by omega) (by omega), fun d H1 d0 d1 hp1 k1 => ?_⟩
    have e1 := k1.tupsC hp0 _ _ e0
    refine ⟨d, rfl, by omega, by omega, ?_⟩
    refine for_range (n := d.toNat) (fun i σ' H' => ∃ (x3 x4 x5 x6 x7 : Option V) (A : Addr) (as : List Addr) (Ws : List Wi) (room : Int), σ' = [some (.ref p), some (.ref A), some (.int room), x3, x4, x5, x6, x7] ∧ PotC H' p (T + 1 + 9 * i) ∧ Keep p p H H' ∧ H' A = some (.tup (as.map V.ref)) ∧ RowAt H' as Ws ∧ Ws.length ≤ i ∧ (∀ W ∈ Ws, GoodT W ∧ ∀ x ∈ W.2, x.1 ≤ 8) ∧ (Ws.map fun W => longs W.2).sum + room = 8 ∧ 0 ≤ room) ⟨_, _, _, _, _, A0, [], [], 8, rfl, hp1, k0.trans k1, e1, RowAt.nil, Nat.le_refl _, (fun W hW => by cases hW), rfl, by decide⟩ (fun i σ' H' hi hm => ?_) (fun σ' H' hm => ?_)
    · obtain ⟨x3, x4, x5, x6, x7, A, as, Ws, room, rfl, hpi, ki, eA, hrow, hl, gW, hsum, r0⟩ := hm
      refine ⟨Nat.zero_le _, fun R nR => ⟨_, _, rfl, ?_⟩⟩
      have nRp := hpi.fresh nR
      have nRH : H R = none := ki.freeC hpi nR
      have hp2 := hpi.new (o := .lst []) nR
      have k2 := ki.new (o := .lst []) nR
      have eR : upd H' R (.lst []) R = some (.lst []) := upd_same
      have t2 := Tups.new (o := .lst []) nR
      generalize upd H' R (.lst []) = H2 at hp2 k2 eR t2
      refine ⟨_, rfl, p, _, 2, rfl, hp2, by omega, wdiv (by omega) (by omega), fun e H3 e0 e1 hp3 k3 => ⟨_, _, rfl, rfl, 1 + e, rfl, by omega, by omega, ?_⟩⟩
      have eR3 := k3.at nRp eR
      have t3 : Tups H' H3 := t2.trans (k3.tupsC hp2)
      have k03 := k2.trans k3
      refine for_range (n := (1 + e).toNat) (fun j σ' H4 => ∃ (x6 x7 : Option V) (st rm : Int) (bs : List Addr) (ps : List (Int × Int)), σ' = [some (.ref p), some (.ref A), some (.int rm), some (.int (0 + i)), some (.ref R), some (.int st), x6, x7] ∧ PotC H4 p (T + 1 + 9 * i + 1 + 2 * j) ∧ Keep p p H H4 ∧ Tups H' H4 ∧ H4 R = some (.lst (bs.map V.ref)) ∧ TupsAt H4 bs (ps.map stepV) ∧ Falls ps ∧ (∀ x ∈ ps, x.1 ≤ st ∧ 1 ≤ x.1 ∧ 1 ≤ x.2 ∧ x.2 ≤ 2) ∧ ps.length ≤ j ∧ 0 ≤ st ∧ st ≤ 4 * (j : Int) ∧ longs ps + rm = room ∧ 0 ≤ rm) ⟨_, _, 0, room, [], [], rfl, hp3, k03, t3, eR3, TupsAt.nil, List.Pairwise.nil, (fun x hx => by cases hx), Nat.le_refl _, by decide, by decide, (by show (0 : Int) + room = room; omega), r0⟩ (fun j σ' H4 hj hm => ?_) (fun σ' H4 hm => ?_)
      · obtain ⟨x6, x7, st, rm, bs, ps, rfl, hp4, k4, t4, eR4, tu, fa, bd, hpl, st0, st1, hlg, rm0⟩ := hm
        refine ⟨_, rfl, p, _, 2, rfl, hp4, by omega, wdiv (by omega) (by omega), fun g H5 g0 g1 hp5 k5 => ⟨_, _, rfl, rfl, ?_⟩⟩
        refine ⟨_, rfl, _, _, rfl, rfl, _, rfl, p, _, 3, rfl, hp5, by omega, wdiv (by omega) (by omega), fun u H6 u0 u1 hp6 k6 => ⟨_, _, rfl, rfl, ?_⟩⟩
        have k46 := k5.trans k6
        have tu6 := tu.mono (k46.tupsC hp4)
        have eR6 := k46.at nRp eR4
        have t6 := t4.trans (k46.tupsC hp4)
        refine ⟨_, _, rfl, ?_⟩
        refine ⟨_, rfl, _, rfl, _, _, rfl, rfl, _, rfl, ite2 (fun e => ?_) (fun e => ?_)⟩
        · have e : 1 + g ≤ rm := of_decide_eq_true e
          refine ⟨_, rfl, .inl ⟨rfl, _, SqL.of eR6⟩, _, rfl, _, rfl, (by show 2 ≤ sizeLine; decide), fun t nt => ?_⟩
          have eRt : upd H6 t (.tup [.int (st + 1 + u), .int (1 + g)]) R = some (.lst (bs.map V.ref)) := (upd_ne (ne_of_none eR6 nt)).trans eR6
          have hbs : bs.length = ps.length := by
            have := tu.1
            rw [List.length_map] at this
            exact this
          refine ⟨R, _, 0, _, rfl, rfl, eRt, ?_, by decide, by decide, ?_⟩
          · rw [List.length_map]
            exact small1000 (by omega)
          have tut : TupsAt (upd H6 t (.tup [.int (st + 1 + u), .int (1 + g)])) (t :: bs) (((st + 1 + u, 1 + g) :: ps).map stepV) := (tu6.mono (Tups.new nt)).cons upd_same
          have fa' : Falls ((st + 1 + u, 1 + g) :: ps) := List.pairwise_cons.mpr ⟨fun x hx => by have := bd x hx; show x.1 < st + 1 + u; omega, fa⟩
          have u1 : u < 3 := u1
          have g1 : g < 2 := g1
          refine ⟨_, rfl, _, rfl, _, _, rfl, rfl, ?_⟩
          refine ⟨_, _, st + 1 + u, rm - (1 + g), t :: bs, (st + 1 + u, 1 + g) :: ps, rfl, ((hp6.new nt).other nRp).mono (by omega), ((k4.trans k46).new nt).mine nRH, ?_, upd_same, tut.mono (Tups.ls eRt), fa', fun x hx => ?_, by rw [List.length_cons]; omega, by omega, by omega, ?_, by omega⟩
          · exact (t6.trans (Tups.new nt)).trans (Tups.ls eRt)
          · rcases List.mem_cons.mp hx with rfl | hx
            · refine ⟨Int.le_refl _, ?_, ?_, ?_⟩
              · show 1 ≤ st + 1 + u
                omega
              · show 1 ≤ 1 + g
                omega
              · show 1 + g ≤ 2
                omega
            · have := bd x hx
              omega
          · rw [longs_cons]
            show 1 + g + longs ps + (rm - (1 + g)) = room
            omega
        · have u1 : u < 3 := u1
          exact ⟨_, _, st + 1 + u, rm, bs, ps, rfl, hp6.mono (by omega), k4.trans k46, t6, eR6, tu6, fa, fun x hx => by have := bd x hx; omega, by omega, by omega, by omega, hlg, rm0⟩
      · obtain ⟨x6, x7, st, rm, bs, ps, rfl, hp4, k4, t4, eR4, tu, fa, bd, hpl, st0, st1, hlg, rm0⟩ := hm
        have eA4 := t4 _ _ eA
        have hrow4 := hrow.mono t4
        refine ⟨_, rfl, _, rfl, p, _, 2, rfl, hp4, by omega, wdiv (by omega) (by omega), fun so H5 so0 so1 hp5 k5 => ?_⟩
        have so1 : so < 2 := so1
        have eR5 := k5.at nRp eR4
        have t5 := k5.tupsC hp4
        refine ⟨_, rfl, R, _, rfl, .inl ⟨SqL.of eR5, fun U nU => ?_⟩⟩
        refine ⟨(by show 2 ≤ sizeLine; decide), fun W nW => ⟨(by show 1 ≤ sizeLine; decide), fun X nX => ?_⟩⟩
        have s1 : Same H5 (upd H5 U (.tup (bs.map V.ref))) := same_new (Same.refl _) nU
        have eU : upd H5 U (.tup (bs.map V.ref)) U = some (.tup (bs.map V.ref)) := upd_same
        generalize upd H5 U (.tup (bs.map V.ref)) = H6 at s1 eU nW nX ⊢
        have s2 : Same H6 (upd H6 W (.tup [.int so, .ref U])) := same_new (Same.refl _) nW
        have eW : upd H6 W (.tup [.int so, .ref U]) W = some (.tup [.int so, .ref U]) := upd_same
        generalize upd H6 W (.tup [.int so, .ref U]) = H7 at s2 eW nX ⊢
        have s3 : Same H7 (upd H7 X (.tup [.ref W])) := same_new (Same.refl _) nX
        have eX : upd H7 X (.tup [.ref W]) X = some (.tup [.ref W]) := upd_same
        generalize upd H7 X (.tup [.ref W]) = H8 at s3 eX ⊢
        refine ⟨_, rfl, Nat.zero_le _, fun Y nY => ?_⟩
        have s4 : Same H8 (upd H8 Y (.lst [])) := same_new (Same.refl _) nY
        have eY : upd H8 Y (.lst []) Y = some (.lst []) := upd_same
        generalize upd H8 Y (.lst []) = H9 at s4 eY ⊢
        have s59 : Same H5 H9 := ((s1.trans s2).trans s3).trans s4
        have tu9 := (tu.mono t5).mono (Tups.same s59)
        have hp9 := hp5.same s59
        have k9 : Keep p p H H9 := (k4.trans k5).trans (Same.keep s59)
        have eA9 := s59 _ _ (t5 _ _ eA4)
        have hrow9 := (hrow4.mono t5).mono (Tups.same s59)
        have eX9 := s4 _ _ eX
        have hww : WispAt H9 W so ps := ⟨U, bs, s4 _ _ (s3 _ _ eW), s4 _ _ (s3 _ _ (s2 _ _ eU)), tu9⟩
        have sh : SeqAt.shaped (.list (ps.map fun p => PyData.tuple [.int p.1, .int p.2])) = true := steps_sh (by omega)
        refine ⟨.list (ps.map fun p => PyData.tuple [.int p.1, .int p.2]), .list [], .lst (SqL.of (s59 _ _ eR5)) (tups_dp tu9), .lst (SqL.of eY) .nil, sh, rfl, .inr ⟨_, rfl, ?_⟩⟩
        by_cases hne : ps = []
        · subst hne
          refine ⟨X, false, _, rfl, rfl, SqT.of eX9, (fun h => by cases h), (fun h => by cases h), fun _ V0 nV => ?_⟩
          have s10 : Same H9 (upd H9 V0 (.tup [])) := same_new (Same.refl _) nV
          refine catA (s10 _ _ eA9) upd_same (Nat.le_of_lt (small1000 ?_)) fun H11 A1 s11 eA1 => ?_
          · rw [List.length_map, hrow.1]
            show Ws.length + 0 ≤ 1000
            omega
          rw [List.append_nil] at eA1
          have s911 := s10.trans s11
          exact ⟨_, _, _, _, _, A1, as, Ws, rm, rfl, (hp9.same s911).mono (by omega), k9.trans (Same.keep s911), eA1, hrow9.mono (Tups.same s911), by omega, gW, by have hlg : (0 : Int) + rm = room := hlg; omega, rm0⟩
        · have e : PyData.eqv (.list (ps.map fun p => PyData.tuple [.int p.1, .int p.2])) (.list []) = false := by
            cases ps with
            | nil => exact absurd rfl hne
            | cons x r => rfl
          rw [e]
          refine ⟨X, true, _, rfl, rfl, SqT.of eX9, (fun h => by cases h), (fun _ => ?_), fun h => by cases h⟩
          refine catA eA9 eX9 (Nat.le_of_lt (small1000 ?_)) fun H11 A1 s11 eA1 => ?_
          · rw [List.length_map, hrow.1]
            show Ws.length + 1 ≤ 1000
            omega
          have g1 : GoodT (so, ps) ∧ ∀ x ∈ ps, x.1 ≤ 8 := by
            refine ⟨⟨⟨⟨?_, by show ps.length ≤ 10; omega, fun x hx => ?_⟩, so0, by show so ≤ 1; omega, ?_⟩, fa, by show ps.length ≤ 8; omega⟩, fun x hx => ?_⟩
            · exact List.length_pos_iff.mpr hne
            · have := bd x hx
              omega
            · have := longs_le (ps := ps) (B := 2) fun x hx => (bd x hx).2.2.2
              show longs ps < 2 ^ 110
              omega
            · have := bd x hx
              omega
          refine ⟨_, _, _, _, _, A1, as ++ [W], Ws ++ [(so, ps)], rm, rfl, (hp9.same s11).mono (by omega), k9.trans (Same.keep s11), ?_, (hrow9.snoc hww).mono (Tups.same s11), ?_, fun Z hZ => ?_, ?_, rm0⟩
          · rw [List.map_append]
            exact eA1
          · rw [List.length_append]
            show Ws.length + 1 ≤ i + 1
            omega
          · rcases List.mem_append.mp hZ with hZ | hZ
            · exact gW Z hZ
            · rw [List.mem_singleton.mp hZ]
              exact g1
          · rw [List.map_append, List.sum_append]
            show _ + (longs ps + 0) + rm = 8
            omega
    · obtain ⟨x3, x4, x5, x6, x7, A, as, Ws, room, rfl, hpi, ki, eA, hrow, hl, gW, hsum, r0⟩ := hm
      exact ⟨_, rfl, q _ A as Ws eA hrow ⟨gW, by omega, by omega⟩ (hpi.mono (by omega)) ki⟩
theorem sched_zero (most : Int) (ns : List Int) : ns ∈ [([] : List Int)] ↔ SchedOk 0 most ns := by
  rw [List.mem_singleton]
  constructor
  · rintro rfl
    exact ⟨rfl, List.Pairwise.nil, fun x hx => by cases hx⟩
  · rintro ⟨h, _⟩
    exact List.length_eq_zero_iff.mp h
/-- the last one of them, 0 of none -/
def lastI : List Int → Int
  | [] => 0
  | [x] => x
  | _ :: y :: r => lastI (y :: r)
theorem lastI_snoc (ns : List Int) (x : Int) : lastI (ns ++ [x]) = x := by
  induction ns with
  | nil => rfl
  | cons y r ih =>
    cases r with
    | nil => rfl
    | cons z s => exact ih
theorem lastI_up {n : Nat} {most : Int} {ns : List Int} (h : SchedOk n most ns) : ∀ x ∈ ns, x ≤ lastI ns := by
  rcases List.eq_nil_or_concat ns with e | ⟨r, y, e⟩
  · subst e
    intro x hx
    cases hx
  · rw [List.concat_eq_append] at e
    subst e
    rw [lastI_snoc]
    intro x hx
    have p := (List.pairwise_append.mp h.2.1).2.2
    rcases List.mem_append.mp hx with hx | hx
    · exact p x hx y (by simp)
    · rw [List.mem_singleton.mp hx]
      exact Int.le_refl _
theorem lastI_0 {n : Nat} {most : Int} {ns : List Int} (h : SchedOk n most ns) (m0 : 0 ≤ most) : 0 ≤ lastI ns ∧ lastI ns ≤ most := by
  rcases List.eq_nil_or_concat ns with e | ⟨r, y, e⟩
  · subst e
    exact ⟨Int.le_refl _, m0⟩
  · rw [List.concat_eq_append] at e
    subst e
    rw [lastI_snoc]
    exact h.2.2 y (by simp)
theorem cut_lastI (ns : List Int) : ∃ ks : List Int, cutV (ns.map V.int) (some (-1)) none = ks.map V.int ∧ ks.length ≤ 1 ∧ ((ns = [] ∧ ks = []) ∨ ks = [lastI ns]) := by
  rcases List.eq_nil_or_concat ns with e | ⟨r, y, e⟩
  · subst e
    exact ⟨[], rfl, by decide, .inl ⟨rfl, rfl⟩⟩
  · rw [List.concat_eq_append] at e
    subst e
    refine ⟨[y], ?_, Nat.le_refl _, .inr (by rw [lastI_snoc])⟩
    rw [List.map_append]
    exact cut_only _ _
theorem sched_more {n : Nat} {most : Int} {ns : List Int} (m0 : 0 ≤ most) : SchedOk (n + 1) most ns ↔ ∃ ms x, SchedOk n most ms ∧ lastI ms ≤ x ∧ x ≤ most ∧ ns = ms ++ [x] := by
  constructor
  · intro h
    rcases List.eq_nil_or_concat ns with e | ⟨r, y, e⟩
    · subst e
      cases h.1
    · rw [List.concat_eq_append] at e
      subst e
      have h1 := h.1
      rw [List.length_append] at h1
      have p := List.pairwise_append.mp h.2.1
      have hr : SchedOk n most r := ⟨Nat.succ.inj h1, p.1, fun x hx => h.2.2 x (by simp [hx])⟩
      refine ⟨r, y, hr, ?_, (h.2.2 y (by simp)).2, rfl⟩
      rcases List.eq_nil_or_concat r with e | ⟨r', z, e⟩
      · subst e
        exact (h.2.2 y (by simp)).1
      · rw [List.concat_eq_append] at e
        subst e
        rw [lastI_snoc]
        exact p.2.2 z (by simp) y (by simp)
  · rintro ⟨ms, x, h, h1, h2, rfl⟩
    have l0 := lastI_0 h m0
    refine ⟨by rw [List.length_append, h.1]; rfl, List.pairwise_append.mpr ⟨h.2.1, List.pairwise_singleton _ _, fun a ha b hb => ?_⟩, fun y hy => ?_⟩
    · rw [List.mem_singleton.mp hb]
      exact Int.le_trans (lastI_up h a ha) h1
    · rcases List.mem_append.mp hy with hy | hy
      · exact h.2.2 y hy
      · rw [List.mem_singleton.mp hy]
        omega
theorem ok__law_all_schedules {f : Addr} {fd : FuncData} (F : Fun K "_law_all_schedules" "_law_all_schedules" s__law_all_schedules f fd) (bi : Bi mg) : FnOk P w K mg base CX0 (k + 1) f fd P__law_all_schedules spAllSched := by
  refine F.ok sc__law_all_schedules (fun vs H Q E h => ?_) (fun cdv A outer s H vs Q E hr h => ?_)
  · obtain ⟨n, most, rfl, _⟩ := h
    rfl
  · obtain ⟨n, most, rfl, hn, m0, m8, q⟩ := h
    have hu64 := hr.units
    refine ⟨_, (pss_cons (ps_set (i := 2) sc__law_all_schedules.nd rfl (.inl rfl) (pe_lst (pa_cons (pe_tup pa_nil) pa_nil)))
    (pss_cons (ps_for PassesOwn.never rfl (pi_range1 rfl bi.m_range (pa_cons (pv 0) pa_nil)) (pg_name (i := 3) sc__law_all_schedules.nd rfl (.inl rfl))
      (pss_cons (ps_set (i := 4) sc__law_all_schedules.nd rfl (.inl rfl) (pe_lst pa_nil))
        (pss_cons (ps_for PassesOwn.never rfl (pi_list (pv 2)) (pg_name (i := 5) sc__law_all_schedules.nd rfl (.inr rfl))
          (pss_one (ps_expr (pe_bm PySem.F.plainAttrs_list PySem.F.slot_list_extend PySem.F.type_list_extend mt_extend (pv 4) (pa_cons (pe_lc (own := [("_law_at", 6)]) (g := (gName 6)) (tt := tYes) (te := (tOp (rCatA K) (tVar 5) (tTup (tCons (tVar 6) tNil)))) rfl sc__law_all_schedules.nd (pi_range2 rfl bi.m_range (pa_cons (pe_callB (cr_maxT rfl) (by rfl) bi.m_max (by decide +kernel) (pa_cons (pe_op op_catA (pe_tup (pa_cons pe_int pa_nil)) (pe_slice sl_tupA (pv 5) (po_some (pe_un un_neg pe_int)) po_none)) pa_nil)) (pa_cons (pe_op op_add (pv 1) pe_int) pa_nil))) (blkOk_by (N := N__law_all_schedules) (sc := defScope s__law_all_schedules) (by decide +kernel)) (fun _ _ _ _ _ => (pg_name (i := 6) sc__law_all_schedules.nd rfl (.inl rfl) (.inr rfl))) (fun _ _ _ _ _ => pts_nil) (fun _ _ _ _ _ => (pe_op op_catA (pv 5) (pe_tup (pa_cons (pv 6) pa_nil))))) pa_nil)))))
        (pss_one (ps_set (i := 2) sc__law_all_schedules.nd rfl (.inl rfl) (pv 4))))))
    (pss_one (ps_ret (pv 2))))), ?_⟩
    refine ⟨(by show 0 ≤ sizeLine; decide), fun t nt => ⟨(by show 1 ≤ sizeLine; decide), fun l nl => ?_⟩⟩
    have et : upd (upd H t (.tup [])) l (.lst [.ref t]) t = some (.tup (([] : List Int).map V.int)) := (upd_ne (ne_of_none upd_same nl)).trans upd_same
    have el : upd (upd H t (.tup [])) l (.lst [.ref t]) l = some (.lst ([t].map V.ref)) := upd_same
    have s0 : Same H (upd (upd H t (.tup [])) l (.lst [.ref t])) := same_new (same_new (Same.refl _) nt) nl
    generalize upd (upd H t (.tup [])) l (.lst [.ref t]) = H0 at et el s0
    refine ⟨_, rfl, (n : Int), rfl, by omega, by omega, ?_⟩
    rw [Int.toNat_natCast]
    refine for_range (n := n) (fun i σ' H' => ∃ (x3 x4 x5 x6 : Option V) (fo : Addr) (as : List Addr) (ss : List (List Int)), σ' = [some (.int n), some (.int most), some (.ref fo), x3, x4, x5, x6] ∧ Same H H' ∧ H' fo = some (.lst (as.map V.ref)) ∧ Each (NsAt H') as ss ∧ (∀ ns, ns ∈ ss ↔ SchedOk i most ns) ∧ ss.length ≤ 9 ^ i) ⟨_, _, _, _, l, [t], [[]], rfl, s0, el, Each.one et, sched_zero most, by decide⟩ (fun i σ' H' hi hm => ?_) (fun σ' H' hm => ?_)
    · obtain ⟨x3, x4, x5, x6, fo, as, ss, rfl, s1, ef, ea, hss, hl⟩ := hm
      have hl81 : ss.length ≤ 81 := Nat.le_trans hl (Nat.pow_le_pow_right (by decide) (show i ≤ 2 by omega))
      refine ⟨Nat.zero_le _, fun L nL => ?_⟩
      have eL : upd H' L (.lst []) L = some (.lst (([] : List Addr).map V.ref)) := upd_same
      refine ⟨_, rfl, fo, rfl, ⟨_, SqL.of ((same_new (Same.refl H') nL) _ _ ef)⟩, for_list (xs := as.map V.ref) (fun j σ' H2 => ∃ (x5 x6 : Option V) (bs : List Addr) (tt : List (List Int)), σ' = [some (.int n), some (.int most), some (.ref fo), some (.int (0 + i)), some (.ref L), x5, x6] ∧ Same H' H2 ∧ H2 L = some (.lst (bs.map V.ref)) ∧ Each (NsAt H2) bs tt ∧ (∀ ns, ns ∈ tt ↔ ∃ ms x, ms ∈ ss.take j ∧ lastI ms ≤ x ∧ x ≤ most ∧ ns = ms ++ [x]) ∧ tt.length ≤ 9 * j) ⟨_, _, [], [], rfl, same_new (Same.refl _) nL, eL, Each.nil, fun ns => by simp, Nat.le_refl _⟩ (fun j σ' H2 hj hm => ?_) (fun j x σ' H2 hx hm => ?_) (fun σ' H2 hm => ?_)⟩
      · obtain ⟨x5, x6, bs, tt, rfl, s2, _⟩ := hm
        exact SqL.of (s2 _ _ ef)
      · obtain ⟨x5, x6, bs, tt, rfl, s2, eL2, eb, htt, hlt⟩ := hm
        obtain ⟨a, ms, rfl, ga, gm, ey⟩ := ea.get hx
        have hj : j < ss.length := (List.getElem?_eq_some_iff.mp gm).1
        have hms := (hss ms).mp (List.mem_of_getElem? gm)
        have l0 := lastI_0 hms m0
        have ey2 := s2 _ _ ey
        have hml : ms.length ≤ 3 := by rw [hms.1]; omega
        refine ⟨_, rfl, .inl ⟨rfl, _, SqL.of eL2⟩, (by show 1 ≤ sizeLine; decide), fun u nu => ?_⟩
        have eu : upd H2 u (.tup [.int 0]) u = some (.tup ([0].map V.int)) := upd_same
        have su : Same H2 (upd H2 u (.tup [.int 0])) := same_new (Same.refl _) nu
        generalize upd H2 u (.tup [.int 0]) = H3 at eu su
        refine ⟨_, rfl, _, rfl, _, rfl, ?_⟩
        dsimp only [tNoPart]
        refine slA (su _ _ ey2) fun H4 y s4 ey4 => ?_
        obtain ⟨ks, ek, hk1, hk⟩ := cut_lastI ms
        rw [ek] at ey4
        refine catA (s4 _ _ eu) ey4 (Nat.le_of_lt (small1000 (by rw [List.length_map, List.length_map]; show 1 + ks.length ≤ 1000; omega))) fun H5 z s5 ez => ?_
        rw [← List.map_append] at ez
        refine ⟨z, [0] ++ ks, rfl, SqT.of ez, by simp, fun m hm hle => ?_⟩
        have em : m = lastI ms := by
          rcases hk with ⟨e1, rfl⟩ | rfl
          · subst e1
            have : m = 0 := by simpa using hm
            exact this
          · have h1 := hle (lastI ms) (by simp)
            have h2 : m = 0 ∨ m = lastI ms := by simpa using hm
            omega
        subst em
        refine ⟨_, rfl, _, _, rfl, rfl, _, _, rfl, ⟨by omega, by omega, by omega, by omega⟩, fun D nD => ?_⟩
        have s25 := (su.trans s4).trans s5
        have ey5 := s25 _ _ ey2
        have eL5 := s25 _ _ eL2
        have eb5 : Each (NsAt H5) bs tt := eb.mono fun a x h => s25 _ _ h
        refine lc_range (lo := lastI ms) (n := (most + 1 - lastI ms).toNat) (fun k H6 => ∃ (cs : List Addr), Same H5 H6 ∧ H6 D = some (.lst (cs.map V.ref)) ∧ Each (NsAt H6) cs ((List.range k).map fun (q : Nat) => ms ++ [lastI ms + q])) ⟨[], same_new (Same.refl _) nD, upd_same, Each.nil⟩ (fun k H6 hk hm => ?_) (fun H6 hm => ?_)
        · obtain ⟨cs, s6, eD, ec⟩ := hm
          have hcl : cs.length = k := by rw [ec.1, List.length_map, List.length_range]
          refine ⟨rfl, yesIte ?_⟩
          refine ⟨_, rfl, _, rfl, (by show 1 ≤ sizeLine; decide), fun v nv => ?_⟩
          have ev : upd H6 v (.tup [.int (lastI ms + k)]) v = some (.tup ([lastI ms + (k : Int)].map V.int)) := upd_same
          have sv : Same H6 (upd H6 v (.tup [.int (lastI ms + k)])) := same_new (Same.refl _) nv
          generalize upd H6 v (.tup [.int (lastI ms + k)]) = H7 at ev sv
          refine catA ((s6.trans sv) _ _ ey5) ev (Nat.le_of_lt (small1000 (by rw [List.length_map, List.length_map]; show ms.length + 1 ≤ 1000; omega))) fun H8 g s8 eg => ?_
          rw [← List.map_append] at eg
          have s68 := sv.trans s8
          have eD8 := s68 _ _ eD
          have tl : Tups H6 (upd H8 D (.lst (cs.map V.ref ++ [.ref g]))) := (Tups.same s68).trans (Tups.ls eD8)
          refine ⟨_, eD8, by rw [List.length_map]; exact small1000 (by omega), cs ++ [g], same_mine (s6.trans s68) nD, by rw [upd_same, List.map_append]; rfl, ?_⟩
          rw [List.range_succ, List.map_append]
          exact (ec.mono fun a x h => h.mono tl).snoc (NsAt.mono (show NsAt H8 g _ from eg) (Tups.ls eD8))
        obtain ⟨cs, s6, eD, ec⟩ := hm
        have hcl : cs.length = (most + 1 - lastI ms).toNat := by rw [ec.1, List.length_map, List.length_range]
        have hbl : bs.length = tt.length := eb.1
        refine ⟨L, D, bs.map V.ref, cs.map V.ref, rfl, rfl, s6 _ _ eL5, eD, ?_, ?_⟩
        · rw [List.length_map, List.length_map]
          exact Nat.le_of_lt (small1000 (by omega))
        have t6 : Tups H5 (upd H6 L (.lst (bs.map V.ref ++ cs.map V.ref))) := (Tups.same s6).trans (Tups.ls (s6 _ _ eL5))
        refine ⟨_, _, bs ++ cs, _, rfl, same_mine ((s2.trans s25).trans s6) nL, by rw [upd_same, List.map_append], (eb5.mono fun a x h => h.mono t6).app (ec.mono fun a x h => h.mono (Tups.ls (s6 _ _ eL5))), fun ns => ?_, ?_⟩
        · rw [List.mem_append, htt, List.mem_map, List.take_add_one, gm]
          constructor
          · rintro (⟨m1, x1, h1, h2, h3, h4⟩ | ⟨q1, h1, h2⟩)
            · exact ⟨m1, x1, List.mem_append_left _ h1, h2, h3, h4⟩
            · have := List.mem_range.mp h1
              exact ⟨ms, _, by simp, by omega, by omega, h2.symm⟩
          · rintro ⟨m1, x1, h1, h2, h3, h4⟩
            rcases List.mem_append.mp h1 with h1 | h1
            · exact .inl ⟨m1, x1, h1, h2, h3, h4⟩
            · have e1 : m1 = ms := by simpa using h1
              subst e1
              refine .inr ⟨(x1 - lastI m1).toNat, List.mem_range.mpr (by omega), ?_⟩
              rw [h4, show lastI m1 + ((x1 - lastI m1).toNat : Int) = x1 by omega]
        · rw [List.length_append, List.length_map, List.length_range]
          omega
      · obtain ⟨x5, x6, bs, tt, rfl, s2, eL2, eb, htt, hlt⟩ := hm
        have hal : as.length = ss.length := ea.1
        rw [List.length_map] at htt hlt
        refine ⟨_, rfl, _, _, _, _, L, bs, tt, rfl, s1.trans s2, eL2, eb, fun ns => ?_, ?_⟩
        · rw [htt, hal, List.take_length, sched_more m0]
          constructor
          · rintro ⟨m1, x1, h1, h2⟩
            exact ⟨m1, x1, (hss m1).mp h1, h2⟩
          · rintro ⟨m1, x1, h1, h2⟩
            exact ⟨m1, x1, (hss m1).mpr h1, h2⟩
        · rw [Nat.pow_succ]
          omega
    · obtain ⟨x3, x4, x5, x6, fo, as, ss, rfl, s1, ef, ea, hss, hl⟩ := hm
      exact ⟨_, rfl, q _ fo as ss s1 ef ea hss (Nat.le_trans hl (Nat.pow_le_pow_right (by decide) hn))⟩
def EndAt (H : Hp) (e : Addr) (p : Int × List Int) : Prop := ∃ b, H e = some (.tup [.int p.1, .ref b]) ∧ NsAt H b p.2
theorem EndAt.mono {H H' : Hp} {e : Addr} {p : Int × List Int} (h : EndAt H e p) (t : Tups H H') : EndAt H' e p := by
  obtain ⟨b, h1, h2⟩ := h
  exact ⟨b, t _ _ h1, h2.mono t⟩
def endD (p : Int × List Int) : PyData := .tuple [.int p.1, .tuple (p.2.map PyData.int)]
theorem ends_dp {H : Hp} : ∀ {es : List Addr} {ps : List (Int × List Int)}, Each (EndAt H) es ps → DpAll K H (es.map V.ref) (ps.map endD)
  | [], [], _ => .nil
  | [], p :: r, h => absurd h.1 (by simp)
  | e :: r, [], h => absurd h.1 (by simp)
  | e :: es, p :: ps, h => by
    obtain ⟨b, h1, h2⟩ := h.2 0 e p rfl rfl
    exact .cons (.tup (SqT.of h1) (.cons (.int _) (.cons (.tup (SqT.of h2) (DpAll.ints _)) .nil))) (ends_dp ⟨Nat.succ.inj (by simpa using h.1), fun i b q h1 h2 => h.2 (i + 1) b q h1 h2⟩)
theorem ints_dep (ns : List Int) : (PyData.tuple (ns.map PyData.int)).depth ≤ 1 := Nat.succ_le_succ (depth_all (n := 0) fun x hx => by
  obtain ⟨n, _, rfl⟩ := List.mem_map.mp hx
  exact Nat.le_refl _)
theorem endD_can (p : Int × List Int) : (endD p).canLay0 = true := by
  have h1 := (Bool.and_eq_true_iff.mp (ints_shaped p.2)).1
  exact Bool.and_eq_true_iff.mpr ⟨h1, rfl⟩
theorem endD_dep (p : Int × List Int) : (endD p).depth ≤ 2 := by
  have := ints_dep p.2
  show max 0 (max (PyData.tuple (p.2.map PyData.int)).depth 0) + 1 ≤ 2
  omega
theorem endD_sh (p : Int × List Int) : SeqAt.shaped (endD p) = true := Bool.and_eq_true_iff.mpr ⟨endD_can p, decide_eq_true (Nat.le_trans (endD_dep p) (by decide))⟩
theorem ends_sh (ps : List (Int × List Int)) : SeqAt.shaped (.list (ps.map endD)) = true := by
  refine Bool.and_eq_true_iff.mpr ⟨can_all fun x hx => ?_, decide_eq_true ?_⟩
  · obtain ⟨p, _, rfl⟩ := List.mem_map.mp hx
    exact endD_can p
  · have := depth_all (n := 2) (xs := ps.map endD) fun x hx => by
      obtain ⟨p, _, rfl⟩ := List.mem_map.mp hx
      exact endD_dep p
    show PyData.depthAll (ps.map endD) + 1 ≤ 64
    omega
def drawnD (ms : List Int) : PyData := .tuple [.str "drawn", .tuple (ms.map PyData.int)]
theorem drawn_sh (ms : List Int) : SeqAt.shaped (drawnD ms) = true := by
  have h1 := (Bool.and_eq_true_iff.mp (ints_shaped ms)).1
  have h2 := ints_dep ms
  refine Bool.and_eq_true_iff.mpr ⟨Bool.and_eq_true_iff.mpr ⟨by decide +kernel, Bool.and_eq_true_iff.mpr ⟨h1, rfl⟩⟩, decide_eq_true ?_⟩
  show max 0 (max (PyData.tuple (ms.map PyData.int)).depth 0) + 1 ≤ 64
  omega
abbrev under (ns : List Int) (t : Int) : List Int := ns.filter fun n => decide (n < t)
theorem under_snoc (ns : List Int) (n t : Int) : under (ns ++ [n]) t = under ns t ++ (if n < t then [n] else []) := by
  show (ns ++ [n]).filter _ = _
  rw [List.filter_append]
  congr 1
  rw [List.filter_cons, List.filter_nil]
  by_cases c : n < t
  · rw [if_pos (decide_eq_true c), if_pos c]
  · rw [if_neg (by simpa using c), if_neg c]
theorem room65 {k : Nat} {A : Around} (r : Room k A) : A.units + 65 < cLine := by
  have := r.un
  omega
theorem Keep.tupsL {E : Addr} {H H' : Hp} {xs : List V} (k : Keep E E H H') (e : H E = some (.lst xs)) : Tups H H' := fun a ys h => by
  have n : a ≠ E := ne_of h e (by intro z; cases z)
  exact k a _ n n h
theorem ok__law_gone_through {fD fN fA fT fO f : Addr} {fdD fdN fdA fdT fdO fd : FuncData} (F : Fun K "_law_gone_through" "_law_gone_through" s__law_gone_through f fd) (bi : Bi mg) (C_drawn : Cal P w K mg base "drawn" P_drawn 5 spDrawn fD fdD) (C_lasting : Cal P w K mg base "lasting" P_lasting 6 spLasting fN fdN) (C__law_all_schedules : Cal P w K mg base "_law_all_schedules" P__law_all_schedules 1 spAllSched fA fdA)
    (C__law_first_thin : Cal P w K mg base "_law_first_thin" P__law_first_thin 3 spFirstThin fT fdT) (C_drawn_to : Cal P w K mg base "drawn_to" P_drawn_to 6 (spDrawnTo K) fO fdO) (B_drawn_2 : BD K fdD P_drawn [.non, .int 0]) (B_lasting_2 : BD K fdN P_lasting [.non, .int 0]) : FnOk P w K mg base CX0 7 f fd P__law_gone_through spGone74 := by
  obtain ⟨ds1, v_drawn_2, b_drawn_2⟩ := B_drawn_2
  obtain ⟨ds2, v_lasting_2, b_lasting_2⟩ := B_lasting_2
  refine F.ok sc__law_gone_through (fun vs H Q E h => ?_) (fun cdv A outer s H vs Q E hr h => ?_)
  · obtain ⟨r, low, as, Ws, rfl, _⟩ := h
    rfl
  · obtain ⟨r, low, as, Ws, rfl, er, ra, S, l1, lB, q⟩ := h
    have hu64 := hr.units
    have hu65 := room65 hr
    refine ⟨_, (pss_cons (ps_par (i := 2) (j := 3) rfl sc__law_gone_through.nd rfl rfl (by decide) rfl rfl (pa_cons (pe_call (C_drawn.G.mono (by decide)) hr (by rfl) C_drawn.g C_drawn.kp b_drawn_2 v_drawn_2 pass0 (pa_cons (pv 0) (pa_cons (pv 1) pa_nil))) (pa_cons (pe_call (C_lasting.G.mono (by decide)) hr (by rfl) C_lasting.g C_lasting.kp b_lasting_2 v_lasting_2 pass0 (pa_cons (pv 0) (pa_cons (pv 1) pa_nil))) pa_nil)) rfl)
    (pss_cons (ps_set (i := 4) sc__law_gone_through.nd rfl (.inl rfl) (pe_lst pa_nil))
    (pss_cons (ps_for PassesOwn.never rfl (pi_list (pe_call (C__law_all_schedules.G.mono (by decide)) hr (by rfl) C__law_all_schedules.g C__law_all_schedules.kp C__law_all_schedules.b .nil pass0 (pa_cons (pe_callB call_len_seq (by rfl) bi.m_len (by decide +kernel) (pa_cons (pv 0) pa_nil)) (pa_cons (pv 3) pa_nil)))) (pg_name (i := 5) sc__law_gone_through.nd rfl (.inl rfl))
      (pss_one (ps_expr (pe_bm PySem.F.plainAttrs_list PySem.F.slot_list_append PySem.F.type_list_append mt_append (pv 4) (pa_cons (pe_tup (pa_cons (pe_call (C__law_first_thin.G.mono (by decide)) hr (by rfl) C__law_first_thin.g C__law_first_thin.kp C__law_first_thin.b .nil pass0 (pa_cons (pe_callTy call_tuple_of (by rfl) bi.m_tuple (by decide +kernel) (pa_cons (pe_lc (own := [("_law_wisp", 10), ("_law_at", 9)]) (g := (gTup K 2 (gCons (gName 10) (gCons (gName 9) gNil)))) (tt := tYes) rfl sc__law_gone_through.nd (RZ.pi_zipA (by rfl) bi.m_zip (pa_cons (pv 0) (pa_cons (pv 5) pa_nil))) (blkOk_by (N := N__law_gone_through) (sc := defScope s__law_gone_through) (by decide +kernel)) (fun _ _ _ _ _ => (pg_tup rfl (pgs_cons (pg_name (i := 10) sc__law_gone_through.nd rfl (.inl rfl) (.inr rfl)) (pgs_cons (pg_name (i := 9) sc__law_gone_through.nd rfl (.inl rfl) (.inr rfl)) pgs_nil)))) (fun _ _ _ _ _ => pts_nil) (fun _ _ _ _ _ => (pe_tup (pa_cons (pv 10) (pa_cons (pv 9) (pa_cons pe_non pa_nil)))))) pa_nil)) (pa_cons (pv 1) (pa_cons pe_int pa_nil)))) (pa_cons (pv 5) pa_nil))) pa_nil)))))
    (pss_cons (ps_if (pw_or (pt_cmpR op_ne (pe_callB (cr_max rfl) (by rfl) bi.m_max (by decide +kernel) (pa_cons (pe_lc (own := [("_law_thin", 8), ("_law_some", 5)]) (g := (gTup K 2 (gCons (gName 8) (gCons (gName 5) gNil)))) (tt := tYes) rfl sc__law_gone_through.nd (pi_list (pv 4)) (blkOk_by (N := N__law_gone_through) (sc := defScope s__law_gone_through) (by decide +kernel)) (fun _ _ _ _ _ => (pg_tup rfl (pgs_cons (pg_name (i := 8) sc__law_gone_through.nd rfl (.inl rfl) (.inr rfl)) (pgs_cons (pg_name (i := 5) sc__law_gone_through.nd rfl (.inl rfl) (.inr rfl)) pgs_nil)))) (fun _ _ _ _ _ => pts_nil) (fun _ _ _ _ _ => (pv 8))) pa_nil)) (pv 3) (nomark _)) (pw_or1 (pt_cmpR (op_notInD hu65) (pe_tup (pa_cons (pv 3) (pa_cons (pv 2) pa_nil))) (pv 4) (by rfl)))).pt
      (pss_one (ps_ret pe_bl))
      pss_nil)
    (pss_cons (ps_for PassesOwn.never rfl (pi_range1 rfl bi.m_range (pa_cons (pe_op op_add (pv 3) pe_int) pa_nil)) (pg_name (i := 6) sc__law_gone_through.nd rfl (.inr rfl))
      (pss_cons (ps_set (i := 7) sc__law_gone_through.nd rfl (.inl rfl) (pe_callB (cr_min rfl) (by rfl) bi.m_min (by decide +kernel) (pa_cons (pe_lc (own := [("_law_thin", 8), ("_law_some", 5)]) (g := (gTup K 2 (gCons (gName 8) (gCons (gName 5) gNil)))) (te := (tCB (fun xs H Q => ∃ p ys, xs = [V.ref p] ∧ (SqL K H p ys ∨ SqT K H p ys) ∧ Q (.int ys.length) H) (tCons (tLc (iTup K (tVar 5)) (gName 9) (tTest (tOp (rI0 fun i j => V.bl (decide (i < j))) (tVar 9) (tVar 6))) (tVar 9) [9]) tNil))) rfl sc__law_gone_through.nd (pi_list (pv 4)) (blkOk_by (N := N__law_gone_through) (sc := defScope s__law_gone_through) (by decide +kernel)) (fun _ _ _ _ _ => (pg_tup rfl (pgs_cons (pg_name (i := 8) sc__law_gone_through.nd rfl (.inl rfl) (.inr rfl)) (pgs_cons (pg_name (i := 5) sc__law_gone_through.nd rfl (.inl rfl) (.inr rfl)) pgs_nil)))) (fun _ _ _ _ _ => (pts_one (pt_cmpR op_ge (pv 8) (pv 6) (nomark _)))) (fun _ _ _ _ _ => (pe_callB call_len_seq (by rfl) bi.m_len (by decide +kernel) (pa_cons (pe_lc (own := [("_law_at", 9)]) (g := (gName 9)) rfl sc__law_gone_through.nd (pi_tup (pv 5)) (blkOk_by (N := N__law_gone_through) (sc := { kind := .function, names := [(Str.ofString ".0", .local), (Str.ofString "_law_thin", .local), (Str.ofString "_law_some", .local), (Str.ofString "len", .globalImplicit), (Str.ofString "_law_length", .cell)], isGenerator := false, isCoroutine := false }) (by decide +kernel)) (fun _ _ _ _ _ => (pg_name (i := 9) sc__law_gone_through.nd rfl (.inl rfl) (.inr rfl))) (fun _ _ _ _ _ => (pts_one (pt_cmpR op_lt (pv 9) (pv 6) (nomark _)))) (fun _ _ _ _ _ => (pv 9))) pa_nil)))) pa_nil)))
        (pss_cons (ps_if (pt_cmpR (op_neD hu64) (pe_call (C_drawn_to.G.mono (by decide)) hr (by rfl) C_drawn_to.g C_drawn_to.kp C_drawn_to.b .nil pass0 (pa_cons (pv 0) (pa_cons (pv 1) (pa_cons (pv 6) pa_nil)))) (pe_tup (pa_cons pe_str (pa_cons (pe_callTy call_tuple_of (by rfl) bi.m_tuple (by decide +kernel) (pa_cons (pe_lc (own := [("_law_at", 9)]) (g := (gName 9)) rfl sc__law_gone_through.nd (pi_tup (pv 2)) (blkOk_by (N := N__law_gone_through) (sc := defScope s__law_gone_through) (by decide +kernel)) (fun _ _ _ _ _ => (pg_name (i := 9) sc__law_gone_through.nd rfl (.inl rfl) (.inr rfl))) (fun _ _ _ _ _ => (pts_one (pt_cmpR op_lt (pv 9) (pv 6) (nomark _)))) (fun _ _ _ _ _ => (pv 9))) pa_nil)) pa_nil))) (nomark _))
          (pss_one (ps_ret pe_bl))
          pss_nil)
        (pss_one (ps_if (pt_cmpR op_ne (pv 7) (pe_callB call_len_seq (by rfl) bi.m_len (by decide +kernel) (pa_cons (pe_lc (own := [("_law_at", 9)]) (g := (gName 9)) rfl sc__law_gone_through.nd (pi_tup (pv 2)) (blkOk_by (N := N__law_gone_through) (sc := defScope s__law_gone_through) (by decide +kernel)) (fun _ _ _ _ _ => (pg_name (i := 9) sc__law_gone_through.nd rfl (.inl rfl) (.inr rfl))) (fun _ _ _ _ _ => (pts_one (pt_cmpR op_lt (pv 9) (pv 6) (nomark _)))) (fun _ _ _ _ _ => (pv 9))) pa_nil)) (nomark _))
          (pss_one (ps_ret pe_bl))
          pss_nil)))))
    (pss_one (ps_ret (pe_cmpR (op_eqD hu64) (pe_slice sl_tupA (pe_call (C_drawn_to.G.mono (by decide)) hr (by rfl) C_drawn_to.g C_drawn_to.kp C_drawn_to.b .nil pass0 (pa_cons (pv 0) (pa_cons (pv 1) (pa_cons (pe_op op_add (pv 3) pe_int) pa_nil)))) po_none (po_some pe_int)) (pe_tup (pa_cons pe_str (pa_cons (pv 3) pa_nil))) (nomark _))))))))), ?_⟩
    have R6 := S.row
    have hlW := S.2.1
    refine ⟨_, rfl, _, rfl, r, .non, low, 0, as, Ws, [], rfl, er, ra, .inl ⟨rfl, rfl⟩, R6.from l1, fun HA o ms sA eo lp mb => ?_⟩
    have tA := Tups.same sA
    refine ⟨_, rfl, _, rfl, r, .non, low, 0, as, Ws, [], rfl, tA _ _ er, ra.mono tA, .inl ⟨rfl, rfl⟩, R6.from l1, fun HB ms2 last sB lp2 hf => ⟨_, _, rfl, ?_⟩⟩
    have em := late_eq lp2 lp
    subst em
    have R := R6.row l1 lp mb hf
    have hf : IsFirst (laidAll Ws ms2) low 0 last := hf
    have hml := R.lp.1
    have sAB := sA.trans sB
    have eoB := sB _ _ eo
    have erB := sAB _ _ er
    have raB := ra.mono (Tups.same sAB)
    have ls := R.last_small
    have l8 := S.last R
    -- all schedules
    refine ⟨Nat.zero_le _, fun E nE => ?_⟩
    have eE : upd HB E (.lst []) E = some (.lst (([] : List Addr).map V.ref)) := upd_same
    have sE : Same HB (upd HB E (.lst [])) := same_new (Same.refl _) nE
    generalize hHE : upd HB E (.lst []) = HE at eE sE
    refine ⟨_, rfl, r, _, rfl, .inr (SqT.of (sE _ _ erB)), _, rfl, Ws.length, last, ?_, by omega, ls.1, l8, fun HS so bs ss sS eS ea hss hsl => ?_⟩
    · rw [List.length_map, raB.1]
      rfl
    have sBS : Same HB HS := sE.trans sS
    have eES := sS _ _ eE
    have hms : SchedOk Ws.length last ms2 := ⟨hml, R.pair, fun x hx => ⟨(R.mb x hx).1, R.le_last x hx⟩⟩
    have hss2 := (hss ms2).mpr hms
    have nso : so ≠ E := fun e => by
      rw [e, eES] at eS
      have h0 : bs = [] := by
        cases bs with
        | nil => rfl
        | cons _ _ => simp at eS
      rw [h0] at ea
      have h1 := ea.1
      cases ss with
      | nil => cases hss2
      | cons _ _ => cases h1
    have raS := raB.mono (Tups.same sBS)
    have erS := sBS _ _ erB
    refine ⟨so, rfl, ⟨_, SqL.of eS⟩, for_list (xs := bs.map V.ref) (fun i σ' H' => ∃ (x5 : Option V) (es : List Addr) (ps : List (Int × List Int)), σ' = [some (.ref r), some (.int low), some (.ref o), some (.int last), some (.ref E), x5, none, none, none, none, none] ∧ Keep E E HS H' ∧ H' E = some (.lst (es.map V.ref)) ∧ Each (EndAt H') es ps ∧ ps.map (·.2) = ss.take i ∧ ∀ p ∈ ps, IsFirst (laidAll Ws p.2) low 0 p.1) ⟨_, [], [], rfl, Keep.refl, eES, Each.nil, rfl, fun p hp => by cases hp⟩ (fun i σ' H' hi hm => ?_) (fun i x σ' H' hx hm => ?_) (fun σ' H' hm => ?_)⟩
    · obtain ⟨x5, es, ps, rfl, ke, _⟩ := hm
      exact SqL.of (ke _ _ nso nso eS)
    · obtain ⟨x5, es, ps, rfl, ke, eE2, ee, hps, hpf⟩ := hm
      obtain ⟨b, ns, rfl, gb, gn, eb⟩ := ea.get hx
      have hns := (hss ns).mp (List.mem_of_getElem? gn)
      have t1 := ke.tupsL eES
      have eb1 : H' b = some (.tup (ns.map V.int)) := t1 _ _ eb
      have er1 := t1 _ _ erS
      have ra1 := raS.mono t1
      have hel : es.length ≤ 729 := by
        have h1 := ee.1
        have h2 := congrArg List.length hps
        rw [List.length_map, List.length_take] at h2
        omega
      have hl : Ws.length = ns.length := hns.1.symm
      refine ⟨_, rfl, .inl ⟨rfl, _, SqL.of eE2⟩, ?_⟩
      have hll : (as.map V.ref).length = (ns.map V.int).length := by rw [List.length_map, List.length_map, ra1.1, hl]
      refine ⟨_, rfl, _, rfl, r, b, _, _, rfl, .inr ⟨SqT.of er1, SqT.of eb1, fun D nD => ?_⟩⟩
      refine lcZip (xs := as.map V.ref) (ys := ns.map V.int) hll (fun i H2 => ∃ cs : List Addr, Same H' H2 ∧ H2 D = some (.lst (cs.map V.ref)) ∧ LaidsAt H2 cs ((laidAll Ws ns).take i) ∧ i ≤ 60) ⟨[], same_new (Same.refl H') nD, upd_same, LaidsAt.nil, Nat.zero_le _⟩ (fun i H2 hm => ?_) (fun i x y T H2 hx hy nT hm => ?_) (fun H2 hm => ?_)
      · obtain ⟨cs, sm, _⟩ := hm
        exact ⟨SqT.of (sm _ _ er1), SqT.of (sm _ _ eb1)⟩
      · obtain ⟨cs, sm, eD, lc, hi60⟩ := hm
        obtain ⟨c, rfl, ec⟩ := ref_get hx
        obtain ⟨m, rfl, em⟩ := int_get hy
        obtain ⟨W, eW, wW⟩ := ra1.2 i c ec
        have hi : i < 60 := by
          have := (List.getElem?_eq_some_iff.mp eW).1
          omega
        have sT : Same H' (upd H2 T (.tup [.ref c, .int m])) := same_new sm nT
        have eDT := (upd_ne (o := .tup [.ref c, .int m]) (ne_of_none eD nT)).trans eD
        have lT := lc.mono (Tups.new (o := .tup [.ref c, .int m]) nT)
        refine ⟨T, _, rfl, SqT.of upd_same, rfl, _, _, rfl, _, _, rfl, rfl, rfl, yesIte ?_⟩
        generalize upd H2 T (.tup [.ref c, .int m]) = H3 at sT eDT lT
        refine ⟨_, rfl, _, rfl, (by show 3 ≤ sizeLine; decide), fun z nz => ?_⟩
        have eDz := (upd_ne (o := .tup [.ref c, .int m, .non]) (ne_of_none eDT nz)).trans eDT
        have sz : Same H' (upd H3 z (.tup [.ref c, .int m, .non])) := same_new sT nz
        have lz : LaidAt (upd H3 z (.tup [.ref c, .int m, .non])) z (laidOf W m) := ⟨c, upd_same, wW.mono (Tups.same sz)⟩
        have hcl : cs.length ≤ 60 := by
          have := lc.1
          rw [List.length_take] at this
          omega
        refine ⟨_, eDz, ?_, cs ++ [z], same_mine sz nD, ?_, ?_, hi⟩
        · rw [List.length_map]
          exact small1000 (by omega)
        · rw [upd_same, List.map_append]
          rfl
        · rw [List.take_add_one, laidAll_get eW em]
          exact ((lT.mono (Tups.new nz)).snoc lz).mono (Tups.ls eDz)
      obtain ⟨cs, sm, eD, lc, _⟩ := hm
      rw [List.take_of_length_le (by rw [laidAll_len _ _ hl, List.length_map, ra1.1]; exact Nat.le_refl _)] at lc
      refine ⟨D, _, rfl, .inl ⟨SqL.of eD, fun st nst => ?_⟩⟩
      have hst : StrandAt (upd H2 st (.tup (cs.map V.ref))) st (laidAll Ws ns) := ⟨cs, upd_same, lc.mono (Tups.new nst)⟩
      have s3 : Same H' (upd H2 st (.tup (cs.map V.ref))) := same_new sm nst
      generalize upd H2 st (.tup (cs.map V.ref)) = H3 at hst s3
      refine ⟨_, rfl, st, laidAll Ws ns, low, 0, rfl, hst, by rw [laidAll_len _ _ hl]; omega, fun L hL => ?_, l1, fun H4 t s4 hfi => ?_⟩
      · obtain ⟨W, hW, n, hn, rfl⟩ := laidAll_mem hL
        have := hns.2.2 n hn
        exact good_laid (R.gw W hW) this.1 (by omega)
      have s14 := s3.trans s4
      refine ⟨_, rfl, (by show 2 ≤ sizeLine; decide), fun z nz => ?_⟩
      have ez : upd H4 z (.tup [.int t, .ref b]) z = some (.tup [.int t, .ref b]) := upd_same
      have s15 : Same H' (upd H4 z (.tup [.int t, .ref b])) := same_new s14 nz
      generalize upd H4 z (.tup [.int t, .ref b]) = H5 at ez s15
      have eE5 := s15 _ _ eE2
      have t6 : Tups H5 (upd H5 E (.lst (es.map V.ref ++ [.ref z]))) := Tups.ls eE5
      have t16 := (Tups.same s15).trans t6
      refine ⟨E, _, _, rfl, rfl, eE5, by rw [List.length_map]; exact small1000 (by omega), _, es ++ [z], ps ++ [(t, ns)], rfl, (ke.trans (Same.keep s15)).own, by rw [upd_same, List.map_append]; rfl, ?_, ?_, fun p hp => ?_⟩
      · exact (ee.mono fun a x h => EndAt.mono h t16).snoc ⟨b, t6 _ _ ez, NsAt.mono (show NsAt H5 b ns from s15 _ _ eb1) t6⟩
      · rw [List.map_append, hps, List.take_add_one, gn]
        rfl
      · rcases List.mem_append.mp hp with h | h
        · exact hpf p h
        · rw [List.mem_singleton.mp h]
          exact hfi
    · obtain ⟨x5, es, ps, rfl, ke, eE2, ee, hps, hpf⟩ := hm
      rw [List.length_map, ea.1, List.take_length] at hps
      have t1 := ke.tupsL eES
      have hpl : ps.length ≤ 729 := by
        have h2 := congrArg List.length hps
        rw [List.length_map] at h2
        omega
      have hpm : (last, ms2) ∈ ps := by
        have h1 : ms2 ∈ ps.map (·.2) := by rw [hps]; exact hss2
        obtain ⟨⟨t, n⟩, h2, h3⟩ := List.mem_map.mp h1
        have h3 : n = ms2 := h3
        subst h3
        have h4 : IsFirst (laidAll Ws n) low 0 t := hpf _ h2
        rw [first_eq hf h4]
        exact h2
      have hpo : ∀ p ∈ ps, p.1 ≤ last ∧ p.2.length ≤ 3 ∧ ∀ t, t ≤ p.1 → (under ms2 t).length ≤ (under p.2 t).length := fun p hp => by
        have h1 : p.2 ∈ ss := by
          rw [← hps]
          exact List.mem_map_of_mem hp
        have h2 := (hss p.2).mp h1
        have h3 := R.other h2.1 h2.2.1 (hpf p hp)
        exact ⟨h3.1, by rw [h2.1]; exact hlW, h3.2⟩
      have sH : Same H HB := sAB
      have keyH : ∀ H2, Keep E E HS H2 → Same H H2 := fun H2 k2 a u h => by
        have n : a ≠ E := ne_of_none (sH _ _ h) nE
        exact k2 a u n n (sBS _ _ (sH _ _ h))
      have eo1 := (t1 _ _ (sBS _ _ eoB))
      have er1 := t1 _ _ erS
      have ra1 := raS.mono t1
      -- the greatest
      refine ⟨_, rfl, E, rfl, ⟨_, SqL.of eE2⟩, fun D nD => ?_⟩
      have hel : es.length = ps.length := ee.1
      refine lc_list (xs := es.map V.ref) (fun i H2 => Same H' H2 ∧ H2 D = some (.lst (((ps.map (·.1)).take i).map V.int))) ⟨same_new (Same.refl _) nD, upd_same⟩ (fun i H2 hi hm => SqL.of (hm.1 _ _ eE2)) (fun i x H2 hx hm => ?_) (fun H2 hm => ?_)
      · obtain ⟨sm, eD⟩ := hm
        obtain ⟨e, p, rfl, ge, gp, ⟨b, h1, h2⟩⟩ := ee.get hx
        have hi : i < ps.length := (List.getElem?_eq_some_iff.mp gp).1
        refine ⟨e, _, rfl, SqT.of (sm _ _ h1), rfl, _, _, rfl, _, _, rfl, rfl, rfl, yesIte ?_⟩
        refine ⟨_, rfl, _, eD, ?_, same_mine sm nD, ?_⟩
        · rw [List.length_map, List.length_take]
          exact small1000 (by omega)
        · rw [upd_same, List.take_add_one, List.getElem?_map, gp, List.map_append]
          rfl
      obtain ⟨sm, eD⟩ := hm
      rw [List.take_of_length_le (by rw [List.length_map, List.length_map]; omega)] at eD
      have hmem : last ∈ ps.map (·.1) := List.mem_map.mpr ⟨_, hpm, rfl⟩
      refine ⟨D, ps.map (·.1), rfl, SqL.of eD, List.length_pos_of_mem hmem, fun m hm hle => ?_⟩
      have em : m = last := by
        obtain ⟨p, hp, rfl⟩ := List.mem_map.mp hm
        have h1 := (hpo p hp).1
        have h2 := hle last hmem
        omega
      subst em
      refine ⟨_, rfl, rfl, _, rfl, ite2 (fun e => by simp at e) (fun _ => ?_)⟩
      -- the row drawn late is one of them
      refine ⟨_, rfl, _, rfl, (by show 2 ≤ sizeLine; decide), fun z nz => ?_⟩
      have ez : upd H2 z (.tup [.int m, .ref o]) z = some (.tup [.int m, .ref o]) := upd_same
      have sz : Same H' (upd H2 z (.tup [.int m, .ref o])) := same_new sm nz
      generalize upd H2 z (.tup [.int m, .ref o]) = H3 at ez sz
      have ee3 : Each (EndAt H3) es ps := ee.mono fun a x h => EndAt.mono h (Tups.same sz)
      refine ⟨_, rfl, endD (m, ms2), ps.map endD, .tup (SqT.of ez) (.cons (.int _) (.cons (.tup (SqT.of (sz _ _ eo1)) (DpAll.ints _)) .nil)), .lst (SqL.of (sz _ _ eE2)) (ends_dp ee3), endD_sh _, ends_sh _, _, rfl, ?_⟩
      have hin : ((ps.map endD).any fun z => PyData.eqv z (endD (m, ms2))) = true := List.any_eq_true.mpr ⟨_, List.mem_map_of_mem hpm, SeqAt.eqv_refl _ (endD_can _)⟩
      rw [hin]
      refine iteF ?_
      -- each length
      have k3 : Keep E E HS H3 := ke.trans (Same.keep sz)
      have eE3 := sz _ _ eE2
      have eo3 := sz _ _ eo1
      have er3 := sz _ _ er1
      have ra3 := ra1.mono (Tups.same sz)
      clear sm eD ez
      refine ⟨_, rfl, _, _, rfl, rfl, _, rfl, by omega, by omega, ?_⟩
      generalize hN : Int.toNat _ = N
      have hN1 : N = (m + 1).toNat := hN.symm
      clear hN
      refine for_range (n := N) (fun i σ' H4 => ∃ (x5 x6 x7 : Option V), σ' = [some (.ref r), some (.int low), some (.ref o), some (.int m), some (.ref E), x5, x6, x7, none, none, none] ∧ Same H3 H4) ⟨_, _, _, rfl, Same.refl _⟩ (fun i σ' H4 hi hm => ?_) (fun σ' H4 hm => ?_)
      · obtain ⟨x5, x6, x7, rfl, s4⟩ := hm
        have hlen : (0 : Int) + i ≤ m := by omega
        generalize hL : (0 : Int) + (i : Int) = len at hlen
        have len0 : 0 ≤ len := by omega
        have eE4 := s4 _ _ eE3
        have eo4 := s4 _ _ eo3
        have er4 := s4 _ _ er3
        have ra4 := ra3.mono (Tups.same s4)
        have ee4 : Each (EndAt H4) es ps := ee3.mono fun a x h => EndAt.mono h (Tups.same s4)
        -- the least number
        refine ⟨_, rfl, E, rfl, ⟨_, SqL.of eE4⟩, fun D2 nD2 => ?_⟩
        refine lc_list (xs := es.map V.ref) (fun i H5 => Same H4 H5 ∧ H5 D2 = some (.lst ((((ps.take i).filter fun p => decide (len ≤ p.1)).map fun p => ((under p.2 len).length : Int)).map V.int))) ⟨same_new (Same.refl _) nD2, upd_same⟩ (fun i H5 hi hm => SqL.of (hm.1 _ _ eE4)) (fun i x H5 hx hm => ?_) (fun H5 hm => ?_)
        · obtain ⟨sm, eD⟩ := hm
          obtain ⟨e, p, rfl, ge, gp, ⟨b, h1, h2⟩⟩ := ee4.get hx
          have hi : i < ps.length := (List.getElem?_eq_some_iff.mp gp).1
          refine ⟨e, _, rfl, SqT.of (sm _ _ h1), rfl, _, _, rfl, _, _, rfl, rfl, rfl, ?_⟩
          refine ⟨_, rfl, _, rfl, _, _, rfl, rfl, _, rfl, ite2 (fun e2 => ?_) (fun e2 => ?_)⟩
          · refine ⟨_, rfl, b, rfl, ⟨_, SqT.of (sm _ _ h2)⟩, fun D3 nD3 => ?_⟩
            refine lc_tup (xs := p.2.map V.int) (fun j H6 => Same H5 H6 ∧ H6 D3 = some (.lst ((under (p.2.take j) len).map V.int))) ⟨same_new (Same.refl _) nD3, upd_same⟩ (fun j H6 hj hm => SqT.of (hm.1 _ _ (sm _ _ h2))) (fun j x H6 hx hm => ?_) (fun H6 hm => ?_)
            · obtain ⟨s6, e6⟩ := hm
              obtain ⟨n, rfl, en⟩ := int_get hx
              have hj := (List.getElem?_eq_some_iff.mp en).1
              have h3 := (hpo p (List.mem_of_getElem? gp)).2.1
              refine ⟨rfl, _, rfl, _, rfl, _, _, rfl, rfl, _, rfl, ite2 (fun e3 => ?_) (fun e3 => ?_)⟩
              · have e3 : n < len := of_decide_eq_true e3
                refine ⟨_, rfl, _, e6, ?_, same_mine s6 nD3, ?_⟩
                · rw [List.length_map]
                  have := List.length_filter_le (fun n => decide (n < len)) (p.2.take j)
                  rw [List.length_take] at this
                  exact small1000 (by show (List.filter _ _).length ≤ 1000; omega)
                · rw [upd_same, List.take_add_one, en]
                  show _ = some (HO.lst ((under (p.2.take j ++ [n]) len).map V.int))
                  rw [under_snoc, if_pos e3, List.map_append]
                  rfl
              · have e3 : ¬ n < len := fun c => e3 (decide_eq_true c)
                refine ⟨s6, ?_⟩
                rw [e6, List.take_add_one, en]
                show _ = some (HO.lst ((under (p.2.take j ++ [n]) len).map V.int))
                rw [under_snoc, if_neg e3, List.append_nil]
            · obtain ⟨s6, e6⟩ := hm
              rw [List.length_map, List.take_length] at e6
              refine ⟨D3, _, rfl, .inl (SqL.of e6), _, s6 _ _ eD, ?_, same_mine (sm.trans s6) nD2, ?_⟩
              · rw [List.length_map, List.length_map]
                have := List.length_filter_le (fun p => decide (len ≤ p.1)) (ps.take i)
                rw [List.length_take] at this
                exact small1000 (by omega)
              · rw [upd_same, List.take_add_one, gp, List.filter_append]
                have : [p].filter (fun p => decide (len ≤ p.1)) = [p] := by
                  rw [List.filter_cons, if_pos e2]
                  rfl
                show _ = some (HO.lst (((List.filter _ _ ++ [p].filter (fun p : Int × List Int => decide (len ≤ p.1))).map _).map V.int))
                rw [this, List.map_append, List.map_append, List.length_map]
                rfl
          · refine ⟨sm, ?_⟩
            rw [eD, List.take_add_one, gp, List.filter_append]
            have : [p].filter (fun p => decide (len ≤ p.1)) = [] := by
              rw [List.filter_cons, if_neg e2]
              rfl
            show _ = some (HO.lst (((List.filter _ _ ++ [p].filter (fun p : Int × List Int => decide (len ≤ p.1))).map _).map V.int))
            rw [this, List.append_nil]
        obtain ⟨s5, eD⟩ := hm
        rw [List.take_of_length_le (by rw [List.length_map]; omega)] at eD
        have hmem2 : ((under ms2 len).length : Int) ∈ (ps.filter fun p => decide (len ≤ p.1)).map fun p => ((under p.2 len).length : Int) := List.mem_map.mpr ⟨(m, ms2), List.mem_filter.mpr ⟨hpm, decide_eq_true hlen⟩, rfl⟩
        refine ⟨D2, _, rfl, SqL.of eD, List.length_pos_of_mem hmem2, fun lst hlst hle2 => ?_⟩
        have elst : lst = ((under ms2 len).length : Int) := by
          have h1 := hle2 _ hmem2
          obtain ⟨p, hp, rfl⟩ := List.mem_map.mp hlst
          obtain ⟨hp1, hp2⟩ := List.mem_filter.mp hp
          have h2 := (hpo p hp1).2.2 len (of_decide_eq_true hp2)
          omega
        subst elst
        have s35 := s4.trans s5
        -- what drawn_to tells
        refine ⟨_, rfl, _, rfl, _, rfl, r, low, len, as, Ws, rfl, s5 _ _ er4, ra4.mono (Tups.same s5), R6.from l1, fun H6 o6 ms6 m6 s6 lp6 hf6 hd6 => ?_⟩
        have em := late_eq lp6 lp
        subst em
        have em := first_eq hf6 hf
        subst em
        have hd6 : Dp K H6 (.ref o6) (drawnD (under ms6 len)) := by
          unfold ansD at hd6
          rw [if_neg (by omega)] at hd6
          exact hd6
        have eo6 := (s5.trans s6) _ _ eo4
        refine ⟨_, rfl, o, rfl, ⟨_, SqT.of eo6⟩, fun D3 nD3 => ?_⟩
        refine lc_tup (xs := ms6.map V.int) (fun j H7 => Same H6 H7 ∧ H7 D3 = some (.lst ((under (ms6.take j) len).map V.int))) ⟨same_new (Same.refl _) nD3, upd_same⟩ (fun j H7 hj hm => SqT.of (hm.1 _ _ eo6)) (fun j x H7 hx hm => ?_) (fun H7 hm => ?_)
        · obtain ⟨s7, e7⟩ := hm
          obtain ⟨n, rfl, en⟩ := int_get hx
          have hj := (List.getElem?_eq_some_iff.mp en).1
          refine ⟨rfl, _, rfl, _, rfl, _, _, rfl, rfl, _, rfl, ite2 (fun e3 => ?_) (fun e3 => ?_)⟩
          · have e3 : n < len := of_decide_eq_true e3
            refine ⟨_, rfl, _, e7, ?_, same_mine s7 nD3, ?_⟩
            · rw [List.length_map]
              have := List.length_filter_le (fun n => decide (n < len)) (ms6.take j)
              rw [List.length_take] at this
              exact small1000 (by show (List.filter _ _).length ≤ 1000; omega)
            · rw [upd_same, List.take_add_one, en]
              show _ = some (HO.lst ((under (ms6.take j ++ [n]) len).map V.int))
              rw [under_snoc, if_pos e3, List.map_append]
              rfl
          · have e3 : ¬ n < len := fun c => e3 (decide_eq_true c)
            refine ⟨s7, ?_⟩
            rw [e7, List.take_add_one, en]
            show _ = some (HO.lst ((under (ms6.take j ++ [n]) len).map V.int))
            rw [under_snoc, if_neg e3, List.append_nil]
        obtain ⟨s7, e7⟩ := hm
        rw [List.length_map, List.take_length] at e7
        refine ⟨D3, _, rfl, .inl ⟨SqL.of e7, fun u nu => ⟨(by show 2 ≤ sizeLine; decide), fun v nv => ?_⟩⟩⟩
        have eu : upd (upd H7 u (.tup ((under ms6 len).map V.int))) v (.tup [.str "drawn", .ref u]) u = some (.tup ((under ms6 len).map V.int)) := (upd_ne (ne_of_none upd_same nv)).trans upd_same
        have ev : upd (upd H7 u (.tup ((under ms6 len).map V.int))) v (.tup [.str "drawn", .ref u]) v = some (.tup [.str "drawn", .ref u]) := upd_same
        have s8 : Same H6 (upd (upd H7 u (.tup ((under ms6 len).map V.int))) v (.tup [.str "drawn", .ref u])) := same_new (same_new s7 nu) nv
        generalize upd (upd H7 u (.tup ((under ms6 len).map V.int))) v (.tup [.str "drawn", .ref u]) = H8 at eu ev s8
        refine ⟨drawnD (under ms6 len), drawnD (under ms6 len), Dp.same s8 _ hd6, .tup (SqT.of ev) (.cons (.str _) (.cons (.tup (SqT.of eu) (DpAll.ints _)) .nil)), drawn_sh _, drawn_sh _, _, rfl, ?_⟩
        rw [SeqAt.eqv_refl _ (Bool.and_eq_true_iff.mp (drawn_sh _)).1]
        refine iteF ?_
        -- as many
        have eo8 := s8 _ _ eo6
        refine ⟨_, rfl, _, rfl, o, rfl, ⟨_, SqT.of eo8⟩, fun D4 nD4 => ?_⟩
        refine lc_tup (xs := ms6.map V.int) (fun j H9 => Same H8 H9 ∧ H9 D4 = some (.lst ((under (ms6.take j) len).map V.int))) ⟨same_new (Same.refl _) nD4, upd_same⟩ (fun j H9 hj hm => SqT.of (hm.1 _ _ eo8)) (fun j x H9 hx hm => ?_) (fun H9 hm => ?_)
        · obtain ⟨s9, e9⟩ := hm
          obtain ⟨n, rfl, en⟩ := int_get hx
          have hj := (List.getElem?_eq_some_iff.mp en).1
          refine ⟨rfl, _, rfl, _, rfl, _, _, rfl, rfl, _, rfl, ite2 (fun e3 => ?_) (fun e3 => ?_)⟩
          · have e3 : n < len := of_decide_eq_true e3
            refine ⟨_, rfl, _, e9, ?_, same_mine s9 nD4, ?_⟩
            · rw [List.length_map]
              have := List.length_filter_le (fun n => decide (n < len)) (ms6.take j)
              rw [List.length_take] at this
              exact small1000 (by show (List.filter _ _).length ≤ 1000; omega)
            · rw [upd_same, List.take_add_one, en]
              show _ = some (HO.lst ((under (ms6.take j ++ [n]) len).map V.int))
              rw [under_snoc, if_pos e3, List.map_append]
              rfl
          · have e3 : ¬ n < len := fun c => e3 (decide_eq_true c)
            refine ⟨s9, ?_⟩
            rw [e9, List.take_add_one, en]
            show _ = some (HO.lst ((under (ms6.take j ++ [n]) len).map V.int))
            rw [under_snoc, if_neg e3, List.append_nil]
        obtain ⟨s9, e9⟩ := hm
        rw [List.length_map, List.take_length] at e9
        refine ⟨D4, _, rfl, .inl (SqL.of e9), rfl, _, rfl, ite2 (fun e => ?_) (fun _ => ?_)⟩
        · rw [List.length_map] at e
          simp at e
        · exact ⟨_, _, _, rfl, (((s35.trans s6).trans s8).trans s9)⟩
      · obtain ⟨x5, x6, x7, rfl, s4⟩ := hm
        have er4 := s4 _ _ er3
        have ra4 := ra3.mono (Tups.same s4)
        refine ⟨_, rfl, _, rfl, _, rfl, _, _, rfl, rfl, r, low, m + 1, as, Ws, rfl, er4, ra4, R6.from l1, fun H6 o6 ms6 m6 s6 lp6 hf6 hd6 => ?_⟩
        have em := late_eq lp6 lp
        subst em
        have em := first_eq hf6 hf
        subst em
        unfold ansD at hd6
        rw [if_pos (by omega)] at hd6
        cases hd6 with
        | tup hs hall =>
        cases hall with
        | cons d1 r1 =>
        cases d1
        cases r1 with
        | cons d2 r2 =>
        cases d2
        cases r2 with
        | cons d3 r3 =>
        cases r3
        refine ⟨_, rfl, ?_⟩
        refine ⟨o6, _, rfl, hs, fun e => absurd (show (2 : Nat) = 3 from e.2) (by decide), fun _ u nu => ?_⟩
        have eu : upd H6 u (.tup [.str "thin", .int m6]) u = some (.tup [.str "thin", .int m6]) := upd_same
        refine ⟨_, rfl, (by show 2 ≤ sizeLine; decide), fun v nv => ?_⟩
        have eu2 : upd (upd H6 u (.tup [.str "thin", .int m6])) v (.tup [.str "thin", .int m6]) u = some (.tup [.str "thin", .int m6]) := (upd_ne (ne_of_none eu nv)).trans eu
        have ev : upd (upd H6 u (.tup [.str "thin", .int m6])) v (.tup [.str "thin", .int m6]) v = some (.tup [.str "thin", .int m6]) := upd_same
        refine ⟨.tuple [.str "thin", .int m6], .tuple [.str "thin", .int m6], .tup (SqT.of eu2) (.cons (.str _) (.cons (.int _) .nil)), .tup (SqT.of ev) (.cons (.str _) (.cons (.int _) .nil)), ?_, ?_, ?_⟩
        · exact Bool.and_eq_true_iff.mpr ⟨Bool.and_eq_true_iff.mpr ⟨by decide +kernel, rfl⟩, rfl⟩
        · exact Bool.and_eq_true_iff.mpr ⟨Bool.and_eq_true_iff.mpr ⟨by decide +kernel, rfl⟩, rfl⟩
        rw [SeqAt.eqv_refl (.tuple [.str "thin", .int m6]) (show ((PyData.str "thin").canLay0 && true) = true by decide +kernel)]
        exact q _ (((keyH _ k3).trans (s4.trans s6)).trans (same_new (same_new (Same.refl _) nu) nv))
theorem ok__law_told_so {fD fN fL fA fE fF fT fW fS fI fH f : Addr} {fdD fdN fdL fdA fdE fdF fdT fdW fdS fdI fdH fd : FuncData} (F : Fun K "_law_told_so" "_law_told_so" s__law_told_so f fd) (bi : Bi mg) (C_drawn : Cal P w K mg base "drawn" P_drawn 5 spDrawn fD fdD) (C_lasting : Cal P w K mg base "lasting" P_lasting 6 spLasting fN fdN) (C_laid_out : Cal P w K mg base "laid_out" P_laid_out 1 spLaidOut fL fdL) (C_lasts : Cal P w K mg base "lasts" P_lasts 4 spLasts fA fdA)
    (C_end_of : Cal P w K mg base "end_of" P_end_of 2 spEnd fE fdE) (C_first_off : Cal P w K mg base "first_off" P_first_off 5 (spFirstOff K) fF fdF) (C_thinnest : Cal P w K mg base "thinnest" P_thinnest 5 (spExtr 1) fT fdT) (C_weight_between : Cal P w K mg base "weight_between" P_weight_between 2 spBetween fW fdW) (C_stretches : Cal P w K mg base "stretches" P_stretches 3 spStretches fS fdS) (C_is_wide : Cal P w K mg base "is_wide" P_is_wide 2 spIsWide fI fdI)
    (C_shows_thin : Cal P w K mg base "shows_thin" P_shows_thin 7 spShows fH fdH) (B_drawn_2 : BD K fdD P_drawn [.non, .int 0]) (B_lasting_2 : BD K fdN P_lasting [.non, .int 0]) (B_lasts_2 : BD K fdA P_lasts [.int 0]) : FnOk P w K mg base CX0 8 f fd P__law_told_so spTold74 := by
  obtain ⟨ds1, v_drawn_2, b_drawn_2⟩ := B_drawn_2
  obtain ⟨ds2, v_lasting_2, b_lasting_2⟩ := B_lasting_2
  obtain ⟨ds3, v_lasts_2, b_lasts_2⟩ := B_lasts_2
  refine F.ok sc__law_told_so (fun vs H Q E h => ?_) (fun cdv A outer s H vs Q E hr h => ?_)
  · obtain ⟨r, low, high, as, Ws, rfl, _⟩ := h
    rfl
  · obtain ⟨r, low, high, as, Ws, rfl, er, ra, R6, l1, lB, hh, q⟩ := h
    have hu64 := hr.units
    refine ⟨_, (pss_cons (ps_par (i := 3) (j := 4) rfl sc__law_told_so.nd rfl rfl (by decide) rfl rfl (pa_cons (pe_call (C_drawn.G.mono (by decide)) hr (by rfl) C_drawn.g C_drawn.kp b_drawn_2 v_drawn_2 pass0 (pa_cons (pv 0) (pa_cons (pv 1) pa_nil))) (pa_cons (pe_call (C_lasting.G.mono (by decide)) hr (by rfl) C_lasting.g C_lasting.kp b_lasting_2 v_lasting_2 pass0 (pa_cons (pv 0) (pa_cons (pv 1) pa_nil))) pa_nil)) rfl)
    (pss_cons (ps_set (i := 5) sc__law_told_so.nd rfl (.inl rfl) (pe_call (C_laid_out.G.mono (by decide)) hr (by rfl) C_laid_out.g C_laid_out.kp C_laid_out.b .nil pass0 (pa_cons (pv 0) (pa_cons (pv 3) pa_nil))))
    (pss_cons (ps_if (pw_or (pt_cmpR op_ne (pe_call (C_lasts.G.mono (by decide)) hr (by rfl) C_lasts.g C_lasts.kp b_lasts_2 v_lasts_2 pass0 (pa_cons (pv 5) (pa_cons (pv 1) pa_nil))) (pv 4) (nomark _)) (pw_or1 (pt_cmpR op_lt (pe_call (C_end_of.G.mono (by decide)) hr (by rfl) C_end_of.g C_end_of.kp C_end_of.b .nil pass0 (pa_cons (pv 5) pa_nil)) (pv 4) (nomark _)))).pt
      (pss_one (ps_ret pe_bl))
      pss_nil)
    (pss_cons (ps_if (pt_cmpR op_ne (pe_ix ix_tup (pe_call (C_first_off.G.mono (by decide)) hr (by rfl) C_first_off.g C_first_off.kp C_first_off.b .nil pass0 (pa_cons (pv 5) (pa_cons (pv 1) (pa_cons (pe_op op_sub (pe_op op_pow pe_int pe_int) pe_int) (pa_cons pe_int (pa_cons (pe_op op_add (pv 4) pe_int) pa_nil)))))) pe_int (fun _ _ => rfl)) (pv 4) (nomark _))
      (pss_one (ps_ret pe_bl))
      pss_nil)
    (C8.pss_cut (ps_if (pw_and (pt_cmpR op_gt (pv 4) pe_int (nomark _)) (pw_and1 (pt_cmpR op_lt (pe_ix ix_tup (pe_call (C_thinnest.G.mono (by decide)) hr (by rfl) C_thinnest.g C_thinnest.kp C_thinnest.b .nil pass0 (pa_cons (pv 5) (pa_cons pe_int (pa_cons (pv 4) pa_nil)))) pe_int (fun _ _ => rfl)) (pv 1) (nomark _)))).pt
      (pss_one (ps_ret pe_bl))
      pss_nil)
    (pss_cons (ps_if (pt_cmpR op_lt (pe_call (C_weight_between.G.mono (by decide)) hr (by rfl) C_weight_between.g C_weight_between.kp C_weight_between.b .nil pass0 (pa_cons (pv 5) (pa_cons pe_int (pa_cons (pv 4) pa_nil)))) (pe_op op_mulW (pv 1) (pv 4)) (nomark _))
      (pss_one (ps_ret pe_bl))
      pss_nil)
    (pss_cons (ps_for PassesOwn.never rfl (pi_tup (pe_call (C_stretches.G.mono (by decide)) hr (by rfl) C_stretches.g C_stretches.kp C_stretches.b .nil pass0 (pa_cons (pv 5) pa_nil))) (pg_tup rfl (pgs_cons (pg_name (i := 6) sc__law_told_so.nd rfl (.inl rfl)) (pgs_cons (pg_name (i := 7) sc__law_told_so.nd rfl (.inl rfl)) (pgs_cons (pg_name (i := 8) sc__law_told_so.nd rfl (.inl rfl)) (pgs_cons (pg_name (i := 9) sc__law_told_so.nd rfl (.inl rfl)) pgs_nil)))))
      (C8.pss_cut (ps_if (pw_or (pw_and (pt_cmpR op_lt (pv 6) (pv 4) (nomark _)) (pw_and1 (pt_cmpR op_lt (pe_callB (cr_sumT rfl) (by rfl) bi.m_sum (by decide +kernel) (pa_cons (pv 9) pa_nil)) (pv 1) (nomark _)))).pt (pw_or1 (pw_and (pt_cmpR op_eq (pv 6) (pv 4) (nomark _)) (pw_and1 (pt_cmpR op_ge (pe_callB (cr_sumT rfl) (by rfl) bi.m_sum (by decide +kernel) (pa_cons (pv 9) pa_nil)) (pv 1) (nomark _)))).pt)).pt
          (pss_one (ps_ret pe_bl))
          pss_nil)
        (pss_one (ps_if (pw_and (pt_cmpR op_gt (pe_callB (cr_sumT rfl) (by rfl) bi.m_sum (by decide +kernel) (pa_cons (pv 9) pa_nil)) (pv 2) (nomark _)) (pw_and1 (pt_val (pe_call (C_is_wide.G.mono (by decide)) hr (by rfl) C_is_wide.g C_is_wide.kp C_is_wide.b .nil pass0 (pa_cons (pv 0) (pa_cons (pv 1) (pa_cons (pv 2) pa_nil))))))).pt
          (pss_one (ps_ret pe_bl))
          pss_nil))))
    (pss_one (ps_ret (pe_cmpR op_isBl (pe_call (C_shows_thin.G.mono (by decide)) hr (by rfl) C_shows_thin.g C_shows_thin.kp C_shows_thin.b .nil pass0 (pa_cons (pv 0) (pa_cons (pv 1) (pa_cons (pv 4) (pa_cons (pv 3) pa_nil))))) pe_bl (nomark _))))))))))), ?_⟩
    have hlW := R6.few
    refine ⟨_, rfl, _, rfl, r, .non, low, 0, as, Ws, [], rfl, er, ra, .inl ⟨rfl, rfl⟩, R6.from l1, fun HA o ms sA eo lp mb => ?_⟩
    have tA := Tups.same sA
    refine ⟨_, rfl, _, rfl, r, .non, low, 0, as, Ws, [], rfl, tA _ _ er, ra.mono tA, .inl ⟨rfl, rfl⟩, R6.from l1, fun HB ms2 last sB lp2 hf => ⟨_, _, rfl, ?_⟩⟩
    have em := late_eq lp2 lp
    subst em
    have R := R6.row l1 lp mb hf
    have hf : IsFirst (laidAll Ws ms2) low 0 last := hf
    have hml := R.lp.1
    have sAB := sA.trans sB
    have tB := Tups.same sAB
    have eoB := sB _ _ eo
    refine ⟨_, rfl, _, rfl, r, o, as, Ws, ms2, rfl, tB _ _ er, ra.mono tB, eoB, hml.symm, hlW, fun HC st sC nst hst => ?_⟩
    have sAC := sAB.trans sC
    have g := R.good
    have ls := R.last_small
    have hl60 : (laidAll Ws ms2).length ≤ 60 := by
      rw [laidAll_len Ws ms2 hml.symm]
      exact hlW
    refine ⟨_, rfl, _, rfl, st, laidAll Ws ms2, low, 0, rfl, hst, hl60, g, l1, Int.le_refl _, fun HD m sD hm => ?_⟩
    have em := first_eq hm hf
    subst em
    refine ⟨_, rfl, rfl, _, rfl, ite2 (fun e => by simp at e) (fun _ => ?_)⟩
    have hstD := hst.mono (Tups.same sD)
    refine ⟨_, rfl, st, laidAll Ws ms2, rfl, hstD, hl60, g, fun HE m2 sE he => ⟨_, rfl, _, _, rfl, rfl, _, rfl, ite2 (fun e => ?_) (fun _ => ?_)⟩⟩
    · have e : m2 < m := of_decide_eq_true e
      have := end_least g l1 hf he
      omega
    have sCE := sD.trans sE
    have hstE := hst.mono (Tups.same sCE)
    refine ⟨_, rfl, _, rfl, _, _, rfl, rfl, ⟨by decide, by decide, by decide⟩, _, _, rfl, rfl, _, rfl, _, _, rfl, rfl, st, laidAll Ws ms2, low, 10 ^ 40 - 1, 0, m + 1, rfl, hstE, hl60, g, Int.le_refl _, fun HF x rr sF hoff hx => ?_⟩
    have e := off_first hf (fun q => R6.under hml.symm q) hoff
    subst e
    obtain ⟨oo, rfl, eoo⟩ := hx
    refine ⟨oo, _, _, _, rfl, rfl, SqT.of eoo, (rfl : atI _ (0 : Int) = some (.int m)), _, rfl, rfl, _, rfl, ite2 (fun e => by simp at e) (fun _ => ?_)⟩
    have sCF := sCE.trans sF
    have hstF := hst.mono (Tups.same sCF)
    refine ⟨fun σ' H' => σ' = [some (.ref r), some (.int low), some (.int high), some (.ref o), some (.int m), some (.ref st), none, none, none, none] ∧ Same HF H', ?_, fun σ' HG hm => ?_⟩
    · refine ⟨_, rfl, _, _, rfl, rfl, _, rfl, ite2 (fun e => ?_) (fun _ => ⟨rfl, Same.refl _⟩)⟩
      have e : (0 : Int) < m := of_decide_eq_true e
      refine ⟨_, rfl, _, rfl, st, laidAll Ws ms2, 0, m, rfl, hstF, hl60, g, Int.le_refl _, e, fun HG oo t mm sG eoG hx => ?_⟩
      refine ⟨oo, _, _, _, rfl, rfl, SqT.of eoG, (rfl : atI _ (0 : Int) = some (.int t)), _, rfl, _, _, rfl, rfl, _, rfl, ite2 (fun e2 => ?_) (fun _ => ⟨rfl, sG⟩)⟩
      have e2 : t < low := of_decide_eq_true e2
      have := hf.2.2 mm hx.1 hx.2.1
      have := hx.2.2.1
      omega
    obtain ⟨rfl, sG⟩ := hm
    have sCG := sCF.trans sG
    have hstG := hst.mono (Tups.same sCG)
    refine ⟨_, rfl, _, rfl, st, laidAll Ws ms2, 0, m, rfl, hstG, hl60, g, fun HI sI => ?_⟩
    refine ⟨_, rfl, _, rfl, _, _, rfl, rfl, wmul (by omega) (by omega) ls.1 (by omega), _, _, rfl, rfl, _, rfl, ite2 (fun e => ?_) (fun _ => ?_)⟩
    · have e : WL 0 m (laidAll Ws ms2) < low * m := of_decide_eq_true e
      have := weight_least g hf
      omega
    have sCI := sCG.trans sI
    have hstI := hst.mono (Tups.same sCI)
    refine ⟨_, rfl, st, laidAll Ws ms2, rfl, hstI, hl60, g, fun HJ oj bs ys sJ nj ej sg hpl => ?_⟩
    have sCJ := sCI.trans sJ
    have sHJ : Same H HJ := sAC.trans sCJ
    refine ⟨oj, rfl, ⟨_, SqT.of ej⟩, for_tup (xs := bs.map V.ref) (fun i σ' H' => Same HJ H' ∧ ∃ (x6 x7 x8 x9 : Option V), σ' = [some (.ref r), some (.int low), some (.int high), some (.ref o), some (.int m), some (.ref st), x6, x7, x8, x9]) ⟨Same.refl _, _, _, _, _, rfl⟩ (fun i σ' H' hi hm => ?_) (fun i x σ' H' hx hm => ?_) (fun σ' H' hm => ?_)⟩
    · exact SqT.of (hm.1 _ _ ej)
    · obtain ⟨sm, x6, x7, x8, x9, rfl⟩ := hm
      obtain ⟨b, rfl, eb⟩ := ref_get hx
      obtain ⟨sp, en, ep, n, t, h1, h2, h3⟩ := sg.2 i b eb
      obtain ⟨e1, e2⟩ := pairs_get ep
      have sp0 : 0 ≤ sp := by
        obtain ⟨rr, er0⟩ := places_zero g hpl
        have h0 : ys[0]? = some 0 := by rw [er0]; rfl
        rcases Nat.eq_zero_or_pos i with hi | hi
        · subst hi
          rw [h0] at e1
          have := Option.some.inj e1
          omega
        · obtain ⟨i1, g1⟩ := List.getElem?_eq_some_iff.mp h0
          obtain ⟨i2, g2⟩ := List.getElem?_eq_some_iff.mp e1
          have := List.pairwise_iff_getElem.mp hpl.1 0 i i1 i2 hi
          omega
      refine ⟨b, _, rfl, SqT.of (sm _ _ h1), rfl, _, _, rfl, _, _, rfl, _, _, rfl, _, _, rfl, rfl, ?_⟩
      have fs : [s0 (laidAll Ws ms2) sp, My.s1 (laidAll Ws ms2) sp].sum = thickS (laidAll Ws ms2) sp := by
        rw [← s01]
        simp only [List.sum_cons, List.sum_nil, Int.add_zero]
      have hl1 : sp < m → low ≤ thickS (laidAll Ws ms2) sp := fun h => hf.2.2 sp sp0 h
      have hl2 : sp = m → thickS (laidAll Ws ms2) sp < low := fun h => by rw [h]; exact hf.2.1
      refine ⟨fun σ' H2 => σ' = [some (.ref r), some (.int low), some (.int high), some (.ref o), some (.int m), some (.ref st), some (.int sp), some (.int en), some (.ref n), some (.ref t)] ∧ Same HJ H2, ?_, fun σ' H2 hm => ?_⟩
      · refine ⟨_, rfl, _, rfl, _, _, rfl, rfl, _, rfl, ite2 (fun e => ?_) (fun e => ?_)⟩
        · have e : sp < m := of_decide_eq_true e
          refine ⟨_, rfl, t, [s0 (laidAll Ws ms2) sp, My.s1 (laidAll Ws ms2) sp], rfl, SqT.of (sm _ _ h3), _, rfl, _, _, rfl, rfl, _, rfl, ?_⟩
          rw [fs]
          refine ite2 (fun e2 => ?_) (fun _ => ?_)
          · have e2 : thickS (laidAll Ws ms2) sp < low := of_decide_eq_true e2
            have := hl1 e
            omega
          · refine ⟨_, rfl, _, rfl, rfl, _, rfl, ite2 (fun e2 => ?_) (fun _ => ⟨rfl, sm⟩)⟩
            simp at e2
            omega
        · refine ⟨_, rfl, _, rfl, rfl, _, rfl, ite2 (fun e2 => ?_) (fun _ => ⟨rfl, sm⟩)⟩
          have e2 : sp = m := by simpa using e2
          refine ⟨_, rfl, t, [s0 (laidAll Ws ms2) sp, My.s1 (laidAll Ws ms2) sp], rfl, SqT.of (sm _ _ h3), _, rfl, _, _, rfl, rfl, _, rfl, ?_⟩
          rw [fs]
          refine ite2 (fun e3 => ?_) (fun _ => ⟨rfl, sm⟩)
          have e3 : low ≤ thickS (laidAll Ws ms2) sp := of_decide_eq_true e3
          have := hl2 e2
          omega
      · obtain ⟨rfl, sm2⟩ := hm
        refine ⟨_, rfl, t, [s0 (laidAll Ws ms2) sp, My.s1 (laidAll Ws ms2) sp], rfl, SqT.of (sm2 _ _ h3), _, rfl, _, _, rfl, rfl, _, rfl, ?_⟩
        rw [fs]
        refine ite2 (fun e => ?_) (fun _ => ⟨sm2, _, _, _, _, rfl⟩)
        have e : high < thickS (laidAll Ws ms2) sp := of_decide_eq_true e
        have s02 := sHJ.trans sm2
        refine ⟨_, rfl, _, rfl, _, rfl, r, low, high, as, Ws, rfl, s02 _ _ er, ra.mono (Tups.same s02), hlW, R.gw, fun H3 s3 => ⟨_, rfl, ?_⟩⟩
        cases hw : wideB low high Ws with
        | true =>
          have := wide_never (fun W hW => ⟨R.gw W hW, falls_fal (R.gt W hW).1.2.1⟩) g lp hh hw sp
          omega
        | false => exact iteF ⟨sm2.trans s3, _, _, _, _, rfl⟩
    · obtain ⟨sm, x6, x7, x8, x9, rfl⟩ := hm
      have s0 := sHJ.trans sm
      have tp : (2 : Int) ^ 140 ≤ topB := by decide
      have tp2 : (2 : Int) ^ 113 ≤ topB := by decide
      refine ⟨_, rfl, _, rfl, _, rfl, _, rfl, r, .ref o, low, m, Ws, .tup (ms2.map Th.int), rfl, ⟨as, s0 _ _ er, ra.mono (Tups.same s0), fun W hW => (R6.gt W hW).1, hlW⟩, l1, by omega, ls.1, by omega, ints_th ((sC.trans (sCJ.trans sm)) _ _ eoB) (fun x hx => ⟨(R.small hx).1, by have := (R.small hx).2; omega⟩), fun H4 s4 => ?_⟩
      rw [R.shows]
      exact ⟨_, _, rfl, rfl, q _ (s0.trans s4)⟩
theorem intsT_ne {K : PySem.W.Frag} {H : Hp} {a b : Addr} {ns : List Int} {Q : VK} (ha : H a = some (.tup (ns.map V.int))) (hb : H b = some (.tup (ns.map V.int))) (q : Q (.bl false) H) : rNeD K (.ref a) (.ref b) H Q := by
  refine ⟨_, _, .tup (SqT.of ha) (ints_dp ns), .tup (SqT.of hb) (ints_dp ns), ints_shaped ns, ints_shaped ns, ?_⟩
  rw [SeqAt.eqv_refl _ (Bool.and_eq_true_iff.mp (ints_shaped ns)).1]
  exact q
theorem ok__law_goes_on {fD fN fT fO fL fF f : Addr} {fdD fdN fdT fdO fdL fdF fd : FuncData} (F : Fun K "_law_goes_on" "_law_goes_on" s__law_goes_on f fd) (bi : Bi mg) (C_drawn : Cal P w K mg base "drawn" P_drawn 5 spDrawn fD fdD) (C_lasting : Cal P w K mg base "lasting" P_lasting 6 spLasting fN fdN) (C__law_take : Cal P w K mg base "_law_take" P__law_take 1 spTakeC fT fdT) (C__law_of : Cal P w K mg base "_law_of" P__law_of 2 spOfB fO fdO)
    (C_laid_out : Cal P w K mg base "laid_out" P_laid_out 1 spLaidOut fL fdL) (C_from_on : Cal P w K mg base "from_on" P_from_on 3 spFromOn fF fdF) (B_drawn_2 : BD K fdD P_drawn [.non, .int 0]) (B_lasting_2 : BD K fdN P_lasting [.non, .int 0]) (B_drawn_3 : BD K fdD P_drawn [.int 0]) (B_lasting_3 : BD K fdN P_lasting [.int 0]) : FnOk P w K mg base CX0 7 f fd P__law_goes_on spGoes74 := by
  obtain ⟨ds1, v_drawn_2, b_drawn_2⟩ := B_drawn_2
  obtain ⟨ds2, v_lasting_2, b_lasting_2⟩ := B_lasting_2
  obtain ⟨ds3, v_drawn_3, b_drawn_3⟩ := B_drawn_3
  obtain ⟨ds4, v_lasting_3, b_lasting_3⟩ := B_lasting_3
  refine F.ok sc__law_goes_on (fun vs H Q E h => ?_) (fun cdv A outer s H vs Q E hr h => ?_)
  · obtain ⟨p, r, T, low, as, Ws, rfl, _⟩ := h
    rfl
  · obtain ⟨p, r, T, low, as, Ws, rfl, hp, hT, er, ra, R6, l1, lB, q⟩ := h
    have hu64 := hr.units
    refine ⟨_, (pss_cons (ps_par (i := 3) (j := 4) rfl sc__law_goes_on.nd rfl rfl (by decide) rfl rfl (pa_cons (pe_call (C_drawn.G.mono (by decide)) hr (by rfl) C_drawn.g C_drawn.kp b_drawn_2 v_drawn_2 pass0 (pa_cons (pv 1) (pa_cons (pv 2) pa_nil))) (pa_cons (pe_call (C_lasting.G.mono (by decide)) hr (by rfl) C_lasting.g C_lasting.kp b_lasting_2 v_lasting_2 pass0 (pa_cons (pv 1) (pa_cons (pv 2) pa_nil))) pa_nil)) rfl)
    (pss_cons (ps_if (pt_cmpR (op_eqE hu64) (pv 1) (pe_tup pa_nil) (nomark _))
      (pss_one (ps_ret (pe_and (pe_cmpR (op_eqE hu64) (pv 3) (pe_tup pa_nil) (nomark _)) (pe_one (pe_cmpR op_eq (pv 4) pe_int (nomark _))))))
      pss_nil)
    (pss_cons (ps_set (i := 5) sc__law_goes_on.nd rfl (.inl rfl) (pe_op op_add (pe_call (C__law_take.G.mono (by decide)) hr (by rfl) C__law_take.g C__law_take.kp C__law_take.b .nil pass0 (pa_cons (pv 0) (pa_cons (pe_callB call_len_seq (by rfl) bi.m_len (by decide +kernel) (pa_cons (pv 1) pa_nil)) pa_nil))) pe_int))
    (pss_cons (ps_set (i := 6) sc__law_goes_on.nd rfl (.inl rfl) (pe_ix ix_tup (pe_op op_catA (pv 3) (pe_tup (pa_cons (pv 4) pa_nil))) (pv 5) (fun _ _ => rfl)))
    (pss_cons (ps_set (i := 7) sc__law_goes_on.nd rfl (.inr rfl) (pe_call (C__law_of.G.mono (by decide)) hr (by rfl) C__law_of.g C__law_of.kp C__law_of.b .nil pass0 (pa_cons (pv 0) (pa_cons (pe_lst (pa_cons pe_int (pa_cons (pv 6) (pa_cons (pe_op op_fdiv (pv 6) pe_int) (pa_cons (pe_callB (call_max2 rfl) (by rfl) bi.m_max (by decide +kernel) (pa_cons pe_int (pa_cons (pe_op op_sub (pv 6) pe_int) pa_nil))) pa_nil))))) pa_nil))))
    (pss_cons (ps_set (i := 8) sc__law_goes_on.nd rfl (.inl rfl) (pe_call (C_from_on.G.mono (by decide)) hr (by rfl) C_from_on.g C_from_on.kp C_from_on.b .nil pass0 (pa_cons (pe_call (C_laid_out.G.mono (by decide)) hr (by rfl) C_laid_out.g C_laid_out.kp C_laid_out.b .nil pass0 (pa_cons (pe_slice sl_tupA (pv 1) po_none (po_some (pv 5))) (pa_cons (pe_slice sl_tupA (pv 3) po_none (po_some (pv 5))) pa_nil))) (pa_cons (pv 7) pa_nil))))
    (pss_cons (ps_if (pt_cmpR (op_neD hu64) (pe_call (C_drawn.G.mono (by decide)) hr (by rfl) C_drawn.g C_drawn.kp b_drawn_3 v_drawn_3 pass0 (pa_cons (pe_slice sl_tupA (pv 1) (po_some (pv 5)) po_none) (pa_cons (pv 2) (pa_cons (pv 8) pa_nil)))) (pe_callTy call_tuple_of (by rfl) bi.m_tuple (by decide +kernel) (pa_cons (pe_lc (own := [("_law_at", 9)]) (g := (gName 9)) (tt := tYes) rfl sc__law_goes_on.nd (pi_tup (pe_slice sl_tupA (pv 3) (po_some (pv 5)) po_none)) (blkOk_by (N := N__law_goes_on) (sc := defScope s__law_goes_on) (by decide +kernel)) (fun _ _ _ _ _ => (pg_name (i := 9) sc__law_goes_on.nd rfl (.inl rfl) (.inr rfl))) (fun _ _ _ _ _ => pts_nil) (fun _ _ _ _ _ => (pe_op op_sub (pv 9) (pv 7)))) pa_nil)) (nomark _))
      (pss_one (ps_ret pe_bl))
      pss_nil)
    (pss_one (ps_ret (pe_cmpR op_eq (pe_call (C_lasting.G.mono (by decide)) hr (by rfl) C_lasting.g C_lasting.kp b_lasting_3 v_lasting_3 pass0 (pa_cons (pe_slice sl_tupA (pv 1) (po_some (pv 5)) po_none) (pa_cons (pv 2) (pa_cons (pv 8) pa_nil)))) (pe_op op_sub (pv 4) (pv 7)) (nomark _))))))))))), ?_⟩
    have hlW := R6.few
    refine ⟨_, rfl, _, rfl, r, .non, low, 0, as, Ws, [], rfl, er, ra, .inl ⟨rfl, rfl⟩, R6.from l1, fun HA o ms sA eo lp mb => ?_⟩
    have tA := Tups.same sA
    refine ⟨_, rfl, _, rfl, r, .non, low, 0, as, Ws, [], rfl, tA _ _ er, ra.mono tA, .inl ⟨rfl, rfl⟩, R6.from l1, fun HB ms2 last sB lp2 hf => ⟨_, _, rfl, ?_⟩⟩
    have em := late_eq lp2 lp
    subst em
    have R := R6.row l1 lp mb hf
    have hml := R.lp.1
    have sAB := sA.trans sB
    have tB := Tups.same sAB
    have eoB := sB _ _ eo
    have erB := tB _ _ er
    have raB := ra.mono tB
    have hpB := hp.same sAB
    have kB : Keep p p H HB := Same.keep sAB
    have ls := R.last_small
    clear tA sA sB tB eo
    -- a row of none
    refine ⟨_, rfl, (by show 0 ≤ sizeLine; decide), fun Z nZ => ?_⟩
    have eZ : upd HB Z (.tup []) Z = some (.tup []) := upd_same
    have sZ : Same HB (upd HB Z (.tup [])) := same_new (Same.refl _) nZ
    generalize upd HB Z (.tup []) = HZ at eZ sZ
    have erZ := sZ _ _ erB
    have eoZ := sZ _ _ eoB
    have raZ := raB.mono (Tups.same sZ)
    have hpZ := hpB.same sZ
    have kZ : Keep p p H HZ := kB.trans (Same.keep sZ)
    refine ⟨r, Z, _, rfl, rfl, SqT.of erZ, SqT.of eZ, _, rfl, ?_⟩
    cases Ws with
    | nil =>
      have has : as = [] := List.length_eq_zero_iff.mp ra.1
      subst has
      have hms : ms2 = [] := List.length_eq_zero_iff.mp hml
      subst hms
      refine iteT ?_
      refine ⟨_, rfl, (by show 0 ≤ sizeLine; decide), fun Y nY => ?_⟩
      have eY : upd HZ Y (.tup []) Y = some (.tup []) := upd_same
      have sY : Same HZ (upd HZ Y (.tup [])) := same_new (Same.refl _) nY
      generalize upd HZ Y (.tup []) = HY at eY sY
      refine ⟨o, Y, _, rfl, rfl, SqT.of (sY _ _ eoZ), SqT.of eY, _, rfl, iteT ?_⟩
      have h0 := hf.1
      have h1 : ¬ 0 < last := fun c => by
        have h2 : low ≤ (0 : Int) := hf.2.2 0 (Int.le_refl _) c
        omega
      have e0 : last = 0 := by omega
      subst e0
      refine ⟨_, rfl, rfl, ?_⟩
      exact q _ ((hpZ.same sY).mono (by omega)) (kZ.trans (Same.keep sY))
    | cons W0 Wr =>
      generalize hWs : W0 :: Wr = Ws at *
      have hW1 : 1 ≤ Ws.length := by rw [← hWs]; simp
      have hne : (as.map V.ref).isEmpty = false := by
        cases as with
        | nil => 
          have := ra.1
          rw [List.length_nil] at this
          omega
        | cons _ _ => rfl
      rw [hne]
      refine iteF ?_
      -- how many
      refine ⟨_, rfl, _, rfl, r, _, rfl, .inr (SqT.of erZ), p, _, _, rfl, hpZ, by omega, ?_, fun d H1 d0 d1 hp1 k1 => ⟨_, _, rfl, rfl, ?_⟩⟩
      · rw [List.length_map, raZ.1]
        exact wdiv (by omega) (by omega)
      rw [List.length_map, raZ.1] at d1
      obtain ⟨k, hk⟩ : ∃ k : Nat, (k : Int) = d + 1 := ⟨(d + 1).toNat, by omega⟩
      have hk1 : 1 ≤ k ∧ k ≤ ms2.length := by omega
      dsimp only
      rw [← hk]
      have t1 := k1.tupsC hpZ
      have eo1 := t1 _ _ eoZ
      have er1 := t1 _ _ erZ
      have ra1 := raZ.mono t1
      have kH1 := kZ.trans k1
      -- until
      refine ⟨_, rfl, _, rfl, (by show 1 ≤ sizeLine; decide), fun Y nY => ?_⟩
      have eY : upd H1 Y (.tup [.int last]) Y = some (.tup ([last].map V.int)) := upd_same
      have sY : Same H1 (upd H1 Y (.tup [.int last])) := same_new (Same.refl _) nY
      generalize upd H1 Y (.tup [.int last]) = HY at eY sY
      refine catA (sY _ _ eo1) eY (Nat.le_of_lt (small1000 (by rw [List.length_map, List.length_map]; show ms2.length + 1 ≤ 1000; omega))) fun H2 X sX eX => ?_
      rw [← List.map_append] at eX
      have s12 := sY.trans sX
      obtain ⟨m, hm, hml2, hR⟩ : ∃ m, (ms2 ++ [last])[k]? = some m ∧ 0 ≤ m ∧ m ≤ 2 ^ 113 ∧ ∀ b, 0 ≤ b → b ≤ m → LateP (aboveOf b (laidAll (Ws.take k) (ms2.take k))) (Ws.drop k) low 0 ((ms2.drop k).map (· - b)) ∧ IsFirst (aboveOf b (laidAll (Ws.take k) (ms2.take k)) ++ laidAll (Ws.drop k) ((ms2.drop k).map (· - b))) low 0 (last - b) := by
        by_cases c : k < ms2.length
        · have em : ms2[k]? = some ms2[k] := List.getElem?_eq_getElem c
          refine ⟨ms2[k], by rw [List.getElem?_append_left c]; exact em, (R.small (List.mem_of_getElem? em)).1, (R.small (List.mem_of_getElem? em)).2, fun b h0 h1 => R.above em h0 h1⟩
        · have e : k = ms2.length := by omega
          refine ⟨last, by rw [List.getElem?_append_right (by omega), e, Nat.sub_self]; rfl, ls.1, ls.2, fun b h0 h1 => ?_⟩
          have e2 : k = Ws.length := by omega
          rw [e2, List.take_length, List.drop_length, ← hml, List.take_length, List.drop_length]
          have := R.above_end h0 h1
          refine ⟨this.1, ?_⟩
          show IsFirst (aboveOf b (laidAll Ws ms2) ++ []) low 0 (last - b)
          rw [List.append_nil]
          exact this.2
      obtain ⟨hm2, hR⟩ := hR
      refine ⟨_, rfl, X, _, _, .int m, rfl, rfl, SqT.of eX, atI_nat (j := k) (by rw [List.getElem?_map, hm]; rfl), ?_⟩
      -- now
      refine ⟨_, rfl, _, rfl, _, rfl, _, _, rfl, rfl, ⟨by decide, by decide⟩, _, rfl, _, _, rfl, rfl, _, _, rfl, (by show 4 ≤ sizeLine; decide), fun V1 nV => ?_⟩
      have hp2 := hp1.same s12
      refine ⟨p, _, V1, _, rfl, hp2.new nV, by omega, upd_same, hp2.fresh nV, by show 1 ≤ 4; decide, by show 4 ≤ 1000; decide, fun H3 j x hx hp3 k3 => ?_⟩
      obtain ⟨now, rfl, n0, n1⟩ : ∃ n : Int, x = .int n ∧ 0 ≤ n ∧ n ≤ m := by
        have := List.mem_of_getElem? hx
        simp only [List.mem_cons, List.not_mem_nil, or_false] at this
        rcases this with h | h | h | h
        · exact ⟨_, h, by omega, by omega⟩
        · exact ⟨_, h, by omega, by omega⟩
        · exact ⟨_, h, by omega, by omega⟩
        · exact ⟨_, h, by split <;> omega, by split <;> omega⟩
      obtain ⟨a1, a2⟩ := hR now n0 n1
      have Fa := R.fromA k (b := now) n0
      have k23 : Keep p p H2 H3 := (Keep.refl.new nV).trans k3
      have t13 : Tups H1 H3 := (Tups.same s12).trans (k23.tupsC hp2)
      have er3 := t13 _ _ er1
      have eo3 := t13 _ _ eo1
      have ra3 := ra1.mono t13
      have kH3 := (kH1.trans (Same.keep s12)).trans k23
      have sliceR : ∀ (H4 : Hp) (Q : VK), Same H3 H4 → (∀ H5 x, Same H4 H5 → H5 x = some (.tup ((as.drop k).map V.ref)) → Q (.ref x) H5) → rSlA K (.ref r) (some (k : Int)) none H4 Q := fun H4 Q s4 h => slA (s4 _ _ er3) fun H5 x s5 ex => h H5 x s5 (by rw [ex, cut_drop _ _ (by rw [List.length_map, ra.1]; omega), List.map_drop])
      have sliceM : ∀ (H4 : Hp) (Q : VK), Same H3 H4 → (∀ H5 x, Same H4 H5 → H5 x = some (.tup ((ms2.drop k).map V.int)) → Q (.ref x) H5) → rSlA K (.ref o) (some (k : Int)) none H4 Q := fun H4 Q s4 h => slA (s4 _ _ eo3) fun H5 x s5 ex => h H5 x s5 (by rw [ex, cut_drop _ _ (by rw [List.length_map]; omega), List.map_drop])
      -- later
      refine ⟨_, rfl, _, rfl, _, rfl, ?_⟩
      dsimp only [tNoPart]
      refine slA er3 fun H4 x1 s4 ex1 => ?_
      rw [cut_take, ← List.map_take] at ex1
      refine ⟨_, rfl, _, rfl, _, rfl, ?_⟩
      dsimp only [tNoPart]
      refine slA (s4 _ _ eo3) fun H5 x2 s5 ex2 => ?_
      rw [cut_take, ← List.map_take] at ex2
      have s35 := s4.trans s5
      refine ⟨x1, x2, as.take k, Ws.take k, ms2.take k, rfl, s5 _ _ ex1, (ra3.mono (Tups.same s35)).take k, ex2, by rw [List.length_take, List.length_take, hml], by rw [List.length_take]; omega, fun H6 st s6 nst hst => ?_⟩
      have s36 := s35.trans s6
      have hLl : (laidAll (Ws.take k) (ms2.take k)).length ≤ 60 := by
        rw [laidAll_len _ _ (by rw [List.length_take, List.length_take, hml]), List.length_take]
        omega
      have gl : ∀ L ∈ laidAll (Ws.take k) (ms2.take k), GoodL L := fun L hL => by
        refine R.good L ?_
        rw [laid_split Ws ms2 k]
        exact List.mem_append_left _ hL
      refine ⟨_, rfl, st, _, now, rfl, hst, hLl, fun L hL => (gl L hL).1.2.1, fun H7 la s7 nla hla => ?_⟩
      have s37 := s36.trans s7
      -- drawn
      refine ⟨_, rfl, _, rfl, _, rfl, ?_⟩
      dsimp only [tNoPart]
      refine sliceR H7 _ s37 fun H8 y3 s8 ey3 => ?_
      have s38 := s37.trans s8
      refine ⟨_, rfl, _, rfl, y3, .ref la, low, 0, as.drop k, Ws.drop k, _, rfl, ey3, (ra3.mono (Tups.same s38)).drop k, .inr ⟨la, rfl, hla.mono (Tups.same s8)⟩, Fa, fun H9 e1 ms9 s9 ed lp9 _ => ?_⟩
      have em := late_eq lp9 a1
      subst em
      have s39 := s38.trans s9
      have hdl : (ms2.drop k).length ≤ 60 := by
        rw [List.length_drop]
        omega
      refine ⟨_, rfl, _, rfl, _, rfl, ?_⟩
      dsimp only [tNoPart]
      refine sliceM H9 _ s39 fun HC y1 sC ey1 => ?_
      have s3C := s39.trans sC
      refine ⟨y1, rfl, ⟨_, SqT.of ey1⟩, fun D nD => ?_⟩
      refine lc_tup (xs := (ms2.drop k).map V.int) (fun i H8 => Same HC H8 ∧ H8 D = some (.lst ((((ms2.drop k).take i).map (· - now)).map V.int))) ⟨same_new (Same.refl _) nD, upd_same⟩ (fun i H8 hi hm => SqT.of (hm.1 _ _ ey1)) (fun i x H8 hx hm => ?_) (fun HE hm => ?_)
      · obtain ⟨s8, eD⟩ := hm
        obtain ⟨n, rfl, en⟩ := int_get hx
        refine ⟨rfl, yesIte ?_⟩
        refine ⟨_, rfl, _, rfl, _, _, rfl, rfl, _, eD, ?_, same_mine s8 nD, ?_⟩
        · rw [List.length_map, List.length_map, List.length_take]
          exact small1000 (by omega)
        · rw [upd_same, List.take_add_one, en]
          show _ = some (HO.lst ((((ms2.drop k).take i ++ [n]).map (· - now)).map V.int))
          rw [List.map_append, List.map_append]
          rfl
      obtain ⟨sE, eD⟩ := hm
      rw [List.length_map, List.take_length] at eD
      refine ⟨D, _, rfl, .inl ⟨SqL.of eD, fun du ndu => ?_⟩⟩
      have sdu : Same HC (upd HE du (.tup (((ms2.drop k).map (· - now)).map V.int))) := same_new sE ndu
      have edu : upd HE du (.tup (((ms2.drop k).map (· - now)).map V.int)) du = some (.tup (((ms2.drop k).map (· - now)).map V.int)) := upd_same
      generalize upd HE du (.tup (((ms2.drop k).map (· - now)).map V.int)) = HF at sdu edu
      have s9F := sC.trans sdu
      have s3F := s39.trans s9F
      refine intsT_ne (s9F _ _ ed) edu ⟨_, rfl, ?_⟩
      refine iteF ?_
      refine ⟨_, rfl, _, rfl, _, rfl, ?_⟩
      dsimp only [tNoPart]
      refine sliceR HF _ s3F fun HG y4 sG ey4 => ?_
      have s3G := s3F.trans sG
      have s7G := ((s8.trans s9).trans s9F).trans sG
      refine ⟨_, rfl, _, rfl, y4, .ref la, low, 0, as.drop k, Ws.drop k, _, rfl, ey4, (ra3.mono (Tups.same s3G)).drop k, .inr ⟨la, rfl, hla.mono (Tups.same s7G)⟩, Fa, fun HI msI lI sI lpI hfI => ?_⟩
      have em := late_eq lpI a1
      subst em
      have em := first_eq hfI a2
      refine ⟨_, rfl, _, rfl, _, _, rfl, rfl, rfl, ?_⟩
      rw [em]
      have e1 : decide (V.int (last - now) = V.int (last - now)) = true := decide_eq_true rfl
      show Q (.bl (decide (V.int (last - now) = V.int (last - now)))) HI
      rw [e1]
      have s3I := s3G.trans sI
      exact q _ ((hp3.same s3I).mono (by omega)) (kH3.trans (Same.keep s3I))
theorem one_good {so t g : Int} (s0 : 0 ≤ so) (s1 : so < 2) (t0 : 0 ≤ t) (t1 : t < 9) (g0 : 0 ≤ g) (g1 : g < 3) : GoodT (so, [(1 + t, 1 + g)]) ∧ longs (so, [(1 + t, 1 + g)]).2 ≤ 2 ^ 107 := by
  have hl : longs [(1 + t, 1 + g)] = 1 + g := by
    show [1 + g].sum = 1 + g
    simp
  refine ⟨⟨⟨⟨by show 0 < 1; decide, by show 1 ≤ 10; decide, fun x hx => ?_⟩, s0, by show so ≤ 1; omega, ?_⟩, List.pairwise_singleton _ _, by show 1 ≤ 8; decide⟩, ?_⟩
  · rw [List.mem_singleton.mp hx]
    dsimp only
    omega
  · show longs [(1 + t, 1 + g)] < 2 ^ 110
    omega
  · show longs [(1 + t, 1 + g)] ≤ 2 ^ 107
    omega
theorem ok_law {fB fT fO fR fW fE fG fS fN f : Addr} {fdB fdT fdO fdR fdW fdE fdG fdS fdN fd : FuncData} (F : Fun K "law" "law" s_law f fd) (bi : Bi mg)
    (C__law_begin : Cal P w K mg base "_law_begin" P__law_begin 1 (spBeginC K) fB fdB) (C__law_take : Cal P w K mg base "_law_take" P__law_take 1 spTakeC fT fdT) (C__law_of : Cal P w K mg base "_law_of" P__law_of 2 spOfB fO fdO) (C__law_small_row : Cal P w K mg base "_law_small_row" P__law_small_row 2 spSmallRow fR fdR)
    (C__law_drawn_wisp : Cal P w K mg base "_law_drawn_wisp" P__law_drawn_wisp 3 spDWisp74 fW fdW) (C__law_least : Cal P w K mg base "_law_least" P__law_least 2 spLeast fE fdE) (C__law_gone_through : Cal P w K mg base "_law_gone_through" P__law_gone_through 7 spGone74 fG fdG) (C__law_told_so : Cal P w K mg base "_law_told_so" P__law_told_so 8 spTold74 fS fdS) (C__law_goes_on : Cal P w K mg base "_law_goes_on" P__law_goes_on 7 spGoes74 fN fdN) : FnOk P w K mg base CX0 9 f fd P_law (spLaw K) := by
  refine F.ok sc_law (fun vs H Q E h => ?_) (fun cdv A outer s H vs Q E hr h => ?_)
  · obtain ⟨a, ns, rfl, _⟩ := h
    rfl
  · obtain ⟨a, ns, rfl, hS, hn, q⟩ := h
    refine ⟨_, (pss_cons (ps_for PassesOwn.never rfl (pi_range1 rfl bi.m_range (pa_cons (pe_callB (call_max2 rfl) (by rfl) bi.m_max (by decide +kernel) (pa_cons pe_int (pa_cons (pe_callB (call_min2 rfl) (by rfl) bi.m_min (by decide +kernel) (pa_cons pe_int (pa_cons (pe_callB call_len_seq (by rfl) bi.m_len (by decide +kernel) (pa_cons (pv 0) pa_nil)) pa_nil))) pa_nil))) pa_nil)) (pg_name (i := 1) sc_law.nd rfl (.inl rfl))
      (pss_cons (ps_set (i := 2) sc_law.nd rfl (.inr rfl) (pe_call (C__law_begin.G.mono (by decide)) hr (by rfl) C__law_begin.g C__law_begin.kp C__law_begin.b .nil pass0 (pa_cons (pv 0) (pa_cons (pv 1) pa_nil))))
        (pss_cons (ps_par (i := 3) (j := 4) rfl sc_law.nd rfl rfl (by decide) rfl rfl (pa_cons (pe_call (C__law_small_row.G.mono (by decide)) hr (by rfl) C__law_small_row.g C__law_small_row.kp C__law_small_row.b .nil pass0 (pa_cons (pv 2) pa_nil)) (pa_cons (pe_op op_add pe_int (pe_call (C__law_take.G.mono (by decide)) hr (by rfl) C__law_take.g C__law_take.kp C__law_take.b .nil pass0 (pa_cons (pv 2) (pa_cons pe_int pa_nil)))) pa_nil)) rfl)
        (C8.pss_cut (ps_if (pw_and (pt_cmpR op_lt (pv 1) pe_int (nomark _)) (pw_and1 (pt_not (pt_val (pe_call (C__law_gone_through.G.mono (by decide)) hr (by rfl) C__law_gone_through.g C__law_gone_through.kp C__law_gone_through.b .nil pass0 (pa_cons (pv 3) (pa_cons (pv 4) pa_nil))))))).pt
          (pss_one (ps_ret pe_bl))
          pss_nil)
        (pss_cons (ps_if (pw_or (pt_not (pt_val (pe_call (C__law_told_so.G.mono (by decide)) hr (by rfl) C__law_told_so.g C__law_told_so.kp C__law_told_so.b .nil pass0 (pa_cons (pv 3) (pa_cons (pv 4) (pa_cons (pe_op op_add (pv 4) (pe_call (C__law_take.G.mono (by decide)) hr (by rfl) C__law_take.g C__law_take.kp C__law_take.b .nil pass0 (pa_cons (pv 2) (pa_cons pe_int pa_nil)))) pa_nil)))))) (pw_or1 (pt_not (pt_val (pe_call (C__law_goes_on.G.mono (by decide)) hr (by rfl) C__law_goes_on.g C__law_goes_on.kp C__law_goes_on.b .nil pass0 (pa_cons (pv 2) (pa_cons (pv 3) (pa_cons (pv 4) pa_nil)))))))).pt
          (pss_one (ps_ret pe_bl))
          pss_nil)
        (pss_cons (ps_asg (pe_tup (pa_cons (pe_call (C__law_take.G.mono (by decide)) hr (by rfl) C__law_take.g C__law_take.kp C__law_take.b .nil pass0 (pa_cons (pv 2) (pa_cons pe_int pa_nil))) (pa_cons (pe_call (C__law_of.G.mono (by decide)) hr (by rfl) C__law_of.g C__law_of.kp C__law_of.b .nil pass0 (pa_cons (pv 2) (pa_cons (pe_lst (pa_cons pe_int (pa_cons pe_int (pa_cons pe_int (pa_cons pe_int (pa_cons pe_int (pa_cons pe_int (pa_cons pe_int (pa_cons pe_int (pa_cons pe_int (pa_cons pe_int pa_nil))))))))))) pa_nil))) pa_nil))) (pg_tup rfl (pgs_cons (pg_name (i := 5) sc_law.nd rfl (.inr rfl)) (pgs_cons (pg_name (i := 6) sc_law.nd rfl (.inl rfl)) pgs_nil))))
        (C8.pss_cut (ps_if (pt_cmpR op_eq (pv 6) pe_int (nomark _))
          (pss_cons (ps_set (i := 7) sc_law.nd rfl (.inl rfl) (pe_callTy call_tuple_of (by rfl) bi.m_tuple (by decide +kernel) (pa_cons (pe_lc (own := [("_law_go", 8)]) (g := (gName 8)) (tt := tYes) rfl sc_law.nd (pi_range1 rfl bi.m_range (pa_cons pe_int pa_nil)) (blkOk_by (N := N_law) (sc := defScope s_law) (by decide +kernel)) (fun _ _ _ _ _ => (pg_name (i := 8) sc_law.nd rfl (.inl rfl) (.inr rfl))) (fun _ _ _ _ _ => pts_nil) (fun _ _ _ _ _ => (pe_tup (pa_cons (pe_call (C__law_take.G.mono (by decide)) hr (by rfl) C__law_take.g C__law_take.kp C__law_take.b .nil pass0 (pa_cons (pv 2) (pa_cons pe_int pa_nil))) (pa_cons (pe_tup (pa_cons (pe_tup (pa_cons (pe_op op_add pe_int (pe_call (C__law_take.G.mono (by decide)) hr (by rfl) C__law_take.g C__law_take.kp C__law_take.b .nil pass0 (pa_cons (pv 2) (pa_cons pe_int pa_nil)))) (pa_cons (pe_op op_add pe_int (pe_call (C__law_take.G.mono (by decide)) hr (by rfl) C__law_take.g C__law_take.kp C__law_take.b .nil pass0 (pa_cons (pv 2) (pa_cons pe_int pa_nil)))) pa_nil))) pa_nil)) pa_nil))))) pa_nil)))
            (pss_one (ps_set (i := 5) sc_law.nd rfl (.inr rfl) pe_int)))
          (pss_one (ps_set (i := 7) sc_law.nd rfl (.inl rfl) (pe_callTy call_tuple_of (by rfl) bi.m_tuple (by decide +kernel) (pa_cons (pe_lc (own := [("_law_go", 8)]) (g := (gName 8)) (tt := tYes) rfl sc_law.nd (pi_range1 rfl bi.m_range (pa_cons (pv 6) pa_nil)) (blkOk_by (N := N_law) (sc := defScope s_law) (by decide +kernel)) (fun _ _ _ _ _ => (pg_name (i := 8) sc_law.nd rfl (.inl rfl) (.inr rfl))) (fun _ _ _ _ _ => pts_nil) (fun _ _ _ _ _ => (pe_call (C__law_drawn_wisp.G.mono (by decide)) hr (by rfl) C__law_drawn_wisp.g C__law_drawn_wisp.kp C__law_drawn_wisp.b .nil pass0 (pa_cons (pv 2) (pa_cons (pv 5) pa_nil))))) pa_nil)))))
        (pss_cons (ps_set (i := 4) sc_law.nd rfl (.inl rfl) (pe_call (C__law_least.G.mono (by decide)) hr (by rfl) C__law_least.g C__law_least.kp C__law_least.b .nil pass0 (pa_cons (pv 2) (pa_cons (pv 5) pa_nil))))
        (pss_one (ps_if (pw_or (pt_not (pt_val (pe_call (C__law_told_so.G.mono (by decide)) hr (by rfl) C__law_told_so.g C__law_told_so.kp C__law_told_so.b .nil pass0 (pa_cons (pv 7) (pa_cons (pv 4) (pa_cons (pe_op op_add (pv 4) (pe_call (C__law_of.G.mono (by decide)) hr (by rfl) C__law_of.g C__law_of.kp C__law_of.b .nil pass0 (pa_cons (pv 2) (pa_cons (pe_lst (pa_cons pe_int (pa_cons pe_int (pa_cons pe_int (pa_cons (pe_op op_pow pe_int pe_int) pa_nil))))) pa_nil)))) pa_nil)))))) (pw_or1 (pt_not (pt_val (pe_call (C__law_goes_on.G.mono (by decide)) hr (by rfl) C__law_goes_on.g C__law_goes_on.kp C__law_goes_on.b .nil pass0 (pa_cons (pv 2) (pa_cons (pv 7) (pa_cons (pv 4) pa_nil)))))))).pt
          (pss_one (ps_ret pe_bl))
          pss_nil))))))))))
    (pss_one (ps_ret pe_bl))), ?_⟩
    refine ⟨_, rfl, a, _, rfl, .inl hS, _, _, rfl, _, _, rfl, _, rfl, ?_, ?_, ?_⟩
    · rw [List.length_map]
      split <;> split <;> omega
    · rw [List.length_map]
      split <;> split <;> omega
    generalize hN : Int.toNat _ = N
    have hN8 : N ≤ 4 := by
      rw [← hN, List.length_map]
      split <;> split <;> omega
    clear hN
    refine for_range (n := N) (fun i σ' H' => ∃ (x1 x2 x3 x4 x5 x6 x7 x8 : Option V), σ' = [some (.ref a), x1, x2, x3, x4, x5, x6, x7, x8] ∧ Same H H') ⟨_, _, _, _, _, _, _, _, rfl, Same.refl H⟩ (fun i σ' H' hi hm => ?_) (fun σ' H' hm => ?_)
    · obtain ⟨x1, x2, x3, x4, x5, x6, x7, x8, rfl, sH⟩ := hm
      refine ⟨_, rfl, _, rfl, a, ns, 0 + i, rfl, sH.seq hS, hn, by omega, by omega, fun H1 p s1 np hp => ?_⟩
      -- the small row
      refine ⟨_, rfl, p, 0, rfl, hp, by decide, fun H2 r as Ws er ra S hp2 k2 => ?_⟩
      refine ⟨_, rfl, p, _, 5, rfl, hp2, by decide, wdiv (by decide) (by decide), fun l0 H3 l00 l01 hp3 k3 => ⟨_, _, rfl, rfl, _, _, rfl, ?_⟩⟩
      have l01 : l0 < 5 := l01
      have er3 := k3.at (hp2.notP er) er
      have ra3 := ra.mono (k3.tupsC hp2)
      have k13 : Keep p p H1 H3 := k2.trans k3
      refine ⟨fun σ' H4 => σ' = [some (.ref a), some (.int (0 + i)), some (.ref p), some (.ref r), some (.int (1 + l0)), x5, x6, x7, x8] ∧ Same H3 H4, ?_, fun σ' H4 hm => ?_⟩
      · refine ⟨_, rfl, _, _, rfl, rfl, _, rfl, ite2 (fun _ => ?_) (fun _ => ⟨rfl, Same.refl _⟩)⟩
        refine ⟨_, rfl, _, rfl, r, 1 + l0, as, Ws, rfl, er3, ra3, S, by omega, by omega, fun H4 s4 => ⟨_, rfl, ?_⟩⟩
        exact iteNT ⟨rfl, s4⟩
      obtain ⟨rfl, s4⟩ := hm
      have hp4 := hp3.same s4
      have er4 := s4 _ _ er3
      have ra4 := ra3.mono (Tups.same s4)
      have k14 := k13.trans (Same.keep s4)
      have R6 := S.row
      refine ⟨_, rfl, _, rfl, _, rfl, _, rfl, p, _, 7, rfl, hp4, by decide, wdiv (by decide) (by decide), fun d H5 d0 d1 hp5 k5 => ⟨_, _, rfl, rfl, ?_⟩⟩
      have er5 := k5.at (hp4.notP er4) er4
      have ra5 := ra4.mono (k5.tupsC hp4)
      refine ⟨r, 1 + l0, 1 + l0 + d, as, Ws, rfl, er5, ra5, R6, by omega, by omega, by omega, fun H6 s6 => ⟨_, rfl, ?_⟩⟩
      refine iteNT ?_
      have hp6 := hp5.same s6
      have er6 := s6 _ _ er5
      have ra6 := ra5.mono (Tups.same s6)
      have k16 := (k14.trans k5).trans (Same.keep s6)
      refine ⟨_, rfl, _, rfl, _, rfl, p, r, _, 1 + l0, as, Ws, rfl, hp6, by decide, er6, ra6, R6, by omega, by omega, fun H7 hp7 k7 => ⟨_, rfl, ?_⟩⟩
      refine iteNT ?_
      have k17 := k16.trans k7
      clear er er3 er4 er5 er6 ra ra3 ra4 ra5 ra6 k13 k14 k16 k2 k3 k5 k7 s4 s6 hp2 hp3 hp4 hp5 hp6
      -- the style and how many
      refine ⟨_, rfl, p, _, 3, rfl, hp7, by decide, wdiv (by decide) (by decide), fun sty H2 st0 st1 hp2 k2 => ?_⟩
      have st1 : sty < 3 := st1
      refine ⟨_, rfl, (by show 10 ≤ sizeLine; decide), fun Y nY => ?_⟩
      refine ⟨p, _, Y, _, rfl, hp2.new nY, by decide, upd_same, hp2.fresh nY, by show 1 ≤ 10; decide, by show 10 ≤ 1000; decide, fun H4 jj x hx hp4 k4 => ?_⟩
      obtain ⟨many, rfl, hm60⟩ : ∃ n : Nat, x = .int (n : Int) ∧ (n ≤ 8 ∨ n = 60) := by
        have := List.mem_of_getElem? hx
        simp only [List.mem_cons, List.not_mem_nil, or_false] at this
        rcases this with h | h | h | h | h | h | h | h | h | h
        · exact ⟨0, h, by decide⟩
        · exact ⟨1, h, by decide⟩
        · exact ⟨2, h, by decide⟩
        · exact ⟨3, h, by decide⟩
        · exact ⟨4, h, by decide⟩
        · exact ⟨6, h, by decide⟩
        · exact ⟨8, h, by decide⟩
        · exact ⟨5, h, by decide⟩
        · exact ⟨3, h, by decide⟩
        · exact ⟨60, h, by decide⟩
      have k1Y : Keep p p H1 H4 := ((k17.trans k2).new nY).trans k4
      refine ⟨(by show 2 ≤ sizeLine; decide), fun v nv => ?_⟩
      refine ⟨v, _, rfl, SqT.of upd_same, rfl, _, _, rfl, _, _, rfl, rfl, ?_⟩
      have k1v := k1Y.new (o := .tup [.int sty, .int (many : Int)]) nv
      have hpv := (hp4.new (o := .tup [.int sty, .int (many : Int)]) nv).mono (U := 1000) (by decide)
      generalize upd H4 v (.tup [.int sty, .int (many : Int)]) = HV at k1v hpv
      clear nY hp4 k4 nv hp2 k2 hp7 k17 k1Y
      refine ⟨fun σ' H5 => ∃ (y8 : Option V) (sty' : Int) (r' : Addr) (as' : List Addr) (Ws' : List Wi), σ' = [some (.ref a), some (.int (0 + i)), some (.ref p), some (.ref r), some (.int (1 + l0)), some (.int sty'), some (.int (many : Int)), some (.ref r'), y8] ∧ PotC H5 p 10000 ∧ Keep p p H1 H5 ∧ H5 r' = some (.tup (as'.map V.ref)) ∧ RowAt H5 as' Ws' ∧ Row60 Ws' ∧ 0 ≤ sty' ∧ sty' < 3, ?_, fun σ' H5 hm => ?_⟩
      · refine ⟨_, rfl, rfl, _, rfl, ite2 (fun _ => ?_) (fun e => ?_)⟩
        · refine ⟨60, rfl, by decide, by decide, fun D nD => ?_⟩
          have nDp := hpv.fresh nD
          refine lc_range (n := 60) (fun l H7 => ∃ (as : List Addr) (Ws : List Wi), PotC H7 p (1000 + 3 * l) ∧ Keep p p HV H7 ∧ H7 D = some (.lst (as.map V.ref)) ∧ RowAt H7 as Ws ∧ as.length = l ∧ ∀ W ∈ Ws, (GoodT W ∧ longs W.2 ≤ 2 ^ 107) ∧ ∀ x ∈ W.2, x.1 < 10) ⟨[], [], hpv.new nD, Keep.refl.new nD, upd_same, RowAt.nil, rfl, fun W hW => by cases hW⟩ (fun l H7 hl hm => ?_) (fun H7 hm => ?_)
          · obtain ⟨as, Ws, hp7, k7, eD, ra, hal, gw⟩ := hm
            refine ⟨rfl, yesIte ?_⟩
            refine ⟨_, rfl, p, _, 2, rfl, hp7, by omega, wdiv (by decide) (by decide), fun so H8 so0 so1 hp8 k8 => ?_⟩
            refine ⟨_, rfl, p, _, 9, rfl, hp8, by omega, wdiv (by decide) (by decide), fun t H9 t0 t1 hp9 k9 => ⟨_, _, rfl, rfl, ?_⟩⟩
            refine ⟨_, rfl, p, _, 3, rfl, hp9, by omega, wdiv (by decide) (by decide), fun g HA g0 g1 hpA kA => ⟨_, _, rfl, rfl, ?_⟩⟩
            have kk := (k8.trans k9).trans kA
            have eDA := kk.at nDp eD
            have raA := ra.mono (kk.tupsC hp7)
            refine ⟨(by show 2 ≤ sizeLine; decide), fun z1 nz1 => ⟨(by show 1 ≤ sizeLine; decide), fun z2 nz2 => ⟨(by show 2 ≤ sizeLine; decide), fun z3 nz3 => ?_⟩⟩⟩
            have q1 : Same HA (upd HA z1 (.tup [.int (1 + t), .int (1 + g)])) := same_new (Same.refl _) nz1
            have w1 : upd HA z1 (.tup [.int (1 + t), .int (1 + g)]) z1 = some (.tup [.int (1 + t), .int (1 + g)]) := upd_same
            generalize upd HA z1 (.tup [.int (1 + t), .int (1 + g)]) = HB at q1 w1 nz2 nz3 ⊢
            have q2 : Same HB (upd HB z2 (.tup [.ref z1])) := same_new (Same.refl _) nz2
            have w2 : upd HB z2 (.tup [.ref z1]) z2 = some (.tup [.ref z1]) := upd_same
            generalize upd HB z2 (.tup [.ref z1]) = HC at q2 w2 nz3 ⊢
            have q3 : Same HC (upd HC z3 (.tup [.int so, .ref z2])) := same_new (Same.refl _) nz3
            have w3 : upd HC z3 (.tup [.int so, .ref z2]) z3 = some (.tup [.int so, .ref z2]) := upd_same
            generalize upd HC z3 (.tup [.int so, .ref z2]) = HD at q3 w3 ⊢
            have q13 := (q1.trans q2).trans q3
            have hw : WispAt HD z3 so [(1 + t, 1 + g)] := ⟨z2, [z1], w3, q3 _ _ w2, TupsAt.nil.cons (q3 _ _ (q2 _ _ w1))⟩
            have eDD := q13 _ _ eDA
            have tD := Tups.ls (o := .lst (as.map V.ref ++ [.ref z3])) eDD
            refine ⟨_, eDD, ?_, as ++ [z3], Ws ++ [(so, [(1 + t, 1 + g)])], ((hpA.same q13).other nDp).mono (by omega), ((k7.trans kk).trans (Same.keep q13)).mine nD, ?_, ((raA.mono (Tups.same q13)).snoc (W := (so, [(1 + t, 1 + g)])) hw).mono tD, by rw [List.length_append, hal]; rfl, fun V hV => ?_⟩
            · rw [List.length_map]
              exact small1000 (by omega)
            · rw [upd_same, List.map_append]
              rfl
            · rcases List.mem_append.mp hV with h | h
              · exact gw V h
              · rw [List.mem_singleton.mp h]
                refine ⟨one_good so0 so1 t0 t1 g0 g1, fun x hx => ?_⟩
                have t1 : t < 9 := t1
                rw [List.mem_singleton.mp hx]
                show 1 + t < 10
                omega
          obtain ⟨as, Ws, hp7, k7, eD, ra, hal, gw⟩ := hm
          refine ⟨D, _, rfl, .inl ⟨SqL.of eD, fun r' nr => ?_⟩⟩
          have sr : Same H7 (upd H7 r' (.tup (as.map V.ref))) := same_new (Same.refl _) nr
          have hl60 : Ws.length = 60 := by rw [← ra.1, hal]
          refine ⟨_, 0, r', as, Ws, rfl, (hp7.same sr).mono (by decide), (k1v.trans k7).trans (Same.keep sr), upd_same, ra.mono (Tups.same sr), ⟨fun W hW => (gw W hW).1, by omega, 10, by decide, fun W hW => (gw W hW).2, by rw [hl60]; decide⟩, by decide, by decide⟩
        · have hne : many ≤ 8 := by
            rcases hm60 with h | h
            · exact h
            · subst h
              exact absurd (decide_eq_true rfl) e
          refine ⟨_, rfl, _, rfl, by omega, by omega, fun D nD => ?_⟩
          rw [Int.toNat_natCast]
          have nDp := hpv.fresh nD
          refine lc_range (n := many) (fun l H7 => ∃ (as : List Addr) (Ws : List Wi), PotC H7 p (1000 + 100 * l) ∧ Keep p p HV H7 ∧ H7 D = some (.lst (as.map V.ref)) ∧ RowAt H7 as Ws ∧ as.length = l ∧ ∀ W ∈ Ws, (GoodT W ∧ longs W.2 ≤ 2 ^ 107) ∧ ∀ x ∈ W.2, x.1 < 10 ^ 39 + 25) ⟨[], [], hpv.new nD, Keep.refl.new nD, upd_same, RowAt.nil, rfl, fun W hW => by cases hW⟩ (fun l H7 hl hm => ?_) (fun H7 hm => ?_)
          · obtain ⟨as, Ws, hp7, k7, eD, ra, hal, gw⟩ := hm
            refine ⟨rfl, yesIte ?_⟩
            refine ⟨_, rfl, _, rfl, p, _, sty, rfl, hp7, by omega, st0, st1, fun H8 b W hw gW gx gl nb hp8 k8 => ?_⟩
            have eD8 := k8.at nDp eD
            have tD := Tups.ls (o := .lst (as.map V.ref ++ [.ref b])) eD8
            refine ⟨_, eD8, ?_, as ++ [b], Ws ++ [W], (hp8.other nDp).mono (by omega), (k7.trans k8).mine nD, ?_, ((ra.mono (k8.tupsC hp7)).snoc hw).mono tD, by rw [List.length_append, hal]; rfl, fun V hV => ?_⟩
            · rw [List.length_map]
              exact small1000 (by omega)
            · rw [upd_same, List.map_append]
              rfl
            · rcases List.mem_append.mp hV with h | h
              · exact gw V h
              · rw [List.mem_singleton.mp h]
                exact ⟨⟨gW, gl⟩, fun x hx => by have := gx x hx; omega⟩
          obtain ⟨as, Ws, hp7, k7, eD, ra, hal, gw⟩ := hm
          refine ⟨D, _, rfl, .inl ⟨SqL.of eD, fun r' nr => ?_⟩⟩
          have sr : Same H7 (upd H7 r' (.tup (as.map V.ref))) := same_new (Same.refl _) nr
          have hl8 : Ws.length = many := by rw [← ra.1, hal]
          refine ⟨_, sty, r', as, Ws, rfl, (hp7.same sr).mono (by omega), (k1v.trans k7).trans (Same.keep sr), upd_same, ra.mono (Tups.same sr), ⟨fun W hW => (gw W hW).1, by omega, 10 ^ 39 + 25, by decide, fun W hW => (gw W hW).2, ?_⟩, st0, st1⟩
          rw [hl8]
          have : (many : Int) ≤ 8 := by omega
          have h2 : (10 ^ 39 + 25 : Int) * many ≤ (10 ^ 39 + 25) * 8 := Int.mul_le_mul_of_nonneg_left this (by decide)
          have h3 : ((10 ^ 39 + 25 : Int) * 8) < 10 ^ 40 - 1 := by decide
          omega
      obtain ⟨y8, sty', r', as', Ws', rfl, hp5, k15, er', ra', R6', u0, u1⟩ := hm
      -- low
      refine ⟨_, rfl, _, rfl, p, _, sty', rfl, hp5, by decide, fun H6 low l1 l2 hp6 k6 => ?_⟩
      have er6 := k6.at (hp5.notP er') er'
      have ra6 := ra'.mono (k6.tupsC hp5)
      have k16 := k15.trans k6
      refine ⟨_, rfl, _, rfl, _, rfl, _, rfl, _, _, rfl, rfl, ⟨by decide, by decide, by decide⟩, (by show 4 ≤ sizeLine; decide), fun Y2 nY2 => ?_⟩
      refine ⟨p, _, Y2, _, rfl, hp6.new nY2, by decide, upd_same, hp6.fresh nY2, by show 1 ≤ 4; decide, by show 4 ≤ 1000; decide, fun H7 j2 x hx hp7 k7 => ?_⟩
      obtain ⟨h, rfl, h0⟩ : ∃ h : Int, x = .int h ∧ 0 ≤ h := by
        have := List.mem_of_getElem? hx
        simp only [List.mem_cons, List.not_mem_nil, or_false] at this
        rcases this with h | h | h | h
        · exact ⟨_, h, by decide⟩
        · exact ⟨_, h, by decide⟩
        · exact ⟨_, h, by decide⟩
        · exact ⟨_, h, by decide⟩
      have k67 : Keep p p H6 H7 := (Keep.refl.new nY2).trans k7
      have er7 := k67.at (hp6.notP er6) er6
      have ra7 := ra6.mono (k67.tupsC hp6)
      refine ⟨_, _, rfl, rfl, r', low, low + h, as', Ws', rfl, er7, ra7, R6', l1, l2, by omega, fun H8 s8 => ⟨_, rfl, ?_⟩⟩
      refine iteNT ?_
      have hp8 := hp7.same s8
      have er8 := s8 _ _ er7
      have ra8 := ra7.mono (Tups.same s8)
      refine ⟨_, rfl, _, rfl, _, rfl, p, r', _, low, as', Ws', rfl, hp8, by decide, er8, ra8, R6', l1, l2, fun H9 hp9 k9 => ⟨_, rfl, ?_⟩⟩
      refine iteNT ?_
      exact ⟨_, _, _, _, _, _, _, _, rfl, sH.trans ((((k16.trans k67).trans (Same.keep s8)).trans k9).from s1 np)⟩
    · exact q _
end
/-! ### the end of a law whose def is such a one -/
theorem lawG {P : Program} {w : World} {K : PySem.W.Frag} {mg mb : Str → Option Value} {k : Nat} {fa a : Addr} {fd : FuncData} {x : Str} {sp : Sp} {t : Shared} {ws : List Value} {ns : List Int} (kin : K.In t.heap) (gl : t.heap.Ns mainGlobals mg) (bl : t.heap.Ns builtinsNs mb)
    (bb : ∀ y : Str, y ≠ "__name__" → mb y = bootBuiltins y) (nol : t.heap.NoLimit) (gn : t.gens = #[]) (ea : t.heap.get? a = some { cls := .type "list", data := .seq ws.toArray }) (ia : IntsAre ws ns) (sz : ns.length ≤ sizeLine) (hr : Room k callerA)
    (F : ∀ bs : Heap, K.In bs → bs.Ns mainGlobals mg → FnG P w K mg bs k fa fd [x] sp) (bd : ∀ (s : Shared) (u : Value), BindsTo s fd ⟨[u], []⟩ [(x, u)]) (hs : ∀ H : Hp, SqL K H a (ns.map V.int) → sp [.ref a] H (fun v _ => v = .bl true) fun _ _ _ => False) :
    codeAny (model P w) callerA (.call (.ref fa) ⟨[.ref a], []⟩) (fun r s' => r = .ok (.ret (.bool true)) ∧ OldK t.heap s'.heap ∧ s'.os = t.os ∧ AllBare s'.gens) t := by
  have va := vals_ints ia
  have key : ∀ H : Hp, Only H → SqL K H a (ns.map V.int) → HOk P w H t.heap → (∀ b, H b ≠ none → b = a) → (H a ≠ none → K.lookup a = none) → codeAny (model P w) callerA (.call (.ref fa) ⟨[.ref a], []⟩)
      (fun r s' => r = .ok (.ret (.bool true)) ∧ OldK t.heap s'.heap ∧ s'.os = t.os ∧ AllBare s'.gens) t := fun H on sq hok only notK => by
    have free : ∀ {b : Addr} {o : Obj} {es : Array DictEntry} {n : Nat}, t.heap.get? b = some o → o.data = .dict es n → H b = none := fun {b o es n} e d => by
      rcases on b with z | ⟨ob, xs, z⟩
      · exact z
      · have e' : b = a := only b (by rw [z]; exact Option.some_ne_none _)
        rw [e', ea] at e
        cases e
        cases (show Data.seq ws.toArray _ = Data.dict es n from d)
    have nsB : ∀ {b : Addr} {m : Str → Option Value}, t.heap.Ns b m → (hidT t.heap H).Ns b m := fun ⟨o, es, n, e, d, r⟩ => ⟨o, es, n, hidT_get e (free e d), d, r⟩
    have kB : K.In (hidT t.heap H) := fun b o e => hidT_get (kin b o e) (by
      rcases on b with z | ⟨ob, xs, z⟩
      · exact z
      · have e' : b = a := only b (by rw [z]; exact Option.some_ne_none _)
        rw [e', notK (by rw [← e', z]; exact Option.some_ne_none _)] at e
        cases e)
    have md : Mod K mg (hidT t.heap H) := ⟨kB, nsB gl, ⟨mb, nsB bl, bb⟩, nol.elim fun mc z => ⟨mc, nsB z.1, z.2⟩⟩
    have e0 : Env0 P w K mg (hidT t.heap H) callerA [] t H := ⟨rfl, md, fun _ _ e => of_hidT e, Nat.le_of_eq (hidT_size _ _), trivial, (fun b hb => by cases hb), hok, .of_eq gn⟩
    refine codeAny_mono ((F _ kB (nsB gl)).goes callerA [] t H _ [.ref a] [.ref a] _ _ hr rfl e0 (bd t (.ref a)) (.cons rfl .nil) (hs H sq)) fun r s' h => ?_
    match r, h with
    | .error _, h => exact False.elim h
    | .ok .next, h => exact False.elim h
    | .ok .brk, h => exact False.elim h
    | .ok .cont, h => exact False.elim h
    | .ok (.ret u), h =>
      obtain ⟨v, H', eos, eb, un, ok', rv, q⟩ := h
      cases (show v = .bl true from q)
      cases (show u = Value.bool true from rv)
      refine ⟨rfl, OldK.of_keep fun b o e => ?_, eos, eb⟩
      rcases on b with z | ⟨ob, xs, z⟩
      · exact un.keep b o e z (fun y => by cases y) (fun y => by cases y)
      · obtain ⟨e1, _⟩ := hok b _ z
        obtain ⟨e2, _⟩ := ok' b _ (un.frzs b ob _ z)
        rw [e] at e1
        cases e1
        exact e2
  cases hk : K.lookup a with
  | some o =>
    have e := kin a o hk
    rw [ea] at e
    cases e
    exact key (fun _ => none) (fun _ => .inl rfl) (.inr ⟨_, ws.toArray, _, hk, rfl, rfl, rfl, (by rw [List.size_toArray, ia.length]; exact sz), by simpa using va⟩) (fun b u z => nomatch (show (none : Option HO) = some u from z)) (fun b z => absurd rfl z) (fun z => absurd rfl z)
  | none =>
    have at_ : ∀ b, (if b = a then some (HO.frz { cls := .type "list", data := .seq ws.toArray } (.lst (ns.map V.int))) else none) ≠ none → b = a := fun b z => by
      by_cases h : b = a
      · exact h
      · exact absurd (if_neg h) z
    refine key (fun b => if b = a then some (.frz { cls := .type "list", data := .seq ws.toArray } (.lst (ns.map V.int))) else none) (fun b => ?_) (.inl (.inr ⟨_, if_pos rfl⟩)) (fun b u z => ?_) at_ (fun _ => hk)
    · by_cases h : b = a
      · exact .inr ⟨_, _, if_pos h⟩
      · exact .inl (if_neg h)
    · have h : b = a := at_ b (fun y => by rw [show (if b = a then some (HO.frz { cls := .type "list", data := .seq ws.toArray } (.lst (ns.map V.int))) else none) = some u from z] at y; cases y)
      subst h
      have z' := (if_pos rfl).symm.trans z
      cases z'
      exact ⟨ea, by rw [List.length_map]; exact sz, ws, _, va, ea⟩
theorem walkG {l : PySem.W.OpenLaw} {n k : Nat} {q : Program} {loose : List Str} {XP : (Str → Option Value) → Heap → Prop} {YP : World → Heap → Prop} {d : DefRec} {K : Params → PySem.W.Frag} {sp : World → Sp} {x : Str} (hn : l.most = some n) (h2 : n ≤ sizeLine) (hd : d.params.defaults = []) (hr : Room k callerA)
    (hY : ∀ (w : World) (h : Heap), YP w h → (K w.params).In h) (F : ∀ (w : World) (mg : Str → Option Value) (fa : Addr) (h : Heap), (K w.params).In h → h.Ns mainGlobals mg → mg d.name = some (.ref fa) → ∃ fd : FuncData, (∀ (s : Shared) (u : Value), BindsTo s fd ⟨[u], []⟩ [(x, u)]) ∧
      ∀ bs : Heap, (K w.params).In bs → bs.Ns mainGlobals mg → FnG l.prog w (K w.params) mg bs k fa fd [x] (sp w)) (hs : ∀ (w : World) (H : Hp) (a : Addr) (ns : List Int), ns.length ≤ n → SqL (K w.params) H a (ns.map V.int) → sp w [.ref a] H (fun v _ => v = .bl true) fun _ _ _ => False) :
    PySem.W.WalkO q loose XP YP l.row.toRowW d [] (fun f vs => PySem.call f vs) := Att.attach_call hn hd fun w s t mg mb fa o pm cd dc a ws ns G Y ho hdt hcd hmg eo ia hl hg => by
  obtain ⟨fd, bd, hF⟩ := F w mg fa _ (hY w _ Y) G.T.g hmg
  exact lawG (hY w _ Y) G.T.g G.T.b G.T.builtins G.T.nolimit hg eo ia (Nat.le_trans hl h2) hr hF bd fun H sq => hs w H a ns hl sq
theorem all_mk {l : PySem.W.OpenLaw} {w : World} {K : PySem.W.Frag} {h : Heap} {mg : Str → Option Value} {fa f1 f2 f3 f4 f5 f6 f7 f8 f9 f10 f11 f12 f13 f14 f15 f16 f17 f18 f19 f20 f21 f22 f23 f24 f25 f26 f27 f28 f29 f30 f31 f32 f33 f34 f35 f36 f37 f38 f39 f40 f41 f42 f43 f44 f45 f46 f47 f48 f49 : Addr} {tk_MOST_STEPS tk_MOST_WISPS : Tok} {T23 : Addr} {toc23 : Value} {tod23 : Option Addr} {tn23 : Nat} {tsl23 : Array (Option Value)} {tkd_lasts_0 : Tok} {T26 : Addr} {toc26 : Value} {tod26 : Option Addr} {tn26 : Nat} {tsl26 : Array (Option Value)} {tkd_drawn_1 : Tok} {T27 : Addr} {toc27 : Value} {tod27 : Option Addr} {tn27 : Nat} {tsl27 : Array (Option Value)} {tkd_lasting_1 : Tok} (X : K.In h) (G : h.Ns mainGlobals mg) (hfa : mg "law" = some (.ref fa))
    {od1 an1 od2 an2 od3 an3 od4 an4 od5 an5 od6 an6 od7 an7 od8 an8 od9 an9 od10 an10 od11 an11 od12 an12 od13 an13 od14 an14 od15 an15 od16 an16 od17 an17 od18 an18 od19 an19 od20 an20 od21 an21 od22 an22 od23 an23 od24 an24 od25 an25 od26 an26 od27 an27 od28 an28 od29 an29 od30 an30 od31 an31 od32 an32 od33 an33 od34 an34 od35 an35 od36 an36 od37 an37 od38 an38 od39 an39 od40 an40 od41 an41 od42 an42 od43 an43 od44 an44 od45 an45 od46 an46 od47 an47 od48 an48 od49 an49 : Option Addr} {sl1 sl2 sl3 sl4 sl5 sl6 sl7 sl8 sl9 sl10 sl11 sl12 sl13 sl14 sl15 sl16 sl17 sl18 sl19 sl20 sl21 sl22 sl23 sl24 sl25 sl26 sl27 sl28 sl29 sl30 sl31 sl32 sl33 sl34 sl35 sl36 sl37 sl38 sl39 sl40 sl41 sl42 sl43 sl44 sl45 sl46 sl47 sl48 sl49 : Array (Option Value)} {oc1 kV1 dc1 pm1 cd1 ct1 oc2 kV2 dc2 pm2 cd2 ct2 oc3 kV3 dc3 pm3 cd3 ct3 oc4 kV4 dc4 pm4 cd4 ct4 oc5 kV5 dc5 pm5 cd5 ct5 oc6 kV6 dc6 pm6 cd6 ct6 oc7 kV7 dc7 pm7 cd7 ct7 oc8 kV8 dc8 pm8 cd8 ct8 oc9 kV9 dc9 pm9 cd9 ct9 oc10 kV10 dc10 pm10 cd10 ct10 oc11 kV11 dc11 pm11 cd11 ct11 oc12 kV12 dc12 pm12 cd12 ct12 oc13 kV13 dc13 pm13 cd13 ct13 oc14 kV14 dc14 pm14 cd14 ct14 oc15 kV15 dc15 pm15 cd15 ct15 oc16 kV16 dc16 pm16 cd16 ct16 oc17 kV17 dc17 pm17 cd17 ct17 oc18 kV18 dc18 pm18 cd18 ct18 oc19 kV19 dc19 pm19 cd19 ct19 oc20 kV20 dc20 pm20 cd20 ct20 oc21 kV21 dc21 pm21 cd21 ct21 oc22 kV22 dc22 pm22 cd22 ct22 oc23 kV23 dc23 pm23 cd23 ct23 oc24 kV24 dc24 pm24 cd24 ct24 oc25 kV25 dc25 pm25 cd25 ct25 oc26 kV26 dc26 pm26 cd26 ct26 oc27 kV27 dc27 pm27 cd27 ct27 oc28 kV28 dc28 pm28 cd28 ct28 oc29 kV29 dc29 pm29 cd29 ct29 oc30 kV30 dc30 pm30 cd30 ct30 oc31 kV31 dc31 pm31 cd31 ct31 oc32 kV32 dc32 pm32 cd32 ct32 oc33 kV33 dc33 pm33 cd33 ct33 oc34 kV34 dc34 pm34 cd34 ct34 oc35 kV35 dc35 pm35 cd35 ct35 oc36 kV36 dc36 pm36 cd36 ct36 oc37 kV37 dc37 pm37 cd37 ct37 oc38 kV38 dc38 pm38 cd38 ct38 oc39 kV39 dc39 pm39 cd39 ct39 oc40 kV40 dc40 pm40 cd40 ct40 oc41 kV41 dc41 pm41 cd41 ct41 oc42 kV42 dc42 pm42 cd42 ct42 oc43 kV43 dc43 pm43 cd43 ct43 oc44 kV44 dc44 pm44 cd44 ct44 oc45 kV45 dc45 pm45 cd45 ct45 oc46 kV46 dc46 pm46 cd46 ct46 oc47 kV47 dc47 pm47 cd47 ct47 oc48 kV48 dc48 pm48 cd48 ct48 oc49 kV49 dc49 pm49 cd49 ct49 : Value}
    (a1 : PySem.W.nsIn K mainGlobals "is_whole" = some (some (.ref f1))) (l1 : K.lookup f1 = some ⟨oc1, od1, .func (PySem.W.fnOf "is_whole" "is_whole" (defArgs s_is_whole) (defBody s_is_whole) (defScope s_is_whole) .none kV1 dc1 pm1 an1 cd1 ct1), sl1⟩) (c1 : PySem.W.codeIn K cd1 "is_whole" = true) (k1 : PySem.W.keepIn K (.ref f1) = true)
    (a2 : PySem.W.nsIn K mainGlobals "is_tuple" = some (some (.ref f2))) (l2 : K.lookup f2 = some ⟨oc2, od2, .func (PySem.W.fnOf "is_tuple" "is_tuple" (defArgs s_is_tuple) (defBody s_is_tuple) (defScope s_is_tuple) .none kV2 dc2 pm2 an2 cd2 ct2), sl2⟩) (c2 : PySem.W.codeIn K cd2 "is_tuple" = true) (k2 : PySem.W.keepIn K (.ref f2) = true)
    (a3 : PySem.W.nsIn K mainGlobals "is_step" = some (some (.ref f3))) (l3 : K.lookup f3 = some ⟨oc3, od3, .func (PySem.W.fnOf "is_step" "is_step" (defArgs s_is_step) (defBody s_is_step) (defScope s_is_step) .none kV3 dc3 pm3 an3 cd3 ct3), sl3⟩) (c3 : PySem.W.codeIn K cd3 "is_step" = true) (k3 : PySem.W.keepIn K (.ref f3) = true)
    (a4 : PySem.W.nsIn K mainGlobals "are_steps" = some (some (.ref f4))) (l4 : K.lookup f4 = some ⟨oc4, od4, .func (PySem.W.fnOf "are_steps" "are_steps" (defArgs s_are_steps) (defBody s_are_steps) (defScope s_are_steps) .none kV4 dc4 pm4 an4 cd4 ct4), sl4⟩) (c4 : PySem.W.codeIn K cd4 "are_steps" = true) (k4 : PySem.W.keepIn K (.ref f4) = true)
    (a5 : PySem.W.nsIn K mainGlobals "is_wisp" = some (some (.ref f5))) (l5 : K.lookup f5 = some ⟨oc5, od5, .func (PySem.W.fnOf "is_wisp" "is_wisp" (defArgs s_is_wisp) (defBody s_is_wisp) (defScope s_is_wisp) .none kV5 dc5 pm5 an5 cd5 ct5), sl5⟩) (c5 : PySem.W.codeIn K cd5 "is_wisp" = true) (k5 : PySem.W.keepIn K (.ref f5) = true)
    (a6 : PySem.W.nsIn K mainGlobals "thick_at" = some (some (.ref f6))) (l6 : K.lookup f6 = some ⟨oc6, od6, .func (PySem.W.fnOf "thick_at" "thick_at" (defArgs s_thick_at) (defBody s_thick_at) (defScope s_thick_at) .none kV6 dc6 pm6 an6 cd6 ct6), sl6⟩) (c6 : PySem.W.codeIn K cd6 "thick_at" = true) (k6 : PySem.W.keepIn K (.ref f6) = true)
    (a7 : PySem.W.nsIn K mainGlobals "tail" = some (some (.ref f7))) (l7 : K.lookup f7 = some ⟨oc7, od7, .func (PySem.W.fnOf "tail" "tail" (defArgs s_tail) (defBody s_tail) (defScope s_tail) .none kV7 dc7 pm7 an7 cd7 ct7), sl7⟩) (c7 : PySem.W.codeIn K cd7 "tail" = true) (k7 : PySem.W.keepIn K (.ref f7) = true)
    (a8 : PySem.W.nsIn K mainGlobals "is_row" = some (some (.ref f8))) (l8 : K.lookup f8 = some ⟨oc8, od8, .func (PySem.W.fnOf "is_row" "is_row" (defArgs s_is_row) (defBody s_is_row) (defScope s_is_row) .none kV8 dc8 pm8 an8 cd8 ct8), sl8⟩) (c8 : PySem.W.codeIn K cd8 "is_row" = true) (k8 : PySem.W.keepIn K (.ref f8) = true)
    (a9 : PySem.W.nsIn K mainGlobals "is_schedule" = some (some (.ref f9))) (l9 : K.lookup f9 = some ⟨oc9, od9, .func (PySem.W.fnOf "is_schedule" "is_schedule" (defArgs s_is_schedule) (defBody s_is_schedule) (defScope s_is_schedule) .none kV9 dc9 pm9 an9 cd9 ct9), sl9⟩) (c9 : PySem.W.codeIn K cd9 "is_schedule" = true) (k9 : PySem.W.keepIn K (.ref f9) = true)
    (a10 : PySem.W.nsIn K mainGlobals "thick_of" = some (some (.ref f10))) (l10 : K.lookup f10 = some ⟨oc10, od10, .func (PySem.W.fnOf "thick_of" "thick_of" (defArgs s_thick_of) (defBody s_thick_of) (defScope s_thick_of) .none kV10 dc10 pm10 an10 cd10 ct10), sl10⟩) (c10 : PySem.W.codeIn K cd10 "thick_of" = true) (k10 : PySem.W.keepIn K (.ref f10) = true)
    (a11 : PySem.W.nsIn K mainGlobals "parts_of" = some (some (.ref f11))) (l11 : K.lookup f11 = some ⟨oc11, od11, .func (PySem.W.fnOf "parts_of" "parts_of" (defArgs s_parts_of) (defBody s_parts_of) (defScope s_parts_of) .none kV11 dc11 pm11 an11 cd11 ct11), sl11⟩) (c11 : PySem.W.codeIn K cd11 "parts_of" = true) (k11 : PySem.W.keepIn K (.ref f11) = true)
    (a12 : PySem.W.nsIn K mainGlobals "thicknesses_at" = some (some (.ref f12))) (l12 : K.lookup f12 = some ⟨oc12, od12, .func (PySem.W.fnOf "thicknesses_at" "thicknesses_at" (defArgs s_thicknesses_at) (defBody s_thicknesses_at) (defScope s_thicknesses_at) .none kV12 dc12 pm12 an12 cd12 ct12), sl12⟩) (c12 : PySem.W.codeIn K cd12 "thicknesses_at" = true) (k12 : PySem.W.keepIn K (.ref f12) = true)
    (a13 : PySem.W.nsIn K mainGlobals "numbers_of" = some (some (.ref f13))) (l13 : K.lookup f13 = some ⟨oc13, od13, .func (PySem.W.fnOf "numbers_of" "numbers_of" (defArgs s_numbers_of) (defBody s_numbers_of) (defScope s_numbers_of) .none kV13 dc13 pm13 an13 cd13 ct13), sl13⟩) (c13 : PySem.W.codeIn K cd13 "numbers_of" = true) (k13 : PySem.W.keepIn K (.ref f13) = true)
    (a14 : PySem.W.nsIn K mainGlobals "sorts_of" = some (some (.ref f14))) (l14 : K.lookup f14 = some ⟨oc14, od14, .func (PySem.W.fnOf "sorts_of" "sorts_of" (defArgs s_sorts_of) (defBody s_sorts_of) (defScope s_sorts_of) .none kV14 dc14 pm14 an14 cd14 ct14), sl14⟩) (c14 : PySem.W.codeIn K cd14 "sorts_of" = true) (k14 : PySem.W.keepIn K (.ref f14) = true)
    (a15 : PySem.W.nsIn K mainGlobals "end_of" = some (some (.ref f15))) (l15 : K.lookup f15 = some ⟨oc15, od15, .func (PySem.W.fnOf "end_of" "end_of" (defArgs s_end_of) (defBody s_end_of) (defScope s_end_of) .none kV15 dc15 pm15 an15 cd15 ct15), sl15⟩) (c15 : PySem.W.codeIn K cd15 "end_of" = true) (k15 : PySem.W.keepIn K (.ref f15) = true)
    (a16 : PySem.W.nsIn K mainGlobals "weight_between" = some (some (.ref f16))) (l16 : K.lookup f16 = some ⟨oc16, od16, .func (PySem.W.fnOf "weight_between" "weight_between" (defArgs s_weight_between) (defBody s_weight_between) (defScope s_weight_between) .none kV16 dc16 pm16 an16 cd16 ct16), sl16⟩) (c16 : PySem.W.codeIn K cd16 "weight_between" = true) (k16 : PySem.W.keepIn K (.ref f16) = true)
    (a17 : PySem.W.nsIn K mainGlobals "changes_of" = some (some (.ref f17))) (l17 : K.lookup f17 = some ⟨oc17, od17, .func (PySem.W.fnOf "changes_of" "changes_of" (defArgs s_changes_of) (defBody s_changes_of) (defScope s_changes_of) .none kV17 dc17 pm17 an17 cd17 ct17), sl17⟩) (c17 : PySem.W.codeIn K cd17 "changes_of" = true) (k17 : PySem.W.keepIn K (.ref f17) = true)
    (a18 : PySem.W.nsIn K mainGlobals "stretches" = some (some (.ref f18))) (l18 : K.lookup f18 = some ⟨oc18, od18, .func (PySem.W.fnOf "stretches" "stretches" (defArgs s_stretches) (defBody s_stretches) (defScope s_stretches) .none kV18 dc18 pm18 an18 cd18 ct18), sl18⟩) (c18 : PySem.W.codeIn K cd18 "stretches" = true) (k18 : PySem.W.keepIn K (.ref f18) = true)
    (a19 : PySem.W.nsIn K mainGlobals "levels_between" = some (some (.ref f19))) (l19 : K.lookup f19 = some ⟨oc19, od19, .func (PySem.W.fnOf "levels_between" "levels_between" (defArgs s_levels_between) (defBody s_levels_between) (defScope s_levels_between) .none kV19 dc19 pm19 an19 cd19 ct19), sl19⟩) (c19 : PySem.W.codeIn K cd19 "levels_between" = true) (k19 : PySem.W.keepIn K (.ref f19) = true)
    (a20 : PySem.W.nsIn K mainGlobals "thinnest" = some (some (.ref f20))) (l20 : K.lookup f20 = some ⟨oc20, od20, .func (PySem.W.fnOf "thinnest" "thinnest" (defArgs s_thinnest) (defBody s_thinnest) (defScope s_thinnest) .none kV20 dc20 pm20 an20 cd20 ct20), sl20⟩) (c20 : PySem.W.codeIn K cd20 "thinnest" = true) (k20 : PySem.W.keepIn K (.ref f20) = true)
    (a21 : PySem.W.nsIn K mainGlobals "word_of" = some (some (.ref f21))) (l21 : K.lookup f21 = some ⟨oc21, od21, .func (PySem.W.fnOf "word_of" "word_of" (defArgs s_word_of) (defBody s_word_of) (defScope s_word_of) .none kV21 dc21 pm21 an21 cd21 ct21), sl21⟩) (c21 : PySem.W.codeIn K cd21 "word_of" = true) (k21 : PySem.W.keepIn K (.ref f21) = true)
    (a22 : PySem.W.nsIn K mainGlobals "first_off" = some (some (.ref f22))) (l22 : K.lookup f22 = some ⟨oc22, od22, .func (PySem.W.fnOf "first_off" "first_off" (defArgs s_first_off) (defBody s_first_off) (defScope s_first_off) .none kV22 dc22 pm22 an22 cd22 ct22), sl22⟩) (c22 : PySem.W.codeIn K cd22 "first_off" = true) (k22 : PySem.W.keepIn K (.ref f22) = true)
    (a23 : PySem.W.nsIn K mainGlobals "lasts" = some (some (.ref f23))) (l23 : K.lookup f23 = some ⟨oc23, od23, .func (PySem.W.fnOf "lasts" "lasts" (defArgs s_lasts) (defBody s_lasts) (defScope s_lasts) (.ref T23) kV23 dc23 pm23 an23 cd23 ct23), sl23⟩) (c23 : PySem.W.codeIn K cd23 "lasts" = true) (k23 : PySem.W.keepIn K (.ref f23) = true) (t23 : K.lookup T23 = some ⟨toc23, tod23, .seq #[.int 0 tkd_lasts_0] tn23, tsl23⟩)
    (a24 : PySem.W.nsIn K mainGlobals "laid_out" = some (some (.ref f24))) (l24 : K.lookup f24 = some ⟨oc24, od24, .func (PySem.W.fnOf "laid_out" "laid_out" (defArgs s_laid_out) (defBody s_laid_out) (defScope s_laid_out) .none kV24 dc24 pm24 an24 cd24 ct24), sl24⟩) (c24 : PySem.W.codeIn K cd24 "laid_out" = true) (k24 : PySem.W.keepIn K (.ref f24) = true)
    (a25 : PySem.W.nsIn K mainGlobals "strand_with" = some (some (.ref f25))) (l25 : K.lookup f25 = some ⟨oc25, od25, .func (PySem.W.fnOf "strand_with" "strand_with" (defArgs s_strand_with) (defBody s_strand_with) (defScope s_strand_with) .none kV25 dc25 pm25 an25 cd25 ct25), sl25⟩) (c25 : PySem.W.codeIn K cd25 "strand_with" = true) (k25 : PySem.W.keepIn K (.ref f25) = true)
    (a26 : PySem.W.nsIn K mainGlobals "drawn" = some (some (.ref f26))) (l26 : K.lookup f26 = some ⟨oc26, od26, .func (PySem.W.fnOf "drawn" "drawn" (defArgs s_drawn) (defBody s_drawn) (defScope s_drawn) (.ref T26) kV26 dc26 pm26 an26 cd26 ct26), sl26⟩) (c26 : PySem.W.codeIn K cd26 "drawn" = true) (k26 : PySem.W.keepIn K (.ref f26) = true) (t26 : K.lookup T26 = some ⟨toc26, tod26, .seq #[.none, .int 0 tkd_drawn_1] tn26, tsl26⟩)
    (a27 : PySem.W.nsIn K mainGlobals "lasting" = some (some (.ref f27))) (l27 : K.lookup f27 = some ⟨oc27, od27, .func (PySem.W.fnOf "lasting" "lasting" (defArgs s_lasting) (defBody s_lasting) (defScope s_lasting) (.ref T27) kV27 dc27 pm27 an27 cd27 ct27), sl27⟩) (c27 : PySem.W.codeIn K cd27 "lasting" = true) (k27 : PySem.W.keepIn K (.ref f27) = true) (t27 : K.lookup T27 = some ⟨toc27, tod27, .seq #[.none, .int 0 tkd_lasting_1] tn27, tsl27⟩)
    (a28 : PySem.W.nsIn K mainGlobals "is_wide" = some (some (.ref f28))) (l28 : K.lookup f28 = some ⟨oc28, od28, .func (PySem.W.fnOf "is_wide" "is_wide" (defArgs s_is_wide) (defBody s_is_wide) (defScope s_is_wide) .none kV28 dc28 pm28 an28 cd28 ct28), sl28⟩) (c28 : PySem.W.codeIn K cd28 "is_wide" = true) (k28 : PySem.W.keepIn K (.ref f28) = true)
    (a29 : PySem.W.nsIn K mainGlobals "drawn_to" = some (some (.ref f29))) (l29 : K.lookup f29 = some ⟨oc29, od29, .func (PySem.W.fnOf "drawn_to" "drawn_to" (defArgs s_drawn_to) (defBody s_drawn_to) (defScope s_drawn_to) .none kV29 dc29 pm29 an29 cd29 ct29), sl29⟩) (c29 : PySem.W.codeIn K cd29 "drawn_to" = true) (k29 : PySem.W.keepIn K (.ref f29) = true)
    (a30 : PySem.W.nsIn K mainGlobals "thick" = some (some (.ref f30))) (l30 : K.lookup f30 = some ⟨oc30, od30, .func (PySem.W.fnOf "thick" "thick" (defArgs s_thick) (defBody s_thick) (defScope s_thick) .none kV30 dc30 pm30 an30 cd30 ct30), sl30⟩) (c30 : PySem.W.codeIn K cd30 "thick" = true) (k30 : PySem.W.keepIn K (.ref f30) = true)
    (a31 : PySem.W.nsIn K mainGlobals "moved" = some (some (.ref f31))) (l31 : K.lookup f31 = some ⟨oc31, od31, .func (PySem.W.fnOf "moved" "moved" (defArgs s_moved) (defBody s_moved) (defScope s_moved) .none kV31 dc31 pm31 an31 cd31 ct31), sl31⟩) (c31 : PySem.W.codeIn K cd31 "moved" = true) (k31 : PySem.W.keepIn K (.ref f31) = true)
    (a32 : PySem.W.nsIn K mainGlobals "rest_from" = some (some (.ref f32))) (l32 : K.lookup f32 = some ⟨oc32, od32, .func (PySem.W.fnOf "rest_from" "rest_from" (defArgs s_rest_from) (defBody s_rest_from) (defScope s_rest_from) .none kV32 dc32 pm32 an32 cd32 ct32), sl32⟩) (c32 : PySem.W.codeIn K cd32 "rest_from" = true) (k32 : PySem.W.keepIn K (.ref f32) = true)
    (a33 : PySem.W.nsIn K mainGlobals "from_on" = some (some (.ref f33))) (l33 : K.lookup f33 = some ⟨oc33, od33, .func (PySem.W.fnOf "from_on" "from_on" (defArgs s_from_on) (defBody s_from_on) (defScope s_from_on) .none kV33 dc33 pm33 an33 cd33 ct33), sl33⟩) (c33 : PySem.W.codeIn K cd33 "from_on" = true) (k33 : PySem.W.keepIn K (.ref f33) = true)
    (a34 : PySem.W.nsIn K mainGlobals "shows_thin" = some (some (.ref f34))) (l34 : K.lookup f34 = some ⟨oc34, od34, .func (PySem.W.fnOf "shows_thin" "shows_thin" (defArgs s_shows_thin) (defBody s_shows_thin) (defScope s_shows_thin) .none kV34 dc34 pm34 an34 cd34 ct34), sl34⟩) (c34 : PySem.W.codeIn K cd34 "shows_thin" = true) (k34 : PySem.W.keepIn K (.ref f34) = true)
    (a35 : PySem.W.nsIn K mainGlobals "_law_begin" = some (some (.ref f35))) (l35 : K.lookup f35 = some ⟨oc35, od35, .func (PySem.W.fnOf "_law_begin" "_law_begin" (defArgs s__law_begin) (defBody s__law_begin) (defScope s__law_begin) .none kV35 dc35 pm35 an35 cd35 ct35), sl35⟩) (c35 : PySem.W.codeIn K cd35 "_law_begin" = true) (k35 : PySem.W.keepIn K (.ref f35) = true)
    (a36 : PySem.W.nsIn K mainGlobals "_law_take" = some (some (.ref f36))) (l36 : K.lookup f36 = some ⟨oc36, od36, .func (PySem.W.fnOf "_law_take" "_law_take" (defArgs s__law_take) (defBody s__law_take) (defScope s__law_take) .none kV36 dc36 pm36 an36 cd36 ct36), sl36⟩) (c36 : PySem.W.codeIn K cd36 "_law_take" = true) (k36 : PySem.W.keepIn K (.ref f36) = true)
    (a37 : PySem.W.nsIn K mainGlobals "_law_of" = some (some (.ref f37))) (l37 : K.lookup f37 = some ⟨oc37, od37, .func (PySem.W.fnOf "_law_of" "_law_of" (defArgs s__law_of) (defBody s__law_of) (defScope s__law_of) .none kV37 dc37 pm37 an37 cd37 ct37), sl37⟩) (c37 : PySem.W.codeIn K cd37 "_law_of" = true) (k37 : PySem.W.keepIn K (.ref f37) = true)
    (a38 : PySem.W.nsIn K mainGlobals "_law_drawn_wisp" = some (some (.ref f38))) (l38 : K.lookup f38 = some ⟨oc38, od38, .func (PySem.W.fnOf "_law_drawn_wisp" "_law_drawn_wisp" (defArgs s__law_drawn_wisp) (defBody s__law_drawn_wisp) (defScope s__law_drawn_wisp) .none kV38 dc38 pm38 an38 cd38 ct38), sl38⟩) (c38 : PySem.W.codeIn K cd38 "_law_drawn_wisp" = true) (k38 : PySem.W.keepIn K (.ref f38) = true)
    (a39 : PySem.W.nsIn K mainGlobals "_law_least" = some (some (.ref f39))) (l39 : K.lookup f39 = some ⟨oc39, od39, .func (PySem.W.fnOf "_law_least" "_law_least" (defArgs s__law_least) (defBody s__law_least) (defScope s__law_least) .none kV39 dc39 pm39 an39 cd39 ct39), sl39⟩) (c39 : PySem.W.codeIn K cd39 "_law_least" = true) (k39 : PySem.W.keepIn K (.ref f39) = true)
    (a40 : PySem.W.nsIn K mainGlobals "_law_strong_at" = some (some (.ref f40))) (l40 : K.lookup f40 = some ⟨oc40, od40, .func (PySem.W.fnOf "_law_strong_at" "_law_strong_at" (defArgs s__law_strong_at) (defBody s__law_strong_at) (defScope s__law_strong_at) .none kV40 dc40 pm40 an40 cd40 ct40), sl40⟩) (c40 : PySem.W.codeIn K cd40 "_law_strong_at" = true) (k40 : PySem.W.keepIn K (.ref f40) = true)
    (a41 : PySem.W.nsIn K mainGlobals "_law_there" = some (some (.ref f41))) (l41 : K.lookup f41 = some ⟨oc41, od41, .func (PySem.W.fnOf "_law_there" "_law_there" (defArgs s__law_there) (defBody s__law_there) (defScope s__law_there) .none kV41 dc41 pm41 an41 cd41 ct41), sl41⟩) (c41 : PySem.W.codeIn K cd41 "_law_there" = true) (k41 : PySem.W.keepIn K (.ref f41) = true)
    (a42 : PySem.W.nsIn K mainGlobals "_law_borders" = some (some (.ref f42))) (l42 : K.lookup f42 = some ⟨oc42, od42, .func (PySem.W.fnOf "_law_borders" "_law_borders" (defArgs s__law_borders) (defBody s__law_borders) (defScope s__law_borders) .none kV42 dc42 pm42 an42 cd42 ct42), sl42⟩) (c42 : PySem.W.codeIn K cd42 "_law_borders" = true) (k42 : PySem.W.keepIn K (.ref f42) = true)
    (a43 : PySem.W.nsIn K mainGlobals "_law_first_thin" = some (some (.ref f43))) (l43 : K.lookup f43 = some ⟨oc43, od43, .func (PySem.W.fnOf "_law_first_thin" "_law_first_thin" (defArgs s__law_first_thin) (defBody s__law_first_thin) (defScope s__law_first_thin) .none kV43 dc43 pm43 an43 cd43 ct43), sl43⟩) (c43 : PySem.W.codeIn K cd43 "_law_first_thin" = true) (k43 : PySem.W.keepIn K (.ref f43) = true)
    (a44 : PySem.W.nsIn K mainGlobals "_law_small_row" = some (some (.ref f44))) (l44 : K.lookup f44 = some ⟨oc44, od44, .func (PySem.W.fnOf "_law_small_row" "_law_small_row" (defArgs s__law_small_row) (defBody s__law_small_row) (defScope s__law_small_row) .none kV44 dc44 pm44 an44 cd44 ct44), sl44⟩) (c44 : PySem.W.codeIn K cd44 "_law_small_row" = true) (k44 : PySem.W.keepIn K (.ref f44) = true)
    (a45 : PySem.W.nsIn K mainGlobals "_law_all_schedules" = some (some (.ref f45))) (l45 : K.lookup f45 = some ⟨oc45, od45, .func (PySem.W.fnOf "_law_all_schedules" "_law_all_schedules" (defArgs s__law_all_schedules) (defBody s__law_all_schedules) (defScope s__law_all_schedules) .none kV45 dc45 pm45 an45 cd45 ct45), sl45⟩) (c45 : PySem.W.codeIn K cd45 "_law_all_schedules" = true) (k45 : PySem.W.keepIn K (.ref f45) = true)
    (a46 : PySem.W.nsIn K mainGlobals "_law_gone_through" = some (some (.ref f46))) (l46 : K.lookup f46 = some ⟨oc46, od46, .func (PySem.W.fnOf "_law_gone_through" "_law_gone_through" (defArgs s__law_gone_through) (defBody s__law_gone_through) (defScope s__law_gone_through) .none kV46 dc46 pm46 an46 cd46 ct46), sl46⟩) (c46 : PySem.W.codeIn K cd46 "_law_gone_through" = true) (k46 : PySem.W.keepIn K (.ref f46) = true)
    (a47 : PySem.W.nsIn K mainGlobals "_law_told_so" = some (some (.ref f47))) (l47 : K.lookup f47 = some ⟨oc47, od47, .func (PySem.W.fnOf "_law_told_so" "_law_told_so" (defArgs s__law_told_so) (defBody s__law_told_so) (defScope s__law_told_so) .none kV47 dc47 pm47 an47 cd47 ct47), sl47⟩) (c47 : PySem.W.codeIn K cd47 "_law_told_so" = true) (k47 : PySem.W.keepIn K (.ref f47) = true)
    (a48 : PySem.W.nsIn K mainGlobals "_law_goes_on" = some (some (.ref f48))) (l48 : K.lookup f48 = some ⟨oc48, od48, .func (PySem.W.fnOf "_law_goes_on" "_law_goes_on" (defArgs s__law_goes_on) (defBody s__law_goes_on) (defScope s__law_goes_on) .none kV48 dc48 pm48 an48 cd48 ct48), sl48⟩) (c48 : PySem.W.codeIn K cd48 "_law_goes_on" = true) (k48 : PySem.W.keepIn K (.ref f48) = true)
    (a49 : PySem.W.nsIn K mainGlobals "law" = some (some (.ref f49))) (l49 : K.lookup f49 = some ⟨oc49, od49, .func (PySem.W.fnOf "law" "law" (defArgs s_law) (defBody s_law) (defScope s_law) .none kV49 dc49 pm49 an49 cd49 ct49), sl49⟩) (c49 : PySem.W.codeIn K cd49 "law" = true) (k49 : PySem.W.keepIn K (.ref f49) = true)
    (z1 : PySem.W.nsIn K mainGlobals "len" = some none)
    (z2 : PySem.W.nsIn K mainGlobals "sum" = some none)
    (z3 : PySem.W.nsIn K mainGlobals "abs" = some none)
    (z4 : PySem.W.nsIn K mainGlobals "isinstance" = some none)
    (z5 : PySem.W.nsIn K mainGlobals "max" = some none)
    (z6 : PySem.W.nsIn K mainGlobals "min" = some none)
    (z7 : PySem.W.nsIn K mainGlobals "tuple" = some none)
    (z8 : PySem.W.nsIn K mainGlobals "list" = some none)
    (z9 : PySem.W.nsIn K mainGlobals "int" = some none)
    (z10 : PySem.W.nsIn K mainGlobals "bool" = some none)
    (z11 : PySem.W.nsIn K mainGlobals "range" = some none)
    (z12 : PySem.W.nsIn K mainGlobals "enumerate" = some none)
    (z13 : PySem.W.nsIn K mainGlobals "zip" = some none)
    (z14 : PySem.W.nsIn K mainGlobals "repr" = some none)
    (z15 : PySem.W.nsIn K mainGlobals "str" = some none)
    (z16 : PySem.W.nsIn K mainGlobals "sorted" = some none)
    (z17 : PySem.W.nsIn K mainGlobals "set" = some none)
    (z18 : PySem.W.nsIn K mainGlobals "all" = some none)
    (z19 : PySem.W.nsIn K mainGlobals "any" = some none)
    (z20 : PySem.W.nsIn K mainGlobals "dict" = some none)
    (q_MOST_STEPS : PySem.W.nsIn K mainGlobals "MOST_STEPS" = some (some (.int 8 tk_MOST_STEPS)))
    (q_MOST_WISPS : PySem.W.nsIn K mainGlobals "MOST_WISPS" = some (some (.int 60 tk_MOST_WISPS))) :
    ∃ fd : FuncData, (∀ (s : Shared) (v : Value), BindsTo s fd ⟨[v], []⟩ [("_law_script", v)]) ∧ ∀ base : Heap, K.In base → base.Ns mainGlobals mg → FnOk l.prog w K mg base CX0 9 fa fd P_law (spLaw K) := by
  have e := hfa.symm.trans (PySem.W.mg_of X G a49)
  cases e
  have g_MOST_STEPS := PySem.W.mg_of X G q_MOST_STEPS
  have g_MOST_WISPS := PySem.W.mg_of X G q_MOST_WISPS
  have F1 := fun_mk (st := s_is_whole) l1 c1 k1
  have F2 := fun_mk (st := s_is_tuple) l2 c2 k2
  have F3 := fun_mk (st := s_is_step) l3 c3 k3
  have F4 := fun_mk (st := s_are_steps) l4 c4 k4
  have F5 := fun_mk (st := s_is_wisp) l5 c5 k5
  have F6 := fun_mk (st := s_thick_at) l6 c6 k6
  have F7 := fun_mk (st := s_tail) l7 c7 k7
  have F8 := fun_mk (st := s_is_row) l8 c8 k8
  have F9 := fun_mk (st := s_is_schedule) l9 c9 k9
  have F10 := fun_mk (st := s_thick_of) l10 c10 k10
  have F11 := fun_mk (st := s_parts_of) l11 c11 k11
  have F12 := fun_mk (st := s_thicknesses_at) l12 c12 k12
  have F13 := fun_mk (st := s_numbers_of) l13 c13 k13
  have F14 := fun_mk (st := s_sorts_of) l14 c14 k14
  have F15 := fun_mk (st := s_end_of) l15 c15 k15
  have F16 := fun_mk (st := s_weight_between) l16 c16 k16
  have F17 := fun_mk (st := s_changes_of) l17 c17 k17
  have F18 := fun_mk (st := s_stretches) l18 c18 k18
  have F19 := fun_mk (st := s_levels_between) l19 c19 k19
  have F20 := fun_mk (st := s_thinnest) l20 c20 k20
  have F21 := fun_mk (st := s_word_of) l21 c21 k21
  have F22 := fun_mk (st := s_first_off) l22 c22 k22
  have F23 : FunD K "lasts" "lasts" (defArgs s_lasts) (defBody s_lasts) (defScope s_lasts) [V.int 0] [] f23 (PySem.W.fnOf "lasts" "lasts" (defArgs s_lasts) (defBody s_lasts) (defScope s_lasts) (.ref T23) kV23 dc23 pm23 an23 cd23 ct23) := ⟨⟨oc23, od23, .ref T23, kV23, dc23, pm23, an23, cd23, ct23, sl23, rfl, l23, c23, .inr ⟨by simp, T23, _, [.int 0 tkd_lasts_0], tn23, rfl, t23, rfl, (.cons ⟨_, rfl⟩ .nil)⟩, .inl rfl⟩, k23⟩
  have B23 : Binds K (PySem.W.fnOf "lasts" "lasts" (defArgs s_lasts) (defBody s_lasts) (defScope s_lasts) (.ref T23) kV23 dc23 pm23 an23 cd23 ct23) P_lasts [] := by
    obtain ⟨ds, v, b⟩ := F23.binds1 (ps := P_lasts) 3 1 (by simp) rfl (fun _ _ _ _ _ _ _ us its h1 h2 => match us, its, h1, h2 with | [_, _, _], [_], _, _ => ⟨_, rfl, rfl⟩)
    cases v
    exact b
  have B_lasts_2 := F23.binds1 (ps := P_lasts) 2 0 (by simp) rfl (fun _ _ _ _ _ _ _ us its h1 h2 => match us, its, h1, h2 with | [_, _], [_], _, _ => ⟨_, rfl, rfl⟩)
  have F24 := fun_mk (st := s_laid_out) l24 c24 k24
  have F25 := fun_mk (st := s_strand_with) l25 c25 k25
  have F26 : FunD K "drawn" "drawn" (defArgs s_drawn) (defBody s_drawn) (defScope s_drawn) [V.non, V.int 0] [] f26 (PySem.W.fnOf "drawn" "drawn" (defArgs s_drawn) (defBody s_drawn) (defScope s_drawn) (.ref T26) kV26 dc26 pm26 an26 cd26 ct26) := ⟨⟨oc26, od26, .ref T26, kV26, dc26, pm26, an26, cd26, ct26, sl26, rfl, l26, c26, .inr ⟨by simp, T26, _, [.none, .int 0 tkd_drawn_1], tn26, rfl, t26, rfl, (.cons rfl (.cons ⟨_, rfl⟩ .nil))⟩, .inl rfl⟩, k26⟩
  have B26 : Binds K (PySem.W.fnOf "drawn" "drawn" (defArgs s_drawn) (defBody s_drawn) (defScope s_drawn) (.ref T26) kV26 dc26 pm26 an26 cd26 ct26) P_drawn [] := by
    obtain ⟨ds, v, b⟩ := F26.binds1 (ps := P_drawn) 4 2 (by simp) rfl (fun _ _ _ _ _ _ _ us its h1 h2 => match us, its, h1, h2 with | [_, _, _, _], [_, _], _, _ => ⟨_, rfl, rfl⟩)
    cases v
    exact b
  have B_drawn_2 := F26.binds1 (ps := P_drawn) 2 0 (by simp) rfl (fun _ _ _ _ _ _ _ us its h1 h2 => match us, its, h1, h2 with | [_, _], [_, _], _, _ => ⟨_, rfl, rfl⟩)
  have B_drawn_3 := F26.binds1 (ps := P_drawn) 3 1 (by simp) rfl (fun _ _ _ _ _ _ _ us its h1 h2 => match us, its, h1, h2 with | [_, _, _], [_, _], _, _ => ⟨_, rfl, rfl⟩)
  have F27 : FunD K "lasting" "lasting" (defArgs s_lasting) (defBody s_lasting) (defScope s_lasting) [V.non, V.int 0] [] f27 (PySem.W.fnOf "lasting" "lasting" (defArgs s_lasting) (defBody s_lasting) (defScope s_lasting) (.ref T27) kV27 dc27 pm27 an27 cd27 ct27) := ⟨⟨oc27, od27, .ref T27, kV27, dc27, pm27, an27, cd27, ct27, sl27, rfl, l27, c27, .inr ⟨by simp, T27, _, [.none, .int 0 tkd_lasting_1], tn27, rfl, t27, rfl, (.cons rfl (.cons ⟨_, rfl⟩ .nil))⟩, .inl rfl⟩, k27⟩
  have B27 : Binds K (PySem.W.fnOf "lasting" "lasting" (defArgs s_lasting) (defBody s_lasting) (defScope s_lasting) (.ref T27) kV27 dc27 pm27 an27 cd27 ct27) P_lasting [] := by
    obtain ⟨ds, v, b⟩ := F27.binds1 (ps := P_lasting) 4 2 (by simp) rfl (fun _ _ _ _ _ _ _ us its h1 h2 => match us, its, h1, h2 with | [_, _, _, _], [_, _], _, _ => ⟨_, rfl, rfl⟩)
    cases v
    exact b
  have B_lasting_2 := F27.binds1 (ps := P_lasting) 2 0 (by simp) rfl (fun _ _ _ _ _ _ _ us its h1 h2 => match us, its, h1, h2 with | [_, _], [_, _], _, _ => ⟨_, rfl, rfl⟩)
  have B_lasting_3 := F27.binds1 (ps := P_lasting) 3 1 (by simp) rfl (fun _ _ _ _ _ _ _ us its h1 h2 => match us, its, h1, h2 with | [_, _, _], [_, _], _, _ => ⟨_, rfl, rfl⟩)
  have F28 := fun_mk (st := s_is_wide) l28 c28 k28
  have F29 := fun_mk (st := s_drawn_to) l29 c29 k29
  have F30 := fun_mk (st := s_thick) l30 c30 k30
  have F31 := fun_mk (st := s_moved) l31 c31 k31
  have F32 := fun_mk (st := s_rest_from) l32 c32 k32
  have F33 := fun_mk (st := s_from_on) l33 c33 k33
  have F34 := fun_mk (st := s_shows_thin) l34 c34 k34
  have F35 := fun_mk (st := s__law_begin) l35 c35 k35
  have F36 := fun_mk (st := s__law_take) l36 c36 k36
  have F37 := fun_mk (st := s__law_of) l37 c37 k37
  have F38 := fun_mk (st := s__law_drawn_wisp) l38 c38 k38
  have F39 := fun_mk (st := s__law_least) l39 c39 k39
  have F40 := fun_mk (st := s__law_strong_at) l40 c40 k40
  have F41 := fun_mk (st := s__law_there) l41 c41 k41
  have F42 := fun_mk (st := s__law_borders) l42 c42 k42
  have F43 := fun_mk (st := s__law_first_thin) l43 c43 k43
  have F44 := fun_mk (st := s__law_small_row) l44 c44 k44
  have F45 := fun_mk (st := s__law_all_schedules) l45 c45 k45
  have F46 := fun_mk (st := s__law_gone_through) l46 c46 k46
  have F47 := fun_mk (st := s__law_told_so) l47 c47 k47
  have F48 := fun_mk (st := s__law_goes_on) l48 c48 k48
  have F49 := fun_mk (st := s_law) l49 c49 k49
  have bi : Bi mg := ⟨PySem.W.mg_none_of X G z1, PySem.W.mg_none_of X G z2, PySem.W.mg_none_of X G z3, PySem.W.mg_none_of X G z4, PySem.W.mg_none_of X G z5, PySem.W.mg_none_of X G z6, PySem.W.mg_none_of X G z7, PySem.W.mg_none_of X G z8, PySem.W.mg_none_of X G z9, PySem.W.mg_none_of X G z10, PySem.W.mg_none_of X G z11, PySem.W.mg_none_of X G z12, PySem.W.mg_none_of X G z13, PySem.W.mg_none_of X G z14, PySem.W.mg_none_of X G z15, PySem.W.mg_none_of X G z16, PySem.W.mg_none_of X G z17, PySem.W.mg_none_of X G z18, PySem.W.mg_none_of X G z19, PySem.W.mg_none_of X G z20⟩
  refine ⟨PySem.W.fnOf "law" "law" (defArgs s_law) (defBody s_law) (defScope s_law) .none kV49 dc49 pm49 an49 cd49 ct49, fun s v => .of_eq rfl, fun base _ _ => ?_⟩
  have C_is_whole : Cal l.prog w K mg base "is_whole" P_is_whole 1 spWholeT f1 _ := ⟨ok_is_whole F1 bi, PySem.W.mg_of X G a1, F1.kp, F1.binds (ps := P_is_whole) fun _ _ _ _ _ _ us hl => match us, hl with | [_, _], _ => rfl⟩
  have C_is_tuple : Cal l.prog w K mg base "is_tuple" P_is_tuple 1 spTupleT f2 _ := ⟨ok_is_tuple F2 bi, PySem.W.mg_of X G a2, F2.kp, F2.binds (ps := P_is_tuple) fun _ _ _ _ _ _ us hl => match us, hl with | [_, _, _], _ => rfl⟩
  have C_is_step : Cal l.prog w K mg base "is_step" P_is_step 2 spStepT f3 _ := ⟨ok_is_step F3 bi C_is_tuple C_is_whole, PySem.W.mg_of X G a3, F3.kp, F3.binds (ps := P_is_step) fun _ _ _ _ _ _ us hl => match us, hl with | [_], _ => rfl⟩
  have C_are_steps : Cal l.prog w K mg base "are_steps" P_are_steps 3 spStepsT f4 _ := ⟨ok_are_steps F4 bi g_MOST_STEPS C_is_tuple C_is_step, PySem.W.mg_of X G a4, F4.kp, F4.binds (ps := P_are_steps) fun _ _ _ _ _ _ us hl => match us, hl with | [_], _ => rfl⟩
  have C_is_wisp : Cal l.prog w K mg base "is_wisp" P_is_wisp 4 spWispT f5 _ := ⟨ok_is_wisp F5 bi C_is_tuple C_is_whole C_are_steps, PySem.W.mg_of X G a5, F5.kp, F5.binds (ps := P_is_wisp) fun _ _ _ _ _ _ us hl => match us, hl with | [_], _ => rfl⟩
  have C_thick_at : Cal l.prog w K mg base "thick_at" P_thick_at 1 spThick f6 _ := ⟨ok_thick_at F6 bi, PySem.W.mg_of X G a6, F6.kp, F6.binds (ps := P_thick_at) fun _ _ _ _ _ _ us hl => match us, hl with | [_, _], _ => rfl⟩
  have C_tail : Cal l.prog w K mg base "tail" P_tail 1 spTail f7 _ := ⟨ok_tail F7 bi, PySem.W.mg_of X G a7, F7.kp, F7.binds (ps := P_tail) fun _ _ _ _ _ _ us hl => match us, hl with | [_, _], _ => rfl⟩
  have C_is_row : Cal l.prog w K mg base "is_row" P_is_row 5 spRowT f8 _ := ⟨ok_is_row F8 bi g_MOST_WISPS C_is_tuple C_is_wisp, PySem.W.mg_of X G a8, F8.kp, F8.binds (ps := P_is_row) fun _ _ _ _ _ _ us hl => match us, hl with | [_], _ => rfl⟩
  have C_is_schedule : Cal l.prog w K mg base "is_schedule" P_is_schedule 6 spSchedT f9 _ := ⟨ok_is_schedule F9 bi C_is_row C_is_tuple C_is_whole, PySem.W.mg_of X G a9, F9.kp, F9.binds (ps := P_is_schedule) fun _ _ _ _ _ _ us hl => match us, hl with | [_, _], _ => rfl⟩
  have C_thick_of : Cal l.prog w K mg base "thick_of" P_thick_of 2 spThickOf f10 _ := ⟨ok_thick_of F10 bi C_thick_at, PySem.W.mg_of X G a10, F10.kp, F10.binds (ps := P_thick_of) fun _ _ _ _ _ _ us hl => match us, hl with | [_, _], _ => rfl⟩
  have C_parts_of : Cal l.prog w K mg base "parts_of" P_parts_of 1 spPartsOf f11 _ := ⟨ok_parts_of F11 bi, PySem.W.mg_of X G a11, F11.kp, F11.binds (ps := P_parts_of) fun _ _ _ _ _ _ us hl => match us, hl with | [_], _ => rfl⟩
  have C_thicknesses_at : Cal l.prog w K mg base "thicknesses_at" P_thicknesses_at 3 spThicks f12 _ := ⟨ok_thicknesses_at F12 bi C_thick_of, PySem.W.mg_of X G a12, F12.kp, F12.binds (ps := P_thicknesses_at) fun _ _ _ _ _ _ us hl => match us, hl with | [_, _], _ => rfl⟩
  have C_numbers_of : Cal l.prog w K mg base "numbers_of" P_numbers_of 1 spNumbers f13 _ := ⟨ok_numbers_of F13 bi, PySem.W.mg_of X G a13, F13.kp, F13.binds (ps := P_numbers_of) fun _ _ _ _ _ _ us hl => match us, hl with | [_], _ => rfl⟩
  have C_sorts_of : Cal l.prog w K mg base "sorts_of" P_sorts_of 1 spSorts f14 _ := ⟨ok_sorts_of F14 bi, PySem.W.mg_of X G a14, F14.kp, F14.binds (ps := P_sorts_of) fun _ _ _ _ _ _ us hl => match us, hl with | [_, _], _ => rfl⟩
  have C_end_of : Cal l.prog w K mg base "end_of" P_end_of 2 spEnd f15 _ := ⟨ok_end_of F15 bi C_parts_of, PySem.W.mg_of X G a15, F15.kp, F15.binds (ps := P_end_of) fun _ _ _ _ _ _ us hl => match us, hl with | [_], _ => rfl⟩
  have C_weight_between : Cal l.prog w K mg base "weight_between" P_weight_between 2 spBetween f16 _ := ⟨ok_weight_between F16 bi C_parts_of, PySem.W.mg_of X G a16, F16.kp, F16.binds (ps := P_weight_between) fun _ _ _ _ _ _ us hl => match us, hl with | [_, _, _], _ => rfl⟩
  have C_changes_of : Cal l.prog w K mg base "changes_of" P_changes_of 2 spChanges f17 _ := ⟨ok_changes_of F17 bi C_parts_of, PySem.W.mg_of X G a17, F17.kp, F17.binds (ps := P_changes_of) fun _ _ _ _ _ _ us hl => match us, hl with | [_], _ => rfl⟩
  have C_stretches : Cal l.prog w K mg base "stretches" P_stretches 3 spStretches f18 _ := ⟨ok_stretches F18 bi C_changes_of C_numbers_of C_sorts_of, PySem.W.mg_of X G a18, F18.kp, F18.binds (ps := P_stretches) fun _ _ _ _ _ _ us hl => match us, hl with | [_], _ => rfl⟩
  have C_levels_between : Cal l.prog w K mg base "levels_between" P_levels_between 4 spLevelsB f19 _ := ⟨ok_levels_between F19 bi C_stretches C_end_of, PySem.W.mg_of X G a19, F19.kp, F19.binds (ps := P_levels_between) fun _ _ _ _ _ _ us hl => match us, hl with | [_, _, _], _ => rfl⟩
  have C_thinnest : Cal l.prog w K mg base "thinnest" P_thinnest 5 (spExtr 1) f20 _ := ⟨ok_thinnest F20 bi C_levels_between, PySem.W.mg_of X G a20, F20.kp, F20.binds (ps := P_thinnest) fun _ _ _ _ _ _ us hl => match us, hl with | [_, _, _], _ => rfl⟩
  have C_word_of : Cal l.prog w K mg base "word_of" P_word_of 1 spWord f21 _ := ⟨ok_word_of F21 bi, PySem.W.mg_of X G a21, F21.kp, F21.binds (ps := P_word_of) fun _ _ _ _ _ _ us hl => match us, hl with | [_, _, _], _ => rfl⟩
  have C_first_off : Cal l.prog w K mg base "first_off" P_first_off 5 (spFirstOff K) f22 _ := ⟨ok_first_off F22 bi C_levels_between C_word_of, PySem.W.mg_of X G a22, F22.kp, F22.binds (ps := P_first_off) fun _ _ _ _ _ _ us hl => match us, hl with | [_, _, _, _, _], _ => rfl⟩
  have C_lasts : Cal l.prog w K mg base "lasts" P_lasts 4 spLasts f23 _ := ⟨ok_lasts F23 bi C_stretches C_end_of, PySem.W.mg_of X G a23, F23.kp, B23⟩
  have C_laid_out : Cal l.prog w K mg base "laid_out" P_laid_out 1 spLaidOut f24 _ := ⟨ok_laid_out F24 bi, PySem.W.mg_of X G a24, F24.kp, F24.binds (ps := P_laid_out) fun _ _ _ _ _ _ us hl => match us, hl with | [_, _], _ => rfl⟩
  have C_strand_with : Cal l.prog w K mg base "strand_with" P_strand_with 2 spStrandWith f25 _ := ⟨ok_strand_with F25 bi C_laid_out, PySem.W.mg_of X G a25, F25.kp, F25.binds (ps := P_strand_with) fun _ _ _ _ _ _ us hl => match us, hl with | [_, _, _], _ => rfl⟩
  have C_drawn : Cal l.prog w K mg base "drawn" P_drawn 5 spDrawn f26 _ := ⟨ok_drawn F26 bi C_lasts C_strand_with, PySem.W.mg_of X G a26, F26.kp, B26⟩
  have C_lasting : Cal l.prog w K mg base "lasting" P_lasting 6 spLasting f27 _ := ⟨ok_lasting F27 bi C_lasts C_strand_with C_drawn, PySem.W.mg_of X G a27, F27.kp, B27⟩
  have C_is_wide : Cal l.prog w K mg base "is_wide" P_is_wide 2 spIsWide f28 _ := ⟨ok_is_wide F28 bi C_thick_at, PySem.W.mg_of X G a28, F28.kp, F28.binds (ps := P_is_wide) fun _ _ _ _ _ _ us hl => match us, hl with | [_, _, _], _ => rfl⟩
  have C_drawn_to : Cal l.prog w K mg base "drawn_to" P_drawn_to 6 (spDrawnTo K) f29 _ := ⟨ok_drawn_to F29 bi C_drawn C_laid_out C_lasts C_thicknesses_at B_drawn_2 B_lasts_2, PySem.W.mg_of X G a29, F29.kp, F29.binds (ps := P_drawn_to) fun _ _ _ _ _ _ us hl => match us, hl with | [_, _, _], _ => rfl⟩
  have C_thick : Cal l.prog w K mg base "thick" P_thick 4 spThickS f30 _ := ⟨ok_thick F30 bi C_thicknesses_at, PySem.W.mg_of X G a30, F30.kp, F30.binds (ps := P_thick) fun _ _ _ _ _ _ us hl => match us, hl with | [_, _], _ => rfl⟩
  have C_moved : Cal l.prog w K mg base "moved" P_moved 1 spMoved f31 _ := ⟨ok_moved F31 bi, PySem.W.mg_of X G a31, F31.kp, F31.binds (ps := P_moved) fun _ _ _ _ _ _ us hl => match us, hl with | [_, _], _ => rfl⟩
  have C_rest_from : Cal l.prog w K mg base "rest_from" P_rest_from 2 spRestFrom f32 _ := ⟨ok_rest_from F32 bi C_moved C_tail, PySem.W.mg_of X G a32, F32.kp, F32.binds (ps := P_rest_from) fun _ _ _ _ _ _ us hl => match us, hl with | [_, _], _ => rfl⟩
  have C_from_on : Cal l.prog w K mg base "from_on" P_from_on 3 spFromOn f33 _ := ⟨ok_from_on F33 bi C_thick_of C_rest_from, PySem.W.mg_of X G a33, F33.kp, F33.binds (ps := P_from_on) fun _ _ _ _ _ _ us hl => match us, hl with | [_, _], _ => rfl⟩
  have C_shows_thin : Cal l.prog w K mg base "shows_thin" P_shows_thin 7 spShows f34 _ := ⟨ok_shows_thin F34 bi C_is_schedule C_is_whole C_laid_out C_thick, PySem.W.mg_of X G a34, F34.kp, F34.binds (ps := P_shows_thin) fun _ _ _ _ _ _ us hl => match us, hl with | [_, _, _, _], _ => rfl⟩
  have C__law_begin : Cal l.prog w K mg base "_law_begin" P__law_begin 1 (spBeginC K) f35 _ := ⟨ok__law_begin F35 bi, PySem.W.mg_of X G a35, F35.kp, F35.binds (ps := P__law_begin) fun _ _ _ _ _ _ us hl => match us, hl with | [_, _], _ => rfl⟩
  have C__law_take : Cal l.prog w K mg base "_law_take" P__law_take 1 spTakeC f36 _ := ⟨ok__law_take F36 bi, PySem.W.mg_of X G a36, F36.kp, F36.binds (ps := P__law_take) fun _ _ _ _ _ _ us hl => match us, hl with | [_, _], _ => rfl⟩
  have C__law_of : Cal l.prog w K mg base "_law_of" P__law_of 2 spOfB f37 _ := ⟨ok__law_of F37 bi C__law_take, PySem.W.mg_of X G a37, F37.kp, F37.binds (ps := P__law_of) fun _ _ _ _ _ _ us hl => match us, hl with | [_, _], _ => rfl⟩
  have C__law_drawn_wisp : Cal l.prog w K mg base "_law_drawn_wisp" P__law_drawn_wisp 3 spDWisp74 f38 _ := ⟨ok__law_drawn_wisp F38 bi C__law_take C__law_of, PySem.W.mg_of X G a38, F38.kp, F38.binds (ps := P__law_drawn_wisp) fun _ _ _ _ _ _ us hl => match us, hl with | [_, _], _ => rfl⟩
  have C__law_least : Cal l.prog w K mg base "_law_least" P__law_least 2 spLeast f39 _ := ⟨ok__law_least F39 bi C__law_take, PySem.W.mg_of X G a39, F39.kp, F39.binds (ps := P__law_least) fun _ _ _ _ _ _ us hl => match us, hl with | [_, _], _ => rfl⟩
  have C__law_strong_at : Cal l.prog w K mg base "_law_strong_at" P__law_strong_at 1 spStrongB f40 _ := ⟨ok__law_strong_at F40 bi, PySem.W.mg_of X G a40, F40.kp, F40.binds (ps := P__law_strong_at) fun _ _ _ _ _ _ us hl => match us, hl with | [_, _], _ => rfl⟩
  have C__law_there : Cal l.prog w K mg base "_law_there" P__law_there 2 spThere f41 _ := ⟨ok__law_there F41 bi C__law_strong_at, PySem.W.mg_of X G a41, F41.kp, F41.binds (ps := P__law_there) fun _ _ _ _ _ _ us hl => match us, hl with | [_, _], _ => rfl⟩
  have C__law_borders : Cal l.prog w K mg base "_law_borders" P__law_borders 1 spBorders f42 _ := ⟨ok__law_borders F42 bi, PySem.W.mg_of X G a42, F42.kp, F42.binds (ps := P__law_borders) fun _ _ _ _ _ _ us hl => match us, hl with | [_, _], _ => rfl⟩
  have C__law_first_thin : Cal l.prog w K mg base "_law_first_thin" P__law_first_thin 3 spFirstThin f43 _ := ⟨ok__law_first_thin F43 bi C__law_there C__law_borders, PySem.W.mg_of X G a43, F43.kp, F43.binds (ps := P__law_first_thin) fun _ _ _ _ _ _ us hl => match us, hl with | [_, _, _], _ => rfl⟩
  have C__law_small_row : Cal l.prog w K mg base "_law_small_row" P__law_small_row 2 spSmallRow f44 _ := ⟨ok__law_small_row F44 bi C__law_take, PySem.W.mg_of X G a44, F44.kp, F44.binds (ps := P__law_small_row) fun _ _ _ _ _ _ us hl => match us, hl with | [_], _ => rfl⟩
  have C__law_all_schedules : Cal l.prog w K mg base "_law_all_schedules" P__law_all_schedules 1 spAllSched f45 _ := ⟨ok__law_all_schedules F45 bi, PySem.W.mg_of X G a45, F45.kp, F45.binds (ps := P__law_all_schedules) fun _ _ _ _ _ _ us hl => match us, hl with | [_, _], _ => rfl⟩
  have C__law_gone_through : Cal l.prog w K mg base "_law_gone_through" P__law_gone_through 7 spGone74 f46 _ := ⟨ok__law_gone_through F46 bi C_drawn C_lasting C__law_all_schedules C__law_first_thin C_drawn_to B_drawn_2 B_lasting_2, PySem.W.mg_of X G a46, F46.kp, F46.binds (ps := P__law_gone_through) fun _ _ _ _ _ _ us hl => match us, hl with | [_, _], _ => rfl⟩
  have C__law_told_so : Cal l.prog w K mg base "_law_told_so" P__law_told_so 8 spTold74 f47 _ := ⟨ok__law_told_so F47 bi C_drawn C_lasting C_laid_out C_lasts C_end_of C_first_off C_thinnest C_weight_between C_stretches C_is_wide C_shows_thin B_drawn_2 B_lasting_2 B_lasts_2, PySem.W.mg_of X G a47, F47.kp, F47.binds (ps := P__law_told_so) fun _ _ _ _ _ _ us hl => match us, hl with | [_, _, _], _ => rfl⟩
  have C__law_goes_on : Cal l.prog w K mg base "_law_goes_on" P__law_goes_on 7 spGoes74 f48 _ := ⟨ok__law_goes_on F48 bi C_drawn C_lasting C__law_take C__law_of C_laid_out C_from_on B_drawn_2 B_lasting_2 B_drawn_3 B_lasting_3, PySem.W.mg_of X G a48, F48.kp, F48.binds (ps := P__law_goes_on) fun _ _ _ _ _ _ us hl => match us, hl with | [_, _, _], _ => rfl⟩
  exact ok_law F49 bi C__law_begin C__law_take C__law_of C__law_small_row C__law_drawn_wisp C__law_least C__law_gone_through C__law_told_so C__law_goes_on
end My
open PySem PySem.W PyProof.Rows
set_option maxHeartbeats 0 in
theorem PySem.Challenge.cw_evenstrand_k74_whole_small_rows_gone_thr_holds : PySem.Challenge.rw_evenstrand_k74_whole_small_rows_gone_thr.Holds := by
  w_on; o_law; k_head; (case hw => w_witness2)
  k_fill
  refine L2.walk_of (l := PySem.Challenge.rw_evenstrand_k74_whole_small_rows_gone_thr) (n := 63) (k := 9) (x := "_law_script") (CX := fun _ => L2.CX0) (sp := fun w => My.spLaw _) rfl (by decide) rfl ⟨rfl, by decide, by decide⟩ (fun w h Y => PySem.W.kIn_of Y) ?F (fun _ _ a ns hl _ hS => ⟨a, ns, rfl, hS, hl, fun _ => rfl⟩) (fun _ _ _ _ _ h => h)
  case F =>
    intro w mg fa h KX G hmg
    refine' My.all_mk KX G hmg ?a1 ?l1 ?c1 ?k1 ?a2 ?l2 ?c2 ?k2 ?a3 ?l3 ?c3 ?k3 ?a4 ?l4 ?c4 ?k4 ?a5 ?l5 ?c5 ?k5 ?a6 ?l6 ?c6 ?k6 ?a7 ?l7 ?c7 ?k7 ?a8 ?l8 ?c8 ?k8 ?a9 ?l9 ?c9 ?k9 ?a10 ?l10 ?c10 ?k10 ?a11 ?l11 ?c11 ?k11 ?a12 ?l12 ?c12 ?k12 ?a13 ?l13 ?c13 ?k13 ?a14 ?l14 ?c14 ?k14 ?a15 ?l15 ?c15 ?k15 ?a16 ?l16 ?c16 ?k16 ?a17 ?l17 ?c17 ?k17 ?a18 ?l18 ?c18 ?k18 ?a19 ?l19 ?c19 ?k19 ?a20 ?l20 ?c20 ?k20 ?a21 ?l21 ?c21 ?k21 ?a22 ?l22 ?c22 ?k22 ?a23 ?l23 ?c23 ?k23 ?t23 ?a24 ?l24 ?c24 ?k24 ?a25 ?l25 ?c25 ?k25 ?a26 ?l26 ?c26 ?k26 ?t26 ?a27 ?l27 ?c27 ?k27 ?t27 ?a28 ?l28 ?c28 ?k28 ?a29 ?l29 ?c29 ?k29 ?a30 ?l30 ?c30 ?k30 ?a31 ?l31 ?c31 ?k31 ?a32 ?l32 ?c32 ?k32 ?a33 ?l33 ?c33 ?k33 ?a34 ?l34 ?c34 ?k34 ?a35 ?l35 ?c35 ?k35 ?a36 ?l36 ?c36 ?k36 ?a37 ?l37 ?c37 ?k37 ?a38 ?l38 ?c38 ?k38 ?a39 ?l39 ?c39 ?k39 ?a40 ?l40 ?c40 ?k40 ?a41 ?l41 ?c41 ?k41 ?a42 ?l42 ?c42 ?k42 ?a43 ?l43 ?c43 ?k43 ?a44 ?l44 ?c44 ?k44 ?a45 ?l45 ?c45 ?k45 ?a46 ?l46 ?c46 ?k46 ?a47 ?l47 ?c47 ?k47 ?a48 ?l48 ?c48 ?k48 ?a49 ?l49 ?c49 ?k49 ?z1 ?z2 ?z3 ?z4 ?z5 ?z6 ?z7 ?z8 ?z9 ?z10 ?z11 ?z12 ?z13 ?z14 ?z15 ?z16 ?z17 ?z18 ?z19 ?z20 ?q_MOST_STEPS ?q_MOST_WISPS
    (case a1 => k_is)
    (case l1 => k_is)
    (case c1 => k_is)
    (case k1 => k_is)
    (case a2 => k_is)
    (case l2 => k_is)
    (case c2 => k_is)
    (case k2 => k_is)
    (case a3 => k_is)
    (case l3 => k_is)
    (case c3 => k_is)
    (case k3 => k_is)
    (case a4 => k_is)
    (case l4 => k_is)
    (case c4 => k_is)
    (case k4 => k_is)
    (case a5 => k_is)
    (case l5 => k_is)
    (case c5 => k_is)
    (case k5 => k_is)
    (case a6 => k_is)
    (case l6 => k_is)
    (case c6 => k_is)
    (case k6 => k_is)
    (case a7 => k_is)
    (case l7 => k_is)
    (case c7 => k_is)
    (case k7 => k_is)
    (case a8 => k_is)
    (case l8 => k_is)
    (case c8 => k_is)
    (case k8 => k_is)
    (case a9 => k_is)
    (case l9 => k_is)
    (case c9 => k_is)
    (case k9 => k_is)
    (case a10 => k_is)
    (case l10 => k_is)
    (case c10 => k_is)
    (case k10 => k_is)
    (case a11 => k_is)
    (case l11 => k_is)
    (case c11 => k_is)
    (case k11 => k_is)
    (case a12 => k_is)
    (case l12 => k_is)
    (case c12 => k_is)
    (case k12 => k_is)
    (case a13 => k_is)
    (case l13 => k_is)
    (case c13 => k_is)
    (case k13 => k_is)
    (case a14 => k_is)
    (case l14 => k_is)
    (case c14 => k_is)
    (case k14 => k_is)
    (case a15 => k_is)
    (case l15 => k_is)
    (case c15 => k_is)
    (case k15 => k_is)
    (case a16 => k_is)
    (case l16 => k_is)
    (case c16 => k_is)
    (case k16 => k_is)
    (case a17 => k_is)
    (case l17 => k_is)
    (case c17 => k_is)
    (case k17 => k_is)
    (case a18 => k_is)
    (case l18 => k_is)
    (case c18 => k_is)
    (case k18 => k_is)
    (case a19 => k_is)
    (case l19 => k_is)
    (case c19 => k_is)
    (case k19 => k_is)
    (case a20 => k_is)
    (case l20 => k_is)
    (case c20 => k_is)
    (case k20 => k_is)
    (case a21 => k_is)
    (case l21 => k_is)
    (case c21 => k_is)
    (case k21 => k_is)
    (case a22 => k_is)
    (case l22 => k_is)
    (case c22 => k_is)
    (case k22 => k_is)
    (case a23 => k_is)
    (case l23 => k_is)
    (case c23 => k_is)
    (case k23 => k_is)
    (case t23 => k_is)
    (case a24 => k_is)
    (case l24 => k_is)
    (case c24 => k_is)
    (case k24 => k_is)
    (case a25 => k_is)
    (case l25 => k_is)
    (case c25 => k_is)
    (case k25 => k_is)
    (case a26 => k_is)
    (case l26 => k_is)
    (case c26 => k_is)
    (case k26 => k_is)
    (case t26 => k_is)
    (case a27 => k_is)
    (case l27 => k_is)
    (case c27 => k_is)
    (case k27 => k_is)
    (case t27 => k_is)
    (case a28 => k_is)
    (case l28 => k_is)
    (case c28 => k_is)
    (case k28 => k_is)
    (case a29 => k_is)
    (case l29 => k_is)
    (case c29 => k_is)
    (case k29 => k_is)
    (case a30 => k_is)
    (case l30 => k_is)
    (case c30 => k_is)
    (case k30 => k_is)
    (case a31 => k_is)
    (case l31 => k_is)
    (case c31 => k_is)
    (case k31 => k_is)
    (case a32 => k_is)
    (case l32 => k_is)
    (case c32 => k_is)
    (case k32 => k_is)
    (case a33 => k_is)
    (case l33 => k_is)
    (case c33 => k_is)
    (case k33 => k_is)
    (case a34 => k_is)
    (case l34 => k_is)
    (case c34 => k_is)
    (case k34 => k_is)
    (case a35 => k_is)
    (case l35 => k_is)
    (case c35 => k_is)
    (case k35 => k_is)
    (case a36 => k_is)
    (case l36 => k_is)
    (case c36 => k_is)
    (case k36 => k_is)
    (case a37 => k_is)
    (case l37 => k_is)
    (case c37 => k_is)
    (case k37 => k_is)
    (case a38 => k_is)
    (case l38 => k_is)
    (case c38 => k_is)
    (case k38 => k_is)
    (case a39 => k_is)
    (case l39 => k_is)
    (case c39 => k_is)
    (case k39 => k_is)
    (case a40 => k_is)
    (case l40 => k_is)
    (case c40 => k_is)
    (case k40 => k_is)
    (case a41 => k_is)
    (case l41 => k_is)
    (case c41 => k_is)
    (case k41 => k_is)
    (case a42 => k_is)
    (case l42 => k_is)
    (case c42 => k_is)
    (case k42 => k_is)
    (case a43 => k_is)
    (case l43 => k_is)
    (case c43 => k_is)
    (case k43 => k_is)
    (case a44 => k_is)
    (case l44 => k_is)
    (case c44 => k_is)
    (case k44 => k_is)
    (case a45 => k_is)
    (case l45 => k_is)
    (case c45 => k_is)
    (case k45 => k_is)
    (case a46 => k_is)
    (case l46 => k_is)
    (case c46 => k_is)
    (case k46 => k_is)
    (case a47 => k_is)
    (case l47 => k_is)
    (case c47 => k_is)
    (case k47 => k_is)
    (case a48 => k_is)
    (case l48 => k_is)
    (case c48 => k_is)
    (case k48 => k_is)
    (case a49 => k_is)
    (case l49 => k_is)
    (case c49 => k_is)
    (case k49 => k_is)
    (case z1 => k_is)
    (case z2 => k_is)
    (case z3 => k_is)
    (case z4 => k_is)
    (case z5 => k_is)
    (case z6 => k_is)
    (case z7 => k_is)
    (case z8 => k_is)
    (case z9 => k_is)
    (case z10 => k_is)
    (case z11 => k_is)
    (case z12 => k_is)
    (case z13 => k_is)
    (case z14 => k_is)
    (case z15 => k_is)
    (case z16 => k_is)
    (case z17 => k_is)
    (case z18 => k_is)
    (case z19 => k_is)
    (case z20 => k_is)
    (case q_MOST_STEPS => k_is)
    (case q_MOST_WISPS => k_is)
