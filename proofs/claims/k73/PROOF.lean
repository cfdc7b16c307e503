import PyProof.Rows.All
import Wide.All
import OpenK.AllK
import Wide.FinOn
import HandS.ForMost
import HandS.Wide
import HandS.IsInst
import HandS.More
import HandS.TupAny
import HandS.Codes
import HandS.Zip
import HandS.SortKw
import HandS.Walk
import KE.KMinKey
import PyProof.Rows.NestShow
import PyProof.ReprBulk
import PyProof.FitsInt
import HandS.SortInts
import HandS.Flow
import HandS.SetKeys
import HandS.NoneIn
import HandS.Style
import HandS.SetFor
import HandS.Defaults
import PyProof.LongRange
import PyProof.Rows.SortShellAny
import PyProof.FactsAll.NoneType_2
import KE.DatumOrd
import PyProof.Claim2Refuses
import PyProof.MaxThree
import PySem.Challenge.RW_evenstrand_k73_whole_strands_joined_and
set_option Elab.async false
set_option linter.all false
set_option maxRecDepth 100000
set_option maxHeartbeats 4000000
namespace My
open PySem PySem.Spec PyProof.Rows L2
/-! ### defs that are called where no object is just being shown: there repr tells all of a thing -/
structure FnG (P : Program) (w : World) (K : PySem.W.Frag) (mg : Str → Option Value) (bs : Heap) (k : Nat) (f : Addr) (fd : FuncData) (ps : List Str) (sp : Sp) : Prop where
  long : ∀ us H Q E, sp us H Q E → us.length = ps.length
  goes : ∀ (B : Around) (ou : List Env) (t : Shared) (H : Hp) (ar : Args) (ws : List Value) (us : List V) (Q : VK) (E : XK), Room k B → B.guards = some [] → Env0 P w K mg bs B ou t H → BindsTo t fd ar (ps.zip ws) →
    Vals us ws → sp us H Q E → codeAny (model P w) B (.call (.ref f) ar) (CR CX0 ou P w H t Q E) t
section
variable {P : Program} {w : World} {K : PySem.W.Frag} {mg : Str → Option Value} {bs : Heap} {f : Addr} {fd : FuncData} {ps : List Str} {sp : Sp}
theorem FnG.up {j k : Nat} (F : FnG P w K mg bs j f fd ps sp) (h : j ≤ k) : FnG P w K mg bs k f fd ps sp := ⟨F.long, fun B ou t H ar ws us Q E r => F.goes B ou t H ar ws us Q E (r.mono h)⟩
theorem FnG.of {k : Nat} (F : FnOk P w K mg bs CX0 k f fd ps sp) : FnG P w K mg bs k f fd ps sp := ⟨F.len, fun B ou t H ar ws us Q E r _ => F.run B ou t H ar ws us Q E r⟩
/-- from the body's walk -/
theorem okG {x qual : Str} {st : Stmt} {N : List Str} {k : Nat} (F : Fun K x qual st f fd) (S : FnScope N ps (defScope st)) (ln : ∀ us H Q E, sp us H Q E → us.length = ps.length)
    (hb : ∀ (cv : Value) (B : Around) (ou : List Env) (t : Shared) (H : Hp) (us : List V) (Q : VK) (E : XK), Room k (B.deeper (envOfC qual (defScope st) t.heap.objs.size f cv)) → (B.deeper (envOfC qual (defScope st) t.heap.objs.size f cv)).guards = some [] → sp us H Q E →
      ∃ u, PSs (cxOf CX0 P w K mg bs N qual (defScope st) f cv B ou t H E).nox (defBody st) u ∧ u { nx := fun _ H' => Q .non H', rt := Q } (start N us) H) : FnG P w K mg bs (k + 1) f fd ps sp := by
  obtain ⟨oc, od, kV, dc, pm, an, cv, ct, sl, rfl, lk, hcv⟩ := F.ex
  refine ⟨ln, fun B ou t H ar ws us Q E r gd e0 bi va hs => ?_⟩
  have kin : K.In t.heap := e0.mod.kin.keeps fun b o e => (e0.bs b o e).1
  have nol : t.heap.NoLimit := e0.mod.nolimit.keeps fun b o e => (e0.bs b o e).1
  refine codeAny_call_function r.depth (kin _ _ lk) rfl S.co S.gen rfl (PySem.W.codeRec_of kin hcv) (bi _ _ _ _ (wpAny_newFunctionEnv_cells S.kind (fun ⟨y, v⟩ hy => ?_) fun en hen t1 z => ?_))
  · rcases S.par y (List.of_mem_zip hy).1 with l | l
    · exact .inl l
    · exact .inr ⟨l, PySem.W.cellsFrom_some _ _ _ (.inl l)⟩
  · subst hen
    refine ⟨nol.keeps z.toInCall.keep, codeAny_func ?_⟩
    obtain ⟨u, hu, hq⟩ := hb cv B ou t H us Q E (r.deeper _) gd hs
    refine wpAny_mono (hu.nox.run [] t1 (start N us) H _ (inv_start S r.hd e0 (ln _ _ _ _ hs) va z) hq) (fun fl t' ht => ?_) fun _ _ ht => ht
    cases fl with
    | ret y =>
      obtain ⟨v, σ', H', J, rv, q⟩ := ht
      exact ⟨v, H', J.os, J.bare, J.base, J.hok, rv, q⟩
    | next =>
      obtain ⟨σ', H', J, q⟩ := ht
      exact ⟨.non, H', J.os, J.bare, J.base, J.hok, rfl, q⟩
    | brk => exact ht.elim fun _ z => z.elim fun _ z => z.2.elim
    | cont => exact ht.elim fun _ z => z.elim fun _ z => z.2.elim
end
section
variable {X : Cx}
theorem pe_callG {k : Nat} {f : Addr} {fd : FuncData} {ps : List Str} {sp : Sp} {x : Str} {p pos : Pos} {e : Expr} {es : List Expr} {t : TA} (F : FnG X.prog X.w X.K X.mg X.base k f fd ps sp) (hr : Room k X.A) (gd : X.A.guards = some []) (hg : Gl X x) (hm : X.mg x = some (.ref f)) (kp : PySem.W.keepIn X.K (.ref f) = true)
    (bd : Binds X.K fd ps []) (ha : PA X (e :: es) t) (hdb : (x == ("__debug__" : Str)) = false := by decide) (hst : starEach (e :: es) X.env = (false, eval e X.env) :: starEach es X.env := by rfl)
    (hpl : (backTo pos (starEach es X.env)).any (·.1) = false := by rfl) : PE X (.Call (.Name x p) (e :: es) [] pos) (tCall sp [] E0 t) := by
  refine ⟨fun pins s σ H Q I h => wpAny_Call_Name_kw (ld_glob I hg hm (PySem.W.callWith_K (h₀ := X.base) I.ok.mod.kin kp (thn (ha.run pos pins s σ H _ I h) fun ws s1 ⟨us, H1, J, va, q⟩ => ⟨J.kIn, ?_⟩) hst hpl) hdb)⟩
  have q : sp (us ++ []) H1 Q E0 := q
  rw [List.append_nil] at q
  have hl : (ws ++ []).length = ps.length := by rw [List.append_nil, ← va.length]; exact F.long _ _ _ _ q
  have bt := bd s1 ws J.kIn hl
  rw [List.append_nil] at bt
  refine wpAny_call (codeAny_mono (F.goes X.A X.stack s1 H1 ⟨ws, []⟩ ws us Q E0 hr gd J.env0 bt va q) fun r s' hq => ?_)
  match r, hq with
  | .ok (.ret _), hq => exact J.after hq
  | .ok .next, hq => exact False.elim hq
  | .ok .brk, hq => exact False.elim hq
  | .ok .cont, hq => exact False.elim hq
  | .error _, hq => exact False.elim hq
/-- repr of a thing made of lists, tuples, texts, numbers, truths and None -/
def rRepr (K : PySem.W.Frag) : List V → Hp → VK → Prop := fun xs H Q => ∃ (a : Addr) (d : PyData), xs = [.ref a] ∧ Dp K H (.ref a) d ∧ d.showable = true ∧ d.hasDict = false ∧ d.depth ≤ 60 ∧ d.shown.length ≤ sizeLine ∧ Q (.str d.shown) H
theorem call_reprD (gd : X.A.guards = some []) (hu : X.A.units + 64 < cLine) : CallR X (.builtin "repr") (rRepr X.K) := by
  intro pins s σ H xs us Q I va h
  obtain ⟨a, d, rfl, dp, h1, h2, h3, h4, q⟩ := h
  rw [Vals.ref1 va]
  obtain ⟨as, rd⟩ := Dp.reads I d (.ref a) (.ref a) dp rfl
  exact repr_of_reads' rd h1 (PyData.noDict_hsm h2) gd (by omega) (fun _ _ e => e) (fun h' u tk hk => ⟨.str _, H, I.kept hk, ⟨_, rfl⟩, q⟩) h4
end
/-! ### the text -/
def topS (i : Nat) : Stmt := PySem.Challenge.pw_evenstrand_k73_whole_strands_joined_and.main.body.getD i (.Pass ⟨0, 0, 0, 0⟩)
abbrev s_is_whole : Stmt := topS 1
abbrev N_is_whole : List Str := ["thing", "least"]
abbrev P_is_whole : List Str := ["thing", "least"]
theorem sc_is_whole : FnScope N_is_whole P_is_whole (defScope s_is_whole) := ⟨rfl, rfl, rfl, by decide +kernel, rfl, by decide +kernel, by decide +kernel⟩
abbrev s_is_tuple : Stmt := topS 2
abbrev N_is_tuple : List Str := ["thing", "fewest", "most"]
abbrev P_is_tuple : List Str := ["thing", "fewest", "most"]
theorem sc_is_tuple : FnScope N_is_tuple P_is_tuple (defScope s_is_tuple) := ⟨rfl, rfl, rfl, by decide +kernel, rfl, by decide +kernel, by decide +kernel⟩
abbrev s_is_step : Stmt := topS 5
abbrev N_is_step : List Str := ["thing"]
abbrev P_is_step : List Str := ["thing"]
theorem sc_is_step : FnScope N_is_step P_is_step (defScope s_is_step) := ⟨rfl, rfl, rfl, by decide +kernel, rfl, by decide +kernel, by decide +kernel⟩
abbrev s_are_steps : Stmt := topS 6
abbrev N_are_steps : List Str := ["thing", "ahead", "step"]
abbrev P_are_steps : List Str := ["thing"]
theorem sc_are_steps : FnScope N_are_steps P_are_steps (defScope s_are_steps) := ⟨rfl, rfl, rfl, by decide +kernel, rfl, by decide +kernel, by decide +kernel⟩
abbrev s_is_wisp : Stmt := topS 7
abbrev N_is_wisp : List Str := ["thing", "sort", "steps"]
abbrev P_is_wisp : List Str := ["thing"]
theorem sc_is_wisp : FnScope N_is_wisp P_is_wisp (defScope s_is_wisp) := ⟨rfl, rfl, rfl, by decide +kernel, rfl, by decide +kernel, by decide +kernel⟩
abbrev s_thick_at : Stmt := topS 8
abbrev N_thick_at : List Str := ["wisp", "k", "thickness", "long"]
abbrev P_thick_at : List Str := ["wisp", "k"]
theorem sc_thick_at : FnScope N_thick_at P_thick_at (defScope s_thick_at) := ⟨rfl, rfl, rfl, by decide +kernel, rfl, by decide +kernel, by decide +kernel⟩
abbrev s_tail : Stmt := topS 9
abbrev N_tail : List Str := ["wisp", "k", "sort", "steps", "kept", "thickness", "long"]
abbrev P_tail : List Str := ["wisp", "k"]
theorem sc_tail : FnScope N_tail P_tail (defScope s_tail) := ⟨rfl, rfl, rfl, by decide +kernel, rfl, by decide +kernel, by decide +kernel⟩
abbrev s_is_laid : Stmt := topS 12
abbrev N_is_laid : List Str := ["thing", "wisp", "at", "let"]
abbrev P_is_laid : List Str := ["thing"]
theorem sc_is_laid : FnScope N_is_laid P_is_laid (defScope s_is_laid) := ⟨rfl, rfl, rfl, by decide +kernel, rfl, by decide +kernel, by decide +kernel⟩
abbrev s_is_strand : Stmt := topS 13
abbrev N_is_strand : List Str := ["thing", "laid"]
abbrev P_is_strand : List Str := ["thing"]
theorem sc_is_strand : FnScope N_is_strand P_is_strand (defScope s_is_strand) := ⟨rfl, rfl, rfl, by decide +kernel, rfl, by decide +kernel, by decide +kernel⟩
abbrev s_thick_of : Stmt := topS 14
abbrev N_thick_of : List Str := ["laid", "p", "wisp", "at", "let"]
abbrev P_thick_of : List Str := ["laid", "p"]
theorem sc_thick_of : FnScope N_thick_of P_thick_of (defScope s_thick_of) := ⟨rfl, rfl, rfl, by decide +kernel, rfl, by decide +kernel, by decide +kernel⟩
abbrev s_parts_of : Stmt := topS 15
abbrev N_parts_of : List Str := ["laid", "wisp", "start", "let", "parts", "thickness", "long", "end"]
abbrev P_parts_of : List Str := ["laid"]
theorem sc_parts_of : FnScope N_parts_of P_parts_of (defScope s_parts_of) := ⟨rfl, rfl, rfl, by decide +kernel, rfl, by decide +kernel, by decide +kernel⟩
abbrev s_thicknesses_at : Stmt := topS 16
abbrev N_thicknesses_at : List Str := ["strand", "p", "laid"]
abbrev P_thicknesses_at : List Str := ["strand", "p"]
theorem sc_thicknesses_at : FnScope N_thicknesses_at P_thicknesses_at (defScope s_thicknesses_at) := ⟨rfl, rfl, rfl, by decide +kernel, rfl, by decide +kernel, by decide +kernel⟩
abbrev s_numbers_of : Stmt := topS 17
abbrev N_numbers_of : List Str := ["thicknesses", "number", "thickness"]
abbrev P_numbers_of : List Str := ["thicknesses"]
theorem sc_numbers_of : FnScope N_numbers_of P_numbers_of (defScope s_numbers_of) := ⟨rfl, rfl, rfl, by decide +kernel, rfl, by decide +kernel, by decide +kernel⟩
abbrev s_running : Stmt := topS 18
abbrev N_running : List Str := ["strand", "p"]
abbrev P_running : List Str := ["strand", "p"]
theorem sc_running : FnScope N_running P_running (defScope s_running) := ⟨rfl, rfl, rfl, by decide +kernel, rfl, by decide +kernel, by decide +kernel⟩
abbrev s_sorts_of : Stmt := topS 19
abbrev N_sorts_of : List Str := ["strand", "thicknesses", "first", "second", "laid", "thickness"]
abbrev P_sorts_of : List Str := ["strand", "thicknesses"]
theorem sc_sorts_of : FnScope N_sorts_of P_sorts_of (defScope s_sorts_of) := ⟨rfl, rfl, rfl, by decide +kernel, rfl, by decide +kernel, by decide +kernel⟩
abbrev s_by_sorts : Stmt := topS 20
abbrev N_by_sorts : List Str := ["strand", "p"]
abbrev P_by_sorts : List Str := ["strand", "p"]
theorem sc_by_sorts : FnScope N_by_sorts P_by_sorts (defScope s_by_sorts) := ⟨rfl, rfl, rfl, by decide +kernel, rfl, by decide +kernel, by decide +kernel⟩
abbrev s_thick : Stmt := topS 21
abbrev N_thick : List Str := ["strand", "p"]
abbrev P_thick : List Str := ["strand", "p"]
theorem sc_thick : FnScope N_thick P_thick (defScope s_thick) := ⟨rfl, rfl, rfl, by decide +kernel, rfl, by decide +kernel, by decide +kernel⟩
abbrev s_end_of : Stmt := topS 22
abbrev N_end_of : List Str := ["strand", "laid", "start", "end", "thickness"]
abbrev P_end_of : List Str := ["strand"]
theorem sc_end_of : FnScope N_end_of P_end_of (defScope s_end_of) := ⟨rfl, rfl, rfl, by decide +kernel, rfl, by decide +kernel, by decide +kernel⟩
abbrev s_weight_between : Stmt := topS 23
abbrev N_weight_between : List Str := ["strand", "a", "b", "weight", "laid", "start", "end", "thickness"]
abbrev P_weight_between : List Str := ["strand", "a", "b"]
theorem sc_weight_between : FnScope N_weight_between P_weight_between (defScope s_weight_between) := ⟨rfl, rfl, rfl, by decide +kernel, rfl, by decide +kernel, by decide +kernel⟩
abbrev s_let_by : Stmt := topS 25
abbrev N_let_by : List Str := ["laid", "p", "wisp", "at", "let"]
abbrev P_let_by : List Str := ["laid", "p"]
theorem sc_let_by : FnScope N_let_by P_let_by (defScope s_let_by) := ⟨rfl, rfl, rfl, by decide +kernel, rfl, by decide +kernel, by decide +kernel⟩
abbrev s_moved : Stmt := topS 26
abbrev N_moved : List Str := ["laid", "by", "wisp", "at", "let"]
abbrev P_moved : List Str := ["laid", "by"]
theorem sc_moved : FnScope N_moved P_moved (defScope s_moved) := ⟨rfl, rfl, rfl, by decide +kernel, rfl, by decide +kernel, by decide +kernel⟩
abbrev s_behind : Stmt := topS 27
abbrev N_behind : List Str := ["one", "other", "at", "laid"]
abbrev P_behind : List Str := ["one", "other", "at"]
theorem sc_behind : FnScope N_behind P_behind (defScope s_behind) := ⟨rfl, rfl, rfl, by decide +kernel, rfl, by decide +kernel, by decide +kernel⟩
abbrev s_cut_off : Stmt := topS 28
abbrev N_cut_off : List Str := ["strand", "p", "laid"]
abbrev P_cut_off : List Str := ["strand", "p"]
theorem sc_cut_off : FnScope N_cut_off P_cut_off (defScope s_cut_off) := ⟨rfl, rfl, rfl, by decide +kernel, rfl, by decide +kernel, by decide +kernel⟩
abbrev s_rest_from : Stmt := topS 29
abbrev N_rest_from : List Str := ["laid", "p", "wisp", "at", "let"]
abbrev P_rest_from : List Str := ["laid", "p"]
theorem sc_rest_from : FnScope N_rest_from P_rest_from (defScope s_rest_from) := ⟨rfl, rfl, rfl, by decide +kernel, rfl, by decide +kernel, by decide +kernel⟩
abbrev s_from_on : Stmt := topS 30
abbrev N_from_on : List Str := ["strand", "p", "kept", "laid"]
abbrev P_from_on : List Str := ["strand", "p"]
theorem sc_from_on : FnScope N_from_on P_from_on (defScope s_from_on) := ⟨rfl, rfl, rfl, by decide +kernel, rfl, by decide +kernel, by decide +kernel⟩
abbrev s_let_go : Stmt := topS 31
abbrev N_let_go : List Str := ["strand", "number", "p", "k", "laid"]
abbrev P_let_go : List Str := ["strand", "number", "p"]
theorem sc_let_go : FnScope N_let_go P_let_go (defScope s_let_go) := ⟨rfl, rfl, rfl, by decide +kernel, rfl, by decide +kernel, by decide +kernel⟩
abbrev s_changes_of : Stmt := topS 33
abbrev N_changes_of : List Str := ["strand", "changes", "number", "laid", "start", "end", "thickness"]
abbrev P_changes_of : List Str := ["strand"]
theorem sc_changes_of : FnScope N_changes_of P_changes_of (defScope s_changes_of) := ⟨rfl, rfl, rfl, by decide +kernel, rfl, by decide +kernel, by decide +kernel⟩
abbrev s_stretches : Stmt := topS 34
abbrev N_stretches : List Str := ["strand", "changes", "places", "thicknesses", "told", "start", "end", "number", "thickness"]
abbrev P_stretches : List Str := ["strand"]
theorem sc_stretches : FnScope N_stretches P_stretches (defScope s_stretches) := ⟨rfl, rfl, rfl, by decide +kernel, rfl, by decide +kernel, by decide +kernel⟩
abbrev s__law_blend : Stmt := topS 36
abbrev N__law_blend : List Str := ["_law_number", "_law_turn", "_law_seed", "_law_once"]
abbrev P__law_blend : List Str := ["_law_number", "_law_turn"]
theorem sc__law_blend : FnScope N__law_blend P__law_blend (defScope s__law_blend) := ⟨rfl, rfl, rfl, by decide +kernel, rfl, by decide +kernel, by decide +kernel⟩
abbrev s__law_pot : Stmt := topS 37
abbrev N__law_pot : List Str := ["_law_script"]
abbrev P__law_pot : List Str := ["_law_script"]
theorem sc__law_pot : FnScope N__law_pot P__law_pot (defScope s__law_pot) := ⟨rfl, rfl, rfl, by decide +kernel, rfl, by decide +kernel, by decide +kernel⟩
abbrev s__law_draw : Stmt := topS 38
abbrev N__law_draw : List Str := ["_law_pot_here", "_law_many", "_law_cell", "_law_digit"]
abbrev P__law_draw : List Str := ["_law_pot_here", "_law_many"]
theorem sc__law_draw : FnScope N__law_draw P__law_draw (defScope s__law_draw) := ⟨rfl, rfl, rfl, by decide +kernel, rfl, by decide +kernel, by decide +kernel⟩
abbrev s__law_pick : Stmt := topS 39
abbrev N__law_pick : List Str := ["_law_pot_here", "_law_some"]
abbrev P__law_pick : List Str := ["_law_pot_here", "_law_some"]
theorem sc__law_pick : FnScope N__law_pick P__law_pick (defScope s__law_pick) := ⟨rfl, rfl, rfl, by decide +kernel, rfl, by decide +kernel, by decide +kernel⟩
abbrev s__law_great : Stmt := topS 40
abbrev N__law_great : List Str := ["_law_pot_here", "_law_way", "_law_number", "_law_turn"]
abbrev P__law_great : List Str := ["_law_pot_here"]
theorem sc__law_great : FnScope N__law_great P__law_great (defScope s__law_great) := ⟨rfl, rfl, rfl, by decide +kernel, rfl, by decide +kernel, by decide +kernel⟩
abbrev s__law_wisp : Stmt := topS 41
abbrev N__law_wisp : List Str := ["_law_pot_here", "_law_most", "_law_small", "_law_many", "_law_steps", "_law_strong", "_law_turn", "_law_more"]
abbrev P__law_wisp : List Str := ["_law_pot_here", "_law_most", "_law_small"]
theorem sc__law_wisp : FnScope N__law_wisp P__law_wisp (defScope s__law_wisp) := ⟨rfl, rfl, rfl, by decide +kernel, rfl, by decide +kernel, by decide +kernel⟩
abbrev s__law_whole : Stmt := topS 42
abbrev N__law_whole : List Str := ["_law_thing"]
abbrev P__law_whole : List Str := ["_law_thing"]
theorem sc__law_whole : FnScope N__law_whole P__law_whole (defScope s__law_whole) := ⟨rfl, rfl, rfl, by decide +kernel, rfl, by decide +kernel, by decide +kernel⟩
abbrev s__law_same : Stmt := topS 43
abbrev N__law_same : List Str := ["_law_found", "_law_due", "_law_one", "_law_other"]
abbrev P__law_same : List Str := ["_law_found", "_law_due"]
theorem sc__law_same : FnScope N__law_same P__law_same (defScope s__law_same) := ⟨rfl, rfl, rfl, by decide +kernel, rfl, by decide +kernel, by decide +kernel⟩
abbrev s__law_strand : Stmt := topS 44
abbrev N__law_strand : List Str := ["_law_pot_here", "_law_most", "_law_small", "_law_many", "_law_found", "_law_turn", "_law_wisp_here", "_law_at_here", "_law_let", "_law_more"]
abbrev P__law_strand : List Str := ["_law_pot_here", "_law_most", "_law_small"]
theorem sc__law_strand : FnScope N__law_strand P__law_strand (defScope s__law_strand) := ⟨rfl, rfl, rfl, by decide +kernel, rfl, by decide +kernel, by decide +kernel⟩
abbrev s__law_parts : Stmt := topS 45
abbrev N__law_parts : List Str := ["_law_strand_here", "_law_found", "_law_wisp_here", "_law_at_here", "_law_let", "_law_mine", "_law_place", "_law_strong", "_law_long", "_law_last"]
abbrev P__law_parts : List Str := ["_law_strand_here"]
theorem sc__law_parts : FnScope N__law_parts P__law_parts (defScope s__law_parts) := ⟨rfl, rfl, rfl, by decide +kernel, rfl, by decide +kernel, by decide +kernel⟩
abbrev s__law_model : Stmt := topS 46
abbrev N__law_model : List Str := ["_law_strand_here", "_law_laid", "_law_mine"]
abbrev P__law_model : List Str := ["_law_strand_here"]
theorem sc__law_model : FnScope N__law_model P__law_model (defScope s__law_model) := ⟨rfl, rfl, rfl, by decide +kernel, rfl, by decide +kernel, by decide +kernel⟩
abbrev s__law_within : Stmt := topS 47
abbrev N__law_within : List Str := ["_law_parts_here", "_law_a", "_law_b", "_law_found", "_law_begin", "_law_last", "_law_strong", "_law_stop"]
abbrev P__law_within : List Str := ["_law_parts_here", "_law_a", "_law_b"]
theorem sc__law_within : FnScope N__law_within P__law_within (defScope s__law_within) := ⟨rfl, rfl, rfl, by decide +kernel, rfl, by decide +kernel, by decide +kernel⟩
abbrev s__law_moved : Stmt := topS 48
abbrev N__law_moved : List Str := ["_law_one", "_law_by", "_law_sort", "_law_at_here", "_law_parts_here", "_law_begin", "_law_last", "_law_strong"]
abbrev P__law_moved : List Str := ["_law_one", "_law_by"]
theorem sc__law_moved : FnScope N__law_moved P__law_moved (defScope s__law_moved) := ⟨rfl, rfl, rfl, by decide +kernel, rfl, by decide +kernel, by decide +kernel⟩
abbrev s__law_model_from : Stmt := topS 49
abbrev N__law_model_from : List Str := ["_law_model_here", "_law_p", "_law_found", "_law_sort", "_law_at_here", "_law_parts_here", "_law_rest"]
abbrev P__law_model_from : List Str := ["_law_model_here", "_law_p"]
theorem sc__law_model_from : FnScope N__law_model_from P__law_model_from (defScope s__law_model_from) := ⟨rfl, rfl, rfl, by decide +kernel, rfl, by decide +kernel, by decide +kernel⟩
abbrev s__law_at : Stmt := topS 50
abbrev N__law_at : List Str := ["_law_model_here", "_law_p", "_law_some", "_law_both", "_law_number", "_law_sort", "_law_at_here", "_law_parts_here", "_law_begin", "_law_last", "_law_strong"]
abbrev P__law_at : List Str := ["_law_model_here", "_law_p"]
theorem sc__law_at : FnScope N__law_at P__law_at (defScope s__law_at) := ⟨rfl, rfl, rfl, by decide +kernel, rfl, by decide +kernel, by decide +kernel⟩
abbrev s__law_borders : Stmt := topS 51
abbrev N__law_borders : List Str := ["_law_model_here", "_law_found", "_law_sort", "_law_at_here", "_law_parts_here", "_law_begin", "_law_last", "_law_strong"]
abbrev P__law_borders : List Str := ["_law_model_here"]
theorem sc__law_borders : FnScope N__law_borders P__law_borders (defScope s__law_borders) := ⟨rfl, rfl, rfl, by decide +kernel, rfl, by decide +kernel, by decide +kernel⟩
abbrev s__law_spot : Stmt := topS 52
abbrev N__law_spot : List Str := ["_law_pot_here", "_law_model_here", "_law_least", "_law_some", "_law_near"]
abbrev P__law_spot : List Str := ["_law_pot_here", "_law_model_here", "_law_least"]
theorem sc__law_spot : FnScope N__law_spot P__law_spot (defScope s__law_spot) := ⟨rfl, rfl, rfl, by decide +kernel, rfl, by decide +kernel, by decide +kernel⟩
abbrev s__law_right : Stmt := topS 53
abbrev N__law_right : List Str := ["_law_pot_here", "_law_strand_here", "_law_model_here", "_law_some", "_law_due", "_law_turn", "_law_p", "_law_here", "_law_weight", "_law_begin", "_law_last", "_law_who", "_law_both"]
abbrev P__law_right : List Str := ["_law_pot_here", "_law_strand_here", "_law_model_here"]
theorem sc__law_right : FnScope N__law_right P__law_right (defScope s__law_right) := ⟨rfl, rfl, rfl, by decide +kernel, rfl, by decide +kernel, by decide +kernel⟩
abbrev s__law_again : Stmt := topS 54
abbrev N__law_again : List Str := ["_law_strand_here", "_law_model_here", "_law_p", "_law_whole_here", "_law_begin"]
abbrev P__law_again : List Str := ["_law_strand_here", "_law_model_here", "_law_p"]
theorem sc__law_again : FnScope N__law_again P__law_again (defScope s__law_again) := ⟨rfl, rfl, rfl, by decide +kernel, rfl, by decide +kernel, by decide +kernel⟩
abbrev s__law_done : Stmt := topS 55
abbrev N__law_done : List Str := ["_law_pot_here", "_law_strand_here", "_law_model_here", "_law_small", "_law_way", "_law_p", "_law_sort", "_law_at_here", "_law_parts_here", "_law_kept", "_law_number", "_law_gone", "_law_other", "_law_one"]
abbrev P__law_done : List Str := ["_law_pot_here", "_law_strand_here", "_law_model_here", "_law_small"]
theorem sc__law_done : FnScope N__law_done P__law_done (defScope s__law_done) := ⟨rfl, rfl, rfl, by decide +kernel, rfl, by decide +kernel, by decide +kernel⟩
abbrev s_law : Stmt := topS 56
abbrev N_law : List Str := ["_law_script", "_law_pot_here", "_law_turn", "_law_small", "_law_strand_here", "_law_model_here", "_law_deed", "_law_before", "_law_later", "_law_model_later", "_law_p"]
abbrev P_law : List Str := ["_law_script"]
theorem sc_law : FnScope N_law P_law (defScope s_law) := ⟨rfl, rfl, rfl, by decide +kernel, rfl, by decide +kernel, by decide +kernel⟩
/-! ### the names that are still the built-in ones -/
structure Bi (mg : Str → Option Value) : Prop where
  m_len : mg "len" = none
  m_sum : mg "sum" = none
  m_abs : mg "abs" = none
  m_isinstance : mg "isinstance" = none
  m_max : mg "max" = none
  m_min : mg "min" = none
  m_tuple : mg "tuple" = none
  m_list : mg "list" = none
  m_int : mg "int" = none
  m_bool : mg "bool" = none
  m_range : mg "range" = none
  m_enumerate : mg "enumerate" = none
  m_zip : mg "zip" = none
  m_repr : mg "repr" = none
  m_str : mg "str" = none
  m_sorted : mg "sorted" = none
  m_set : mg "set" = none
  m_all : mg "all" = none
  m_any : mg "any" = none
  m_dict : mg "dict" = none
/-! ### a def as its callers use it -/
structure Cal (P : Program) (w : World) (K : PySem.W.Frag) (mg : Str → Option Value) (base : Heap) (x : Str) (ps : List Str) (k : Nat) (sp : Sp) (f : Addr) (fd : FuncData) : Prop where
  G : FnOk P w K mg base CX0 k f fd ps sp
  g : mg x = some (.ref f)
  kp : PySem.W.keepIn K (.ref f) = true
  b : Binds K fd ps []
structure CalG (P : Program) (w : World) (K : PySem.W.Frag) (mg : Str → Option Value) (base : Heap) (x : Str) (ps : List Str) (k : Nat) (sp : Sp) (f : Addr) (fd : FuncData) : Prop where
  G : FnG P w K mg base k f fd ps sp
  g : mg x = some (.ref f)
  kp : PySem.W.keepIn K (.ref f) = true
  b : Binds K fd ps []
/-! ### heaps -/
def Keep (p l : Addr) (H H' : Hp) : Prop := ∀ a o, a ≠ p → a ≠ l → H a = some o → H' a = some o
theorem Keep.refl {p l : Addr} {H : Hp} : Keep p l H H := fun _ _ _ _ h => h
theorem Keep.trans {p l : Addr} {H H1 H2 : Hp} (a : Keep p l H H1) (b : Keep p l H1 H2) : Keep p l H H2 := fun c o n1 n2 h => b c o n1 n2 (a c o n1 n2 h)
theorem Keep.new {p l : Addr} {H H1 : Hp} {a : Addr} {o : HO} (k : Keep p l H H1) (h : H1 a = none) : Keep p l H (upd H1 a o) := fun c u n1 n2 e => by
  have e1 := k c u n1 n2 e
  rw [upd_ne (ne_of_none e1 h)]
  exact e1
theorem Keep.own {p l : Addr} {H H1 : Hp} {o : HO} (k : Keep p l H H1) : Keep p l H (upd H1 p o) := fun c u n1 n2 e => by
  rw [upd_ne n1]
  exact k c u n1 n2 e
theorem Keep.own2 {p l : Addr} {H H1 : Hp} {o : HO} (k : Keep p l H H1) : Keep p l H (upd H1 l o) := fun c u n1 n2 e => by
  rw [upd_ne n2]
  exact k c u n1 n2 e
/-- an object that was not there at H may change -/
theorem Keep.mine {p l a : Addr} {H H1 : Hp} {o : HO} (k : Keep p l H H1) (h : H a = none) : Keep p l H (upd H1 a o) := fun c u n1 n2 e => by
  rw [upd_ne (ne_of_none e h)]
  exact k c u n1 n2 e
def Tups (H H' : Hp) : Prop := ∀ a xs, H a = some (.tup xs) → H' a = some (.tup xs)
theorem Tups.refl {H : Hp} : Tups H H := fun _ _ h => h
theorem Tups.trans {H H1 H2 : Hp} (a : Tups H H1) (b : Tups H1 H2) : Tups H H2 := fun c xs h => b c xs (a c xs h)
theorem Tups.new {H : Hp} {a : Addr} {o : HO} (h : H a = none) : Tups H (upd H a o) := fun c xs e => by
  rw [upd_ne (ne_of_none e h)]
  exact e
theorem Tups.ls {H : Hp} {a : Addr} {xs : List V} {o : HO} (h : H a = some (.lst xs)) : Tups H (upd H a o) := fun c ys e => by
  have n : c ≠ a := ne_of e h (by intro z; cases z)
  rw [upd_ne n]
  exact e
theorem Tups.same {H H' : Hp} (h : Same H H') : Tups H H' := fun a xs e => h a _ e
/-- the pot: the cells that are left, the great number at hand, the seed, how many were drawn -/
def Pot (H : Hp) (p l : Addr) (T : Nat) : Prop := ∃ (ns : List Int) (c m : Int) (t : Nat), H p = some (.lst [.ref l, .int c, .int m, .int (t : Int)]) ∧ H l = some (.lst (ns.map V.int)) ∧ 0 ≤ c ∧ t ≤ T ∧ ns.length ≤ 63
theorem Pot.ne {H : Hp} {p l : Addr} {T : Nat} (h : Pot H p l T) : p ≠ l := by
  obtain ⟨ns, c, m, t, h1, h2, _⟩ := h
  intro e
  rw [e, h2] at h1
  cases ns with
  | nil => exact absurd h1 (by intro z; cases z)
  | cons n r => exact absurd h1 (by intro z; cases z)
theorem Pot.mono {H : Hp} {p l : Addr} {T U : Nat} (h : Pot H p l T) (e : T ≤ U) : Pot H p l U := by
  obtain ⟨ns, c, m, t, h1, h2, h3, h4, h5⟩ := h
  exact ⟨ns, c, m, t, h1, h2, h3, Nat.le_trans h4 e, h5⟩
theorem Pot.new {H : Hp} {p l a : Addr} {T : Nat} {o : HO} (h : Pot H p l T) (n : H a = none) : Pot (upd H a o) p l T := by
  obtain ⟨ns, c, m, t, h1, h2, h3⟩ := h
  exact ⟨ns, c, m, t, by rw [upd_ne (ne_of_none h1 n)]; exact h1, by rw [upd_ne (ne_of_none h2 n)]; exact h2, h3⟩
theorem Pot.other {H : Hp} {p l a : Addr} {T : Nat} {o : HO} (h : Pot H p l T) (n1 : a ≠ p) (n2 : a ≠ l) : Pot (upd H a o) p l T := by
  obtain ⟨ns, c, m, t, h1, h2, h3⟩ := h
  exact ⟨ns, c, m, t, by rw [upd_ne n1.symm]; exact h1, by rw [upd_ne n2.symm]; exact h2, h3⟩
theorem Pot.notP {H : Hp} {p l a : Addr} {T : Nat} {xs : List V} (h : Pot H p l T) (e : H a = some (.tup xs)) : a ≠ p ∧ a ≠ l := by
  obtain ⟨ns, c, m, t, h1, h2, h3⟩ := h
  exact ⟨ne_of e h1 (by intro z; cases z), ne_of e h2 (by intro z; cases z)⟩
theorem Pot.fresh {H : Hp} {p l a : Addr} {T : Nat} (h : Pot H p l T) (e : H a = none) : a ≠ p ∧ a ≠ l := by
  obtain ⟨ns, c, m, t, h1, h2, h3⟩ := h
  exact ⟨(ne_of_none h1 e).symm, (ne_of_none h2 e).symm⟩
theorem Keep.tups {p l : Addr} {H H' : Hp} {T : Nat} (k : Keep p l H H') (h : Pot H p l T) : Tups H H' := fun a xs e => by
  obtain ⟨n1, n2⟩ := h.notP e
  exact k a _ n1 n2 e
/-! ### what is drawn -/
def spBlend : Sp := fun vs H Q _ => ∃ (n : Int) (t : Int), vs = [.int n, .int t] ∧ 0 ≤ t ∧ t < 2 ^ 62 ∧ ∀ r, Q (.int r) H
def spDraw : Sp := fun vs H Q _ => ∃ (p l : Addr) (T : Nat) (many : Int), vs = [.ref p, .int many] ∧ Pot H p l T ∧ T < 2 ^ 40 ∧ CDivW 0 many ∧
  ∀ d H', 0 ≤ d → d < many → Pot H' p l (T + 1) → Keep p l H H' → Q (.int d) H'
def spGreat : Sp := fun vs H Q _ => ∃ (p l : Addr) (T : Nat), vs = [.ref p] ∧ Pot H p l T ∧ T < 2 ^ 39 ∧
  ∀ d H', 0 ≤ d → d < 2 ^ 122 → Pot H' p l (T + 5) → Keep p l H H' → Q (.int d) H'
/-! ### tuples at addresses -/
def TupsAt (H : Hp) (as : List Addr) (xss : List (List V)) : Prop := as.length = xss.length ∧ ∀ (i : Nat) (a : Addr), as[i]? = some a → ∃ xs, xss[i]? = some xs ∧ H a = some (.tup xs)
theorem TupsAt.nil {H : Hp} : TupsAt H [] [] := ⟨rfl, fun i a h => by simp at h⟩
theorem TupsAt.mono {H H' : Hp} {as : List Addr} {xss : List (List V)} (h : TupsAt H as xss) (t : Tups H H') : TupsAt H' as xss := ⟨h.1, fun i a e => by
  obtain ⟨xs, h1, h2⟩ := h.2 i a e
  exact ⟨xs, h1, t a xs h2⟩⟩
theorem TupsAt.cons {H : Hp} {as : List Addr} {xss : List (List V)} {a : Addr} {xs : List V} (h : TupsAt H as xss) (e : H a = some (.tup xs)) : TupsAt H (a :: as) (xs :: xss) := by
  refine ⟨by simp [h.1], fun i b hb => ?_⟩
  cases i with
  | zero =>
    have : a = b := Option.some.inj hb
    subst this
    exact ⟨xs, rfl, e⟩
  | succ j => exact h.2 j b hb
theorem TupsAt.snoc {H : Hp} {as : List Addr} {xss : List (List V)} {a : Addr} {xs : List V} (h : TupsAt H as xss) (e : H a = some (.tup xs)) : TupsAt H (as ++ [a]) (xss ++ [xs]) := by
  refine ⟨by simp [h.1], fun i b hb => ?_⟩
  by_cases hi : i < as.length
  · rw [List.getElem?_append_left hi] at hb
    obtain ⟨ys, h1, h2⟩ := h.2 i b hb
    exact ⟨ys, by rw [List.getElem?_append_left (by rw [← h.1]; exact hi)]; exact h1, h2⟩
  · rw [List.getElem?_append_right (by omega)] at hb
    have hz : i - as.length = 0 := by
      cases hk : i - as.length with
      | zero => rfl
      | succ n =>
        rw [hk] at hb
        simp at hb
    rw [hz] at hb
    have : a = b := Option.some.inj hb
    subst this
    refine ⟨xs, ?_, e⟩
    rw [List.getElem?_append_right (by rw [← h.1]; omega), ← h.1, hz]
    rfl
theorem TupsAt.get {H : Hp} {as : List Addr} {xss : List (List V)} (h : TupsAt H as xss) {i : Nat} {v : V} (e : (as.map V.ref)[i]? = some v) : ∃ a xs, v = .ref a ∧ as[i]? = some a ∧ xss[i]? = some xs ∧ H a = some (.tup xs) := by
  rw [List.getElem?_map] at e
  cases q : as[i]? with
  | none =>
    rw [q] at e
    cases e
  | some a =>
    rw [q] at e
    have e' : V.ref a = v := Option.some.inj e
    obtain ⟨xs, h1, h2⟩ := h.2 i a q
    exact ⟨a, xs, e'.symm, rfl, h1, h2⟩
/-! ### wisps -/
abbrev stepV (p : Int × Int) : List V := [.int p.1, .int p.2]
def WispAt (H : Hp) (a : Addr) (s : Int) (ps : List (Int × Int)) : Prop := ∃ (st : Addr) (as : List Addr), H a = some (.tup [.int s, .ref st]) ∧ H st = some (.tup (as.map V.ref)) ∧ TupsAt H as (ps.map stepV)
theorem WispAt.mono {H H' : Hp} {a : Addr} {s : Int} {ps : List (Int × Int)} (h : WispAt H a s ps) (t : Tups H H') : WispAt H' a s ps := by
  obtain ⟨st, as, h1, h2, h3⟩ := h
  exact ⟨st, as, t _ _ h1, t _ _ h2, h3.mono t⟩
theorem step_get {H : Hp} {as : List Addr} {ps : List (Int × Int)} (h : TupsAt H as (ps.map stepV)) {i : Nat} {v : V} (e : (as.map V.ref)[i]? = some v) : ∃ a t g, v = .ref a ∧ ps[i]? = some (t, g) ∧ H a = some (.tup [.int t, .int g]) := by
  obtain ⟨a, xs, h1, _, h2, h3⟩ := h.get e
  rw [List.getElem?_map] at h2
  cases q : ps[i]? with
  | none =>
    rw [q] at h2
    cases h2
  | some p =>
    rw [q] at h2
    have e' : stepV p = xs := Option.some.inj h2
    subst e'
    exact ⟨a, p.1, p.2, h1, rfl, h3⟩
def Good (ps : List (Int × Int)) : Prop := 1 ≤ ps.length ∧ ps.length ≤ 10 ∧ ∀ p ∈ ps, 1 ≤ p.1 ∧ p.1 < 2 ^ 200 ∧ 1 ≤ p.2 ∧ p.2 < 2 ^ 200
def Falls (ps : List (Int × Int)) : Prop := ps.Pairwise (fun a b => b.1 < a.1)
def Small (ps : List (Int × Int)) : Prop := ∀ p ∈ ps, p.1 ≤ 1000 ∧ p.2 ≤ 3
def spPot (K : PySem.W.Frag) : Sp := fun vs H Q _ => ∃ (a : Addr) (ns : List Int), vs = [.ref a] ∧ SqL K H a (ns.map V.int) ∧ ns.length ≤ 63 ∧
  ∀ H' p l, Same H H' → H p = none → H l = none → Pot H' p l 0 → Q (.ref p) H'
def spWisp : Sp := fun vs H Q _ => ∃ (p l : Addr) (T : Nat) (most : Int) (small : Bool), vs = [.ref p, .int most, .bl small] ∧ Pot H p l T ∧ T < 2 ^ 38 ∧ 1 ≤ most ∧ most ≤ 10 ∧
  ∀ H' a s ps, Pot H' p l (T + 150) → Keep p l H H' → WispAt H' a s ps → 0 ≤ s → s ≤ 1 → Good ps → (ps.length : Int) ≤ most → Falls ps → (small = true → Small ps) → H a = none → Q (.ref a) H'
def spWhole : Sp := fun vs H Q _ => ∃ i : Int, vs = [.int i] ∧ Q (.bl true) H
theorem Keep.free {p l a : Addr} {H H' : Hp} {T : Nat} (k : Keep p l H H') (hp : Pot H' p l T) (h : H' a = none) : H a = none := by
  obtain ⟨n1, n2⟩ := hp.fresh h
  cases q : H a with
  | none => rfl
  | some o =>
    rw [k a o n1 n2 q] at h
    cases h
/-! ### the mirrors -/
def longs (ps : List (Int × Int)) : Int := (ps.map (·.2)).sum
def weigh (ps : List (Int × Int)) : Int := (ps.map fun p => p.1 * p.2).sum
def thickAt : List (Int × Int) → Int → Int
  | [], _ => 0
  | (t, g) :: r, k => if k < g then t else thickAt r (k - g)
abbrev rowV (t : Int × Int × Int) : List V := [.int t.1, .int t.2.1, .int t.2.2]
def tableOf : Int → List (Int × Int) → List (Int × Int × Int)
  | _, [] => []
  | b, (t, g) :: r => (b, b + g, t) :: tableOf (b + g) r
def inRow (k : Int) (t : Int × Int × Int) : Bool := decide (t.1 ≤ k) && decide (k < t.2.1)
def strongOf (k : Int) (ts : List (Int × Int × Int)) : Int := ((ts.filter (inRow k)).map (·.2.2)).sum
theorem longs_nonneg : ∀ {ps : List (Int × Int)}, (∀ p ∈ ps, 1 ≤ p.2) → 0 ≤ longs ps
  | [], _ => by decide
  | p :: r, h => by
    have h1 := h p (by simp)
    have h2 := longs_nonneg (ps := r) fun x hx => h x (by simp [hx])
    unfold longs at *
    rw [List.map_cons, List.sum_cons]
    omega
theorem longs_cons {p : Int × Int} {r : List (Int × Int)} : longs (p :: r) = p.2 + longs r := by
  unfold longs
  rw [List.map_cons, List.sum_cons]
theorem weigh_cons {p : Int × Int} {r : List (Int × Int)} : weigh (p :: r) = p.1 * p.2 + weigh r := by
  unfold weigh
  rw [List.map_cons, List.sum_cons]
theorem table_len : ∀ (ps : List (Int × Int)) (b : Int), (tableOf b ps).length = ps.length
  | [], _ => rfl
  | (t, g) :: r, b => by
    show (tableOf (b + g) r).length + 1 = r.length + 1
    rw [table_len r]
theorem table_get : ∀ (ps : List (Int × Int)) (b : Int) (i : Nat) (t g : Int), ps[i]? = some (t, g) → (tableOf b ps)[i]? = some (b + longs (ps.take i), b + longs (ps.take (i + 1)), t)
  | [], _, _, _, _, h => by simp at h
  | (t', g') :: r, b, 0, t, g, h => by
    have e := Option.some.inj h
    obtain ⟨rfl, rfl⟩ := Prod.mk.inj e
    show some (b, b + g', t') = some (b + longs [], b + longs [(t', g')], t')
    unfold longs
    simp
  | (t', g') :: r, b, i + 1, t, g, h => by
    show (tableOf (b + g') r)[i]? = some (b + longs ((t', g') :: r.take i), b + longs ((t', g') :: r.take (i + 1)), t)
    rw [table_get r (b + g') i t g h, longs_cons, longs_cons]
    simp only [Int.add_assoc]
theorem strong_cons {k : Int} {t : Int × Int × Int} {ts : List (Int × Int × Int)} : strongOf k (t :: ts) = (if inRow k t = true then t.2.2 else 0) + strongOf k ts := by
  unfold strongOf
  rw [List.filter_cons]
  split
  · rw [List.map_cons, List.sum_cons]
  · rw [Int.zero_add]
theorem strong_table : ∀ (ps : List (Int × Int)) (b k : Int), (∀ p ∈ ps, 1 ≤ p.2) → strongOf k (tableOf b ps) = if k < b then 0 else thickAt ps (k - b)
  | [], b, k, _ => by
    show (0 : Int) = if k < b then 0 else 0
    split <;> rfl
  | (t, g) :: r, b, k, h => by
    have hg : 1 ≤ g := h (t, g) (by simp)
    have ih := strong_table r (b + g) k fun x hx => h x (by simp [hx])
    show strongOf k ((b, b + g, t) :: tableOf (b + g) r) = if k < b then 0 else if k - b < g then t else thickAt r (k - b - g)
    rw [strong_cons, ih]
    have e : k - b - g = k - (b + g) := by omega
    rw [e]
    by_cases h1 : k < b
    · rw [if_pos h1, if_pos (show k < b + g by omega), if_neg]
      · rfl
      · intro z
        have := (Bool.and_eq_true_iff.mp z).1
        have := of_decide_eq_true this
        simp only at this
        omega
    · by_cases h2 : k - b < g
      · rw [if_neg h1, if_pos h2, if_pos (show k < b + g by omega), if_pos]
        · show t + 0 = t
          omega
        · exact Bool.and_eq_true_iff.mpr ⟨decide_eq_true (show b ≤ k by omega), decide_eq_true (show k < b + g by omega)⟩
      · rw [if_neg h1, if_neg h2, if_neg (show ¬ k < b + g by omega), if_neg]
        · omega
        · intro z
          have := of_decide_eq_true (Bool.and_eq_true_iff.mp z).2
          simp only at this
          omega
def dueOf (ts : List (Int × Int × Int)) : Int := (ts.map fun t => (t.2.1 - t.1) * t.2.2).sum
theorem due_table : ∀ (ps : List (Int × Int)) (b : Int), dueOf (tableOf b ps) = weigh ps
  | [], _ => rfl
  | (t, g) :: r, b => by
    have ih := due_table r (b + g)
    show ((b, b + g, t) :: tableOf (b + g) r |>.map fun t => (t.2.1 - t.1) * t.2.2).sum = weigh ((t, g) :: r)
    rw [weigh_cons, List.map_cons, List.sum_cons, ← ih]
    show (b + g - b) * t + dueOf _ = t * g + dueOf _
    rw [show b + g - b = g by omega, Int.mul_comm]
def sumTo (n : Nat) (f : Int → Int) : Int := ((List.range n).map fun (i : Nat) => f (i : Int)).sum
theorem sumTo_succ (n : Nat) (f : Int → Int) : sumTo (n + 1) f = sumTo n f + f n := by
  unfold sumTo
  rw [List.range_succ, List.map_append, List.sum_append]
  simp
theorem sumTo_const (t : Int) : ∀ n : Nat, sumTo n (fun _ => t) = n * t
  | 0 => by simp [sumTo]
  | n + 1 => by
    rw [sumTo_succ, sumTo_const t n, Int.natCast_add, Int.add_mul]
    simp
theorem sumTo_add (f : Int → Int) (n : Nat) : ∀ m : Nat, sumTo (n + m) f = sumTo n f + sumTo m (fun k => f (n + k))
  | 0 => by simp [sumTo]
  | m + 1 => by
    rw [← Nat.add_assoc, sumTo_succ, sumTo_succ, sumTo_add f n m, Int.natCast_add, Int.add_assoc]
theorem sumTo_congr {f g : Int → Int} : ∀ n : Nat, (∀ i : Nat, i < n → f i = g i) → sumTo n f = sumTo n g
  | 0, _ => rfl
  | n + 1, h => by
    rw [sumTo_succ, sumTo_succ, sumTo_congr n (fun i hi => h i (by omega)), h n (by omega)]
theorem sumTo_thick : ∀ (ps : List (Int × Int)) (n : Nat), (∀ p ∈ ps, 1 ≤ p.2) → longs ps ≤ n → sumTo n (thickAt ps) = weigh ps
  | [], n, _, _ => by
    rw [show thickAt [] = fun _ => 0 from funext fun _ => rfl, sumTo_const]
    simp [weigh]
  | (t, g) :: r, n, h, hl => by
    have hg : 1 ≤ g := h (t, g) (by simp)
    rw [longs_cons] at hl
    have hl : g + longs r ≤ n := hl
    have h0 := longs_nonneg (ps := r) fun x hx => h x (by simp [hx])
    obtain ⟨G, rfl⟩ : ∃ G : Nat, g = G := ⟨g.toNat, by omega⟩
    obtain ⟨m, rfl⟩ : ∃ m : Nat, n = G + m := ⟨n - G, by omega⟩
    rw [sumTo_add, weigh_cons]
    have ih := sumTo_thick r m (fun x hx => h x (by simp [hx])) (by omega)
    have e1 : sumTo G (thickAt ((t, (G : Int)) :: r)) = G * t := by
      rw [← sumTo_const t G]
      refine sumTo_congr G fun i hi => ?_
      show (if (i : Int) < G then t else _) = t
      rw [if_pos (by omega)]
    have e2 : sumTo m (fun k => thickAt ((t, (G : Int)) :: r) (G + k)) = sumTo m (thickAt r) := by
      refine sumTo_congr m fun i _ => ?_
      show (if (G : Int) + i < G then t else thickAt r ((G : Int) + i - G)) = thickAt r i
      rw [if_neg (by omega), show (G : Int) + i - G = i by omega]
    rw [e1, e2, ih, Int.mul_comm]
theorem take_map_succ {α β : Type} {l : List α} {i : Nat} {x : α} (f : α → β) (h : l[i]? = some x) : (l.take (i + 1)).map f = (l.take i).map f ++ [f x] := by
  rw [List.take_add_one, h, List.map_append]
  rfl
theorem longs_take {ps : List (Int × Int)} {i : Nat} {t g : Int} (h : ps[i]? = some (t, g)) : longs (ps.take (i + 1)) = longs (ps.take i) + g := by
  unfold longs
  rw [take_map_succ _ h, List.sum_append]
  simp
theorem Same.wisp {H H' : Hp} {a : Addr} {s : Int} {ps : List (Int × Int)} (e : Same H H') (h : WispAt H a s ps) : WispAt H' a s ps := h.mono (Tups.same e)
theorem same_new {H H1 : Hp} {p : Addr} {o : HO} (k : Same H H1) (h : H1 p = none) : Same H (upd H1 p o) := fun b x e => by
  have e1 := k b x e
  rw [upd_ne (ne_of_none e1 h)]
  exact e1
theorem same_mine {H H1 : Hp} {p : Addr} {o : HO} (k : Same H H1) (h : H p = none) : Same H (upd H1 p o) := fun b x e => by
  rw [upd_ne (ne_of_none e h)]
  exact k b x e
theorem Same.free' {H H' : Hp} (e : Same H H') {l : Addr} (h : H' l = none) : H l = none := Same.free e h
theorem mul_ok {ps : List (Int × Int)} (h : Good ps) {i : Nat} {t g : Int} (e : ps[i]? = some (t, g)) : CMulW t g := by
  obtain ⟨_, _, h3⟩ := h
  have := h3 (t, g) (List.mem_of_getElem? e)
  refine wide_mul (a := 200) (b := 200) ?_ ?_ (by decide) (by decide) (by decide)
  · have h1 : t < 2 ^ 200 := this.2.1
    have h0 : 1 ≤ t := this.1
    have h2 : (t.natAbs : Int) = t := by omega
    have h3 : (t.natAbs : Int) < ((2 ^ 200 : Nat) : Int) := by rw [h2]; exact h1
    exact Int.ofNat_lt.mp h3
  · have h1 : g < 2 ^ 200 := this.2.2.2
    have h0 : 1 ≤ g := this.2.2.1
    have h2 : (g.natAbs : Int) = g := by omega
    have h3 : (g.natAbs : Int) < ((2 ^ 200 : Nat) : Int) := by rw [h2]; exact h1
    exact Int.ofNat_lt.mp h3
def spLen : Sp := fun vs H Q _ => ∃ (a : Addr) (s : Int) (ps : List (Int × Int)), vs = [.ref a] ∧ WispAt H a s ps ∧ Good ps ∧ ∀ H', Same H H' → Q (.int (longs ps)) H'
def spWeight : Sp := fun vs H Q _ => ∃ (a : Addr) (s : Int) (ps : List (Int × Int)), vs = [.ref a] ∧ WispAt H a s ps ∧ Good ps ∧ ∀ H', Same H H' → Q (.int (weigh ps)) H'
def spThick : Sp := fun vs H Q _ => ∃ (a : Addr) (s : Int) (ps : List (Int × Int)) (k : Int), vs = [.ref a, .int k] ∧ WispAt H a s ps ∧ Q (.int (thickAt ps k)) H
def TableAt (H : Hp) (o : Addr) (ts : List (Int × Int × Int)) : Prop := ∃ as, H o = some (.lst (as.map V.ref)) ∧ TupsAt H as (ts.map rowV)
def spTable : Sp := fun vs H Q _ => ∃ (a : Addr) (s : Int) (ps : List (Int × Int)), vs = [.ref a] ∧ WispAt H a s ps ∧ ps.length ≤ 10 ∧ ∀ H' o, Same H H' → H o = none → TableAt H' o (tableOf 0 ps) → Q (.ref o) H'
def spStrong : Sp := fun vs H Q _ => ∃ (a : Addr) (s : Int) (ps : List (Int × Int)) (k : Int), vs = [.ref a, .int k] ∧ WispAt H a s ps ∧ Good ps ∧ 0 ≤ k ∧ ∀ H', Same H H' → Q (.int (thickAt ps k)) H'
def spSpots : Sp := fun vs H Q _ => ∃ (p l : Addr) (T : Nat) (a : Addr) (s : Int) (ps : List (Int × Int)), vs = [.ref p, .ref a] ∧ Pot H p l T ∧ T < 2 ^ 38 ∧ WispAt H a s ps ∧ Good ps ∧
  ∀ (H' : Hp) (o : Addr) (ns : List Int), Pot H' p l (T + 10) → Keep p l H H' → H o = none → H' o = some (.lst (ns.map V.int)) → (∀ n ∈ ns, (0 : Int) ≤ n) → ns.length ≤ 100 → Q (.ref o) H'
theorem row_get {H : Hp} {as : List Addr} {ts : List (Int × Int × Int)} (h : TupsAt H as (ts.map rowV)) {i : Nat} {v : V} (e : (as.map V.ref)[i]? = some v) : ∃ a b c d, v = .ref a ∧ ts[i]? = some (b, c, d) ∧ H a = some (.tup [.int b, .int c, .int d]) := by
  obtain ⟨a, xs, h1, _, h2, h3⟩ := h.get e
  rw [List.getElem?_map] at h2
  cases q : ts[i]? with
  | none =>
    rw [q] at h2
    cases h2
  | some p =>
    rw [q] at h2
    have e' : rowV p = xs := Option.some.inj h2
    subst e'
    exact ⟨a, p.1, p.2.1, p.2.2, h1, rfl, h3⟩
theorem yesIte {σ : L2.St} {H : Hp} {A B : Hp → Prop} (h : A H) : tYes σ H (fun b H3 => if b = true then A H3 else B H3) := by
  show if true = true then A H else B H
  rw [if_pos rfl]
  exact h
def spRight : Sp := fun vs H Q _ => ∃ (p l : Addr) (T : Nat) (a : Addr) (s : Int) (ps : List (Int × Int)) (small : Bool), vs = [.ref p, .ref a, .bl small] ∧ Pot H p l T ∧ T < 2 ^ 37 ∧ WispAt H a s ps ∧ Good ps ∧ (small = true → Small ps) ∧
  ∀ (H' : Hp), Pot H' p l (T + 15) → Keep p l H H' → Q (.bl true) H'
theorem Pot.same {H H' : Hp} {p l : Addr} {T : Nat} (h : Pot H p l T) (e : Same H H') : Pot H' p l T := by
  obtain ⟨ns, c, m, t, h1, h2, h3⟩ := h
  exact ⟨ns, c, m, t, e _ _ h1, e _ _ h2, h3⟩
theorem Same.keep {p l : Addr} {H H' : Hp} (e : Same H H') : Keep p l H H' := fun c o _ _ h => e c o h
theorem WispAt.keep {p l : Addr} {H H' : Hp} {T : Nat} {a : Addr} {s : Int} {ps : List (Int × Int)} (h : WispAt H a s ps) (k : Keep p l H H') (hp : Pot H p l T) : WispAt H' a s ps := h.mono (k.tups hp)
theorem longs_small : ∀ {ps : List (Int × Int)}, Small ps → longs ps ≤ 3 * ps.length
  | [], _ => by decide
  | p :: r, h => by
    have h1 := h p (by simp)
    have h2 := longs_small (ps := r) fun x hx => h x (by simp [hx])
    rw [longs_cons, List.length_cons]
    omega
theorem table_last : ∀ (ps : List (Int × Int)) (b : Int), ps ≠ [] → ∃ b' t, (tableOf b ps).getLast? = some (b', b + longs ps, t)
  | [], _, h => absurd rfl h
  | [(t, g)], b, _ => ⟨b, t, by
    show some (b, b + g, t) = some (b, b + longs [(t, g)], t)
    rw [longs_cons]
    show some (b, b + g, t) = some (b, b + (g + 0), t)
    rw [Int.add_zero]⟩
  | (t, g) :: x :: r, b, _ => by
    obtain ⟨b', t', h⟩ := table_last (x :: r) (b + g) (by simp)
    refine ⟨b', t', ?_⟩
    have e : tableOf b ((t, g) :: x :: r) = (b, b + g, t) :: tableOf (b + g) (x :: r) := rfl
    have e2 : ∃ y ys, tableOf (b + g) (x :: r) = y :: ys := ⟨_, _, rfl⟩
    obtain ⟨y, ys, e2⟩ := e2
    rw [e, e2, List.getLast?_cons_cons, ← e2, h, longs_cons (p := (t, g)), Int.add_assoc]
theorem mulw_symm {i j : Int} (h : CMulW i j) : CMulW j i := by
  unfold CMulW at *
  omega
theorem iteNT {A B : Prop} (h : B) : if (!true) = true then A else B := by
  rw [if_neg (by decide)]
  exact h
def spLaw (K : PySem.W.Frag) : Sp := fun vs H Q _ => ∃ (a : Addr) (ns : List Int), vs = [.ref a] ∧ SqL K H a (ns.map V.int) ∧ ns.length ≤ 63 ∧ ∀ H', Q (.bl true) H'
/-! ### things made of tuples and whole numbers, looked at part by part -/
theorem lcZip {K : PySem.W.Frag} {a b : Addr} {xs ys : List V} {g : TG} {tt : TT} {te : TE} {us : List Nat} {σ : L2.St} {H1 : Hp} {D : Addr} {Qd : Hp → Prop} (hl : xs.length = ys.length) (Pv : Nat → Hp → Prop) (h0 : Pv 0 (upd H1 D (.lst []))) (hq : ∀ i H, Pv i H → SqT K H a xs ∧ SqT K H b ys)
    (hs : ∀ i x y T H, xs[i]? = some x → ys[i]? = some y → H T = none → Pv i H → g (.ref T) (wipe σ us) (upd H T (.tup [x, y])) fun σ2 H2 => wipe σ2 us = wipe σ us ∧ tt σ2 H2 fun c H3 =>
      if c = true then te σ2 H3 fun y H4 => ∃ acc, H4 D = some (.lst acc) ∧ acc.length < sizeLine ∧ Pv (i + 1) (upd H4 D (.lst (acc ++ [y]))) else Pv (i + 1) H3) (hd : ∀ H, Pv xs.length H → Qd H) :
    ∃ W : Nat → Nat → Hp → Prop, (∃ m, W 0 m (upd H1 D (.lst []))) ∧ ∀ i m H, W i m H →
      ((RZ.ItzT K a b).stop i H ∧ Qd H) ∨ ((RZ.ItzT K a b).go i H ∧ ∃ Nx : Hp → Prop, (∀ H', Nx H' → ∃ m', m' < m ∧ W (i + 1) m' H') ∧ ∀ x H', (RZ.ItzT K a b).yld i H x H' → g x (wipe σ us) H' fun σ2 H2 => wipe σ2 us = wipe σ us ∧ tt σ2 H2 fun c H3 =>
        if c = true then te σ2 H3 fun y H4 => ∃ acc, H4 D = some (.lst acc) ∧ acc.length < sizeLine ∧ Nx (upd H4 D (.lst (acc ++ [y]))) else Nx H3) := by
  refine ⟨fun i m H => i + m = xs.length ∧ Pv i H, ⟨xs.length, Nat.zero_add _, h0⟩, fun i m H ⟨em, p⟩ => ?_⟩
  obtain ⟨q1, q2⟩ := hq i H p
  by_cases hi : i < xs.length
  · have g1 : xs[i]? = some xs[i] := List.getElem?_eq_getElem hi
    have g2 : ys[i]? = some (ys[i]'(by omega)) := List.getElem?_eq_getElem (by omega)
    refine .inr ⟨⟨xs, ys, _, _, q1, q2, g1, g2⟩, Pv (i + 1), fun H' p' => ⟨m - 1, by omega, by omega, p'⟩, fun v H' hy => ?_⟩
    obtain ⟨T, x, y, rfl, nT, rfl, f1, f2⟩ := hy
    exact hs i x y T H (f1 _ q1) (f2 _ q2) nT p
  · have e : i = xs.length := by omega
    subst e
    exact .inl ⟨⟨xs, ys, q1, q2, .inl (Nat.le_refl _)⟩, hd H p⟩
theorem sqt_ty {K : PySem.W.Frag} {H : Hp} {a : Addr} {xs : List V} (h : SqT K H a xs) : TyX K H (.ref a) (.type "tuple") := by
  rcases h with (h | ⟨o, h⟩) | ⟨o, its, n, hk, hc, _⟩
  · exact .base (.tup h)
  · exact .fTuple h
  · exact .kTuple hk hc
theorem Same.sqt {K : PySem.W.Frag} {H H' : Hp} {a : Addr} {xs : List V} (e : Same H H') (h : SqT K H a xs) : SqT K H' a xs := by
  rcases h with (h | ⟨o, h⟩) | h
  · exact .inl (.inl (e _ _ h))
  · exact .inl (.inr ⟨o, e _ _ h⟩)
  · exact .inr h
inductive TI : PyData → Prop where
  | int (i : Int) : TI (.int i)
  | tup {xs : List PyData} (h : ∀ x ∈ xs, TI x) (hl : xs.length ≤ 5000) : TI (.tuple xs)
theorem depth_mem : ∀ {xs : List PyData} {x : PyData}, x ∈ xs → x.depth ≤ PyData.depthAll xs
  | y :: r, x, h => by
    show x.depth ≤ max y.depth (PyData.depthAll r)
    rcases List.mem_cons.mp h with rfl | h
    · exact Nat.le_max_left _ _
    · exact Nat.le_trans (depth_mem h) (Nat.le_max_right _ _)
mutual
theorem Dp.same {K : PySem.W.Frag} {H H' : Hp} (e : Same H H') : ∀ {v : V} (d : PyData), Dp K H v d → Dp K H' v d
  | _, .none, .non => .non
  | _, .bool _, .bl _ => .bl _
  | _, .int _, .int _ => .int _
  | _, .str _, .str _ => .str _
  | _, .list ds, .lst h a => .lst (e.seq h) (DpAll.same e ds a)
  | _, .tuple ds, .tup h a => .tup (Same.sqt e h) (DpAll.same e ds a)
theorem DpAll.same {K : PySem.W.Frag} {H H' : Hp} (e : Same H H') : ∀ {vs : List V} (ds : List PyData), DpAll K H vs ds → DpAll K H' vs ds
  | _, [], .nil => .nil
  | _, d :: ds, .cons h a => .cons (Dp.same e d h) (DpAll.same e ds a)
end
theorem DpAll.len {K : PySem.W.Frag} {H : Hp} : ∀ {vs : List V} {ds : List PyData}, DpAll K H vs ds → vs.length = ds.length
  | _, _, .nil => rfl
  | _, _, .cons _ a => congrArg (· + 1) (DpAll.len a)
theorem DpAll.at {K : PySem.W.Frag} {H : Hp} : ∀ {vs : List V} {ds : List PyData} {i : Nat} {v : V}, DpAll K H vs ds → vs[i]? = some v → ∃ d, ds[i]? = some d ∧ Dp K H v d
  | _, _, _, _, .nil, h => by simp at h
  | _, _, 0, v, .cons h a, e => ⟨_, rfl, by have e' := Option.some.inj e; rw [← e']; exact h⟩
  | _, _, i + 1, v, .cons h a, e => DpAll.at (i := i) a e
def spSame (K : PySem.W.Frag) (n : Nat) : Sp := fun vs H Q _ => ∃ (x y : V) (d : PyData), vs = [x, y] ∧ TI d ∧ d.depth < n ∧ Dp K H x d ∧ Dp K H y d ∧ ∀ H', Same H H' → Q (.bl true) H'
def wispD (s : Int) (ps : List (Int × Int)) : PyData := .tuple [.int s, .tuple (ps.map fun p => .tuple [.int p.1, .int p.2])]
theorem wisp_ti {s : Int} {ps : List (Int × Int)} (h : ps.length ≤ 5000) : TI (wispD s ps) := by
  refine .tup (fun x hx => ?_) (by show 2 ≤ 5000; decide)
  simp only [List.mem_cons, List.not_mem_nil, or_false] at hx
  rcases hx with rfl | rfl
  · exact .int _
  · refine .tup (fun x hx => ?_) (by rw [List.length_map]; exact h)
    obtain ⟨p, _, rfl⟩ := List.mem_map.mp hx
    refine .tup (fun x hx => ?_) (by show 2 ≤ 5000; decide)
    simp only [List.mem_cons, List.not_mem_nil, or_false] at hx
    rcases hx with rfl | rfl
    · exact .int _
    · exact .int _
theorem wisp_depth (s : Int) (ps : List (Int × Int)) : (wispD s ps).depth ≤ 3 := by
  have h : PyData.depthAll (ps.map fun p => PyData.tuple [.int p.1, .int p.2]) ≤ 1 := by
    induction ps with
    | nil => decide
    | cons p r ih => exact Nat.max_le.mpr ⟨by show max 0 (max 0 0) + 1 ≤ 1; decide, ih⟩
  show max 0 (max (PyData.depthAll (ps.map fun p => PyData.tuple [.int p.1, .int p.2]) + 1) 0) + 1 ≤ 3
  omega
theorem tups_dp {K : PySem.W.Frag} {H : Hp} : ∀ {as : List Addr} {ps : List (Int × Int)}, TupsAt H as (ps.map stepV) → DpAll K H (as.map V.ref) (ps.map fun p => .tuple [.int p.1, .int p.2])
  | [], [], _ => .nil
  | [], p :: r, h => absurd h.1 (by simp)
  | a :: r, [], h => absurd h.1 (by simp)
  | a :: as, p :: ps, h => by
    obtain ⟨xs, h1, h2⟩ := h.2 0 a rfl
    have e : stepV p = xs := Option.some.inj h1
    subst e
    exact .cons (.tup (SqT.of h2) (.cons (.int _) (.cons (.int _) .nil))) (tups_dp ⟨Nat.succ.inj (by simpa using h.1), fun i b hb => h.2 (i + 1) b hb⟩)
theorem WispAt.dp {K : PySem.W.Frag} {H : Hp} {a : Addr} {s : Int} {ps : List (Int × Int)} (h : WispAt H a s ps) : Dp K H (.ref a) (wispD s ps) := by
  obtain ⟨st, as, h1, h2, h3⟩ := h
  exact .tup (SqT.of h1) (.cons (.int s) (.cons (.tup (SqT.of h2) (tups_dp h3)) .nil))
/-! ### how long what repr tells is -/
/-- all numbers of a thing are below 2 ^ 400 -/
inductive Sh : PyData → Prop where
  | non : Sh .none
  | bl (b : Bool) : Sh (.bool b)
  | int {i : Int} (h : i.natAbs.log2 < 400) : Sh (.int i)
  | lst {xs : List PyData} (h : ∀ x ∈ xs, Sh x) : Sh (.list xs)
  | tup {xs : List PyData} (h : ∀ x ∈ xs, Sh x) : Sh (.tuple xs)
theorem sh_all {xs : List PyData} (h : ∀ x ∈ xs, x.showable = true ∧ x.hasDict = false ∧ x.leavesShort 401 = true) : PyData.showableAll xs = true ∧ PyData.hasDictAll xs = false ∧ PyData.leavesShortAll 401 xs = true := by
  induction xs with
  | nil => exact ⟨rfl, rfl, rfl⟩
  | cons x r ih =>
    obtain ⟨h1, h2, h3⟩ := h x (by simp)
    obtain ⟨g1, g2, g3⟩ := ih fun y hy => h y (by simp [hy])
    refine ⟨?_, ?_, ?_⟩
    · show (x.showable && PyData.showableAll r) = true
      rw [h1, g1]
      rfl
    · show (x.hasDict || PyData.hasDictAll r) = false
      rw [h2, g2]
      rfl
    · show (x.leavesShort 401 && PyData.leavesShortAll 401 r) = true
      rw [h3, g3]
      rfl
theorem Sh.ok {d : PyData} (h : Sh d) : d.showable = true ∧ d.hasDict = false ∧ d.leavesShort 401 = true := by
  induction h with
  | non => exact ⟨rfl, rfl, rfl⟩
  | bl b => exact ⟨rfl, rfl, rfl⟩
  | int h =>
    refine ⟨decide_eq_true (by omega), rfl, decide_eq_true ?_⟩
    have := int_text_length_le (by decide) h
    show (Str.ofString (toString _)).length ≤ 401
    rw [PySem.ofString_length]
    exact this
  | lst _ ih => exact sh_all ih
  | tup _ ih => exact sh_all ih
theorem Sh.fits {d : PyData} (h : Sh d) (hb : d.bulk ≤ 20000) : d.shown.length ≤ sizeLine := by
  have h1 := PyData.shown_le_bulk 401 (by decide) d h.ok.2.2
  have h2 : (401 + 2) * d.bulk ≤ (401 + 2) * 20000 := Nat.mul_le_mul_left _ hb
  rw [sizeLine_eq]
  omega
theorem log_lt {i : Int} (h0 : 0 ≤ i) (h : i < 2 ^ 250) : i.natAbs.log2 < 400 := by
  by_cases hz : i.natAbs = 0
  · rw [hz]
    decide
  · have h2 : (i.natAbs : Int) = i := by omega
    have h3 : (i.natAbs : Int) < ((2 ^ 250 : Nat) : Int) := by rw [h2]; exact h
    have h4 : i.natAbs < 2 ^ 250 := Int.ofNat_lt.mp h3
    have := (Nat.log2_lt hz).mpr h4
    omega
theorem sh_nat {i : Int} (h0 : 0 ≤ i) (h : i < 2 ^ 200) : Sh (.int i) := .int (log_lt h0 (Int.lt_trans h (by decide)))
theorem wisp_sh {s : Int} {ps : List (Int × Int)} (h0 : 0 ≤ s) (h1 : s ≤ 1) (g : Good ps) : Sh (wispD s ps) := by
  refine .tup fun x hx => ?_
  simp only [List.mem_cons, List.not_mem_nil, or_false] at hx
  rcases hx with rfl | rfl
  · exact sh_nat h0 (Int.lt_of_le_of_lt h1 (by decide))
  · refine .tup fun x hx => ?_
    obtain ⟨p, hp, rfl⟩ := List.mem_map.mp hx
    have hg := g.2.2 p hp
    refine .tup fun x hx => ?_
    simp only [List.mem_cons, List.not_mem_nil, or_false] at hx
    rcases hx with rfl | rfl
    · exact sh_nat (by omega) hg.2.1
    · exact sh_nat (by omega) hg.2.2.2
theorem wisp_bulk (s : Int) (ps : List (Int × Int)) : (wispD s ps).bulk ≤ 3 * ps.length + 2 := by
  have h : PyData.bulkAll (ps.map fun p => PyData.tuple [.int p.1, .int p.2]) = 3 * ps.length := by
    induction ps with
    | nil => rfl
    | cons p r ih =>
      show (0 + 1 + (0 + 1 + 0)) + 1 + PyData.bulkAll (r.map fun p => PyData.tuple [.int p.1, .int p.2]) = 3 * (r.length + 1)
      rw [ih]
      omega
  show 0 + 1 + (PyData.bulkAll (ps.map fun p => PyData.tuple [.int p.1, .int p.2]) + 1 + 0) ≤ 3 * ps.length + 2
  omega
theorem last_row {H : Hp} {as : List Addr} {ps : List (Int × Int)} (tu : TupsAt H as ((tableOf 0 ps).map rowV)) (gd : 1 ≤ ps.length) : ∃ z b t, atI (as.map V.ref) (-1) = some (.ref z) ∧ H z = some (.tup [.int b, .int (longs ps), .int t]) := by
  have hne : ps ≠ [] := fun e => by
    rw [e] at gd
    exact absurd gd (by decide)
  obtain ⟨b', t', hl⟩ := table_last ps 0 hne
  rw [Int.zero_add, List.getLast?_eq_getElem?] at hl
  have hlen : as.length = (tableOf 0 ps).length := by
    have := tu.1
    rw [List.length_map] at this
    exact this
  have hpos : 0 < (tableOf 0 ps).length := by
    rw [table_len]
    omega
  have hi : (tableOf 0 ps).length - 1 < as.length := by omega
  have e1 : (as.map V.ref)[(tableOf 0 ps).length - 1]? = some (.ref as[(tableOf 0 ps).length - 1]) := by
    rw [List.getElem?_map, List.getElem?_eq_getElem hi]
    rfl
  obtain ⟨z, b, c, d, e2, e3, e4⟩ := row_get tu e1
  rw [hl] at e3
  have e5 := Option.some.inj e3
  obtain ⟨e6, e7⟩ := Prod.mk.inj e5
  obtain ⟨e8, e9⟩ := Prod.mk.inj e7
  rw [← e6, ← e8, ← e9] at e4
  refine ⟨z, b', t', ?_, e4⟩
  have h0 : as.map V.ref ≠ [] := fun e => by
    have := congrArg List.length e
    rw [List.length_map, hlen] at this
    have this : (tableOf 0 ps).length = 0 := this
    omega
  have h2 : (as.map V.ref).getLast h0 = .ref z := by
    have := List.getLast?_eq_getLast h0
    rw [List.getLast?_eq_getElem?, List.length_map, hlen, e1] at this
    exact (Option.some.inj this).symm.trans e2
  have h1 := List.dropLast_concat_getLast h0
  rw [h2] at h1
  rw [← h1]
  exact atI_last _ _
theorem longs_lt {ps : List (Int × Int)} (g : Good ps) : longs ps < 2 ^ 204 := by
  have h : ∀ qs : List (Int × Int), (∀ p ∈ qs, p.2 < 2 ^ 200) → longs qs ≤ qs.length * 2 ^ 200 := by
    intro qs
    induction qs with
    | nil => intro _; decide
    | cons p r ih =>
      intro hq
      have h1 := hq p (by simp)
      have h2 := ih fun x hx => hq x (by simp [hx])
      rw [longs_cons, List.length_cons, Int.natCast_add, Int.add_mul]
      have h3 : ((1 : Nat) : Int) * 2 ^ 200 = 2 ^ 200 := by decide
      rw [h3]
      omega
  have h1 := h ps fun p hp => (g.2.2 p hp).2.2.2
  have h2 : (ps.length : Int) * 2 ^ 200 ≤ 10 * 2 ^ 200 := Int.mul_le_mul_of_nonneg_right (by have := g.2.1; omega) (by decide)
  have h3 : (10 : Int) * 2 ^ 200 < 2 ^ 204 := by decide
  omega
theorem fit_of {b : Int} (h0 : 1 ≤ b) (h : b < 2 ^ 210) : CDivW 0 b := by
  refine wide_div (b := 210) (by omega) ?_ (by decide) (by decide)
  have h2 : (b.natAbs : Int) = b := by omega
  have h3 : (b.natAbs : Int) < ((2 ^ 210 : Nat) : Int) := by rw [h2]; exact h
  exact Int.ofNat_lt.mp h3
def spRightG : Sp := fun vs H Q _ => ∃ (p l : Addr) (T : Nat) (a : Addr) (s : Int) (ps : List (Int × Int)), vs = [.ref p, .ref a] ∧ Pot H p l T ∧ T < 2 ^ 36 ∧ WispAt H a s ps ∧ Good ps ∧ 0 ≤ s ∧ s ≤ 1 ∧
  ∀ (H' : Hp), Pot H' p l (T + 2000) → Keep p l H H' → Q (.bl true) H'
theorem int_get {ns : List Int} {i : Nat} {x : V} (h : (ns.map V.int)[i]? = some x) : ∃ n, x = .int n ∧ ns[i]? = some n := by
  rw [List.getElem?_map] at h
  cases q : ns[i]? with
  | none =>
    rw [q] at h
    cases h
  | some n =>
    rw [q] at h
    exact ⟨n, (Option.some.inj h).symm, rfl⟩
theorem filter_take_succ {α : Type} {l : List α} {i : Nat} {x : α} (p : α → Bool) (h : l[i]? = some x) : (l.take (i + 1)).filter p = (l.take i).filter p ++ (if p x = true then [x] else []) := by
  rw [List.take_add_one, h, List.filter_append]
  show _ ++ List.filter p [x] = _
  rw [List.filter_cons]
  rfl
/-! ### heads -/
def headOf : List (Int × Int) → Int → List (Int × Int)
  | [], _ => []
  | (t, g) :: r, k => (if 0 < k then [(t, if k < g then k else g)] else []) ++ headOf r (k - g)
theorem head_none : ∀ (ps : List (Int × Int)) (k : Int), k ≤ 0 → (∀ p ∈ ps, 1 ≤ p.2) → headOf ps k = []
  | [], _, _, _ => rfl
  | (t, g) :: r, k, h, hg => by
    have h1 : 1 ≤ g := hg (t, g) (by simp)
    show (if 0 < k then _ else []) ++ headOf r (k - g) = []
    rw [if_neg (by omega), head_none r (k - g) (by omega) fun x hx => hg x (by simp [hx])]
    rfl
theorem head_thick : ∀ (ps : List (Int × Int)) (k j : Int), 0 ≤ j → (∀ p ∈ ps, 1 ≤ p.2) → thickAt (headOf ps k) j = if j < k then thickAt ps j else 0
  | [], k, j, _, _ => by
    show (0 : Int) = if j < k then 0 else 0
    split <;> rfl
  | (t, g) :: r, k, j, hj, hg => by
    have h1 : 1 ≤ g := hg (t, g) (by simp)
    have hr : ∀ p ∈ r, 1 ≤ p.2 := fun x hx => hg x (by simp [hx])
    by_cases hk : 0 < k
    · have e : headOf ((t, g) :: r) k = (t, if k < g then k else g) :: headOf r (k - g) := by
        show (if 0 < k then _ else []) ++ headOf r (k - g) = _
        rw [if_pos hk]
        rfl
      rw [e]
      show (if j < (if k < g then k else g) then t else thickAt (headOf r (k - g)) (j - (if k < g then k else g))) = if j < k then (if j < g then t else thickAt r (j - g)) else 0
      by_cases h2 : k < g
      · rw [if_pos h2, head_none r (k - g) (by omega) hr]
        by_cases h3 : j < k
        · rw [if_pos h3, if_pos h3, if_pos (by omega)]
        · rw [if_neg h3, if_neg h3]
          rfl
      · rw [if_neg h2]
        by_cases h3 : j < g
        · rw [if_pos h3, if_pos (show j < k by omega), if_pos h3]
        · rw [if_neg h3, head_thick r (k - g) (j - g) (by omega) hr]
          by_cases h4 : j < k
          · rw [if_pos h4, if_pos (show j - g < k - g by omega), if_neg h3]
          · rw [if_neg h4, if_neg (show ¬ j - g < k - g by omega)]
    · rw [head_none _ k (by omega) hg, if_neg (by omega)]
      rfl
theorem head_longs : ∀ (ps : List (Int × Int)) (k : Int), 0 ≤ k → k ≤ longs ps → (∀ p ∈ ps, 1 ≤ p.2) → longs (headOf ps k) = k
  | [], k, h0, h1, _ => by
    have : longs [] = 0 := rfl
    show (0 : Int) = k
    omega
  | (t, g) :: r, k, h0, h1, hg => by
    have hg1 : 1 ≤ g := hg (t, g) (by simp)
    have hr : ∀ p ∈ r, 1 ≤ p.2 := fun x hx => hg x (by simp [hx])
    rw [longs_cons] at h1
    have h1 : k ≤ g + longs r := h1
    by_cases hk : 0 < k
    · have e : headOf ((t, g) :: r) k = (t, if k < g then k else g) :: headOf r (k - g) := by
        show (if 0 < k then _ else []) ++ headOf r (k - g) = _
        rw [if_pos hk]
        rfl
      rw [e, longs_cons]
      show (if k < g then k else g) + longs (headOf r (k - g)) = k
      by_cases h2 : k < g
      · rw [if_pos h2, head_none r (k - g) (by omega) hr]
        show k + 0 = k
        omega
      · rw [if_neg h2, head_longs r (k - g) (by omega) (by omega) hr]
        omega
    · rw [head_none _ k (by omega) hg]
      show (0 : Int) = k
      omega
theorem head_all : ∀ (ps : List (Int × Int)) (k : Int), longs ps ≤ k → (∀ p ∈ ps, 1 ≤ p.2) → headOf ps k = ps
  | [], _, _, _ => rfl
  | (t, g) :: r, k, h, hg => by
    have hg1 : 1 ≤ g := hg (t, g) (by simp)
    have hr : ∀ p ∈ r, 1 ≤ p.2 := fun x hx => hg x (by simp [hx])
    rw [longs_cons] at h
    have h : g + longs r ≤ k := h
    have h0 := longs_nonneg hr
    show (if 0 < k then [(t, if k < g then k else g)] else []) ++ headOf r (k - g) = (t, g) :: r
    rw [if_pos (by omega), if_neg (by omega), head_all r (k - g) (by omega) hr]
    rfl
theorem head_mem : ∀ {ps : List (Int × Int)} {k : Int} {p : Int × Int}, p ∈ headOf ps k → ∃ g, (p.1, g) ∈ ps ∧ 1 ≤ p.2 + (if 1 ≤ g then 0 else 1 - g) ∧ p.2 ≤ g
  | [], _, _, h => by cases h
  | (t, g) :: r, k, p, h => by
    have h : p ∈ (if 0 < k then [(t, if k < g then k else g)] else []) ++ headOf r (k - g) := h
    rcases List.mem_append.mp h with h | h
    · by_cases hk : 0 < k
      · rw [if_pos hk] at h
        simp only [List.mem_cons, List.not_mem_nil, or_false] at h
        subst h
        refine ⟨g, by simp, ?_, ?_⟩
        · show 1 ≤ (if k < g then k else g) + (if 1 ≤ g then 0 else 1 - g)
          split <;> split <;> omega
        · show (if k < g then k else g) ≤ g
          split <;> omega
      · rw [if_neg hk] at h
        cases h
    · obtain ⟨g', h1, h2⟩ := head_mem h
      exact ⟨g', by simp [h1], h2⟩
theorem head_len : ∀ (ps : List (Int × Int)) (k : Int), (headOf ps k).length ≤ ps.length
  | [], _ => Nat.le_refl _
  | (t, g) :: r, k => by
    show ((if 0 < k then [(t, if k < g then k else g)] else []) ++ headOf r (k - g)).length ≤ r.length + 1
    rw [List.length_append]
    have := head_len r (k - g)
    split
    · show 1 + _ ≤ _
      omega
    · show 0 + _ ≤ _
      omega
theorem head_good {ps : List (Int × Int)} {k : Int} (g : Good ps) (h : 1 ≤ k) : Good (headOf ps k) := by
  refine ⟨?_, Nat.le_trans (head_len ps k) g.2.1, fun p hp => ?_⟩
  · cases ps with
    | nil => exact absurd g.1 (by decide)
    | cons p r =>
      show 1 ≤ ((if 0 < k then [(p.1, if k < p.2 then k else p.2)] else []) ++ headOf r (k - p.2)).length
      rw [if_pos (by omega), List.length_append]
      show 1 ≤ 1 + _
      omega
  · obtain ⟨g', h1, h2, h3⟩ := head_mem hp
    have h4 := g.2.2 _ h1
    rw [if_pos h4.2.2.1] at h2
    exact ⟨h4.1, h4.2.1, by omega, Int.lt_of_le_of_lt h3 h4.2.2.2⟩
abbrev headStep (k : Int) (t : Int × Int × Int) : Int × Int := (t.2.2, (if k < t.2.1 then k else t.2.1) - t.1)
theorem head_table : ∀ (ps : List (Int × Int)) (b k : Int), ((tableOf b ps).filter fun t => decide (t.1 < k)).map (headStep k) = headOf ps (k - b)
  | [], _, _ => rfl
  | (t, g) :: r, b, k => by
    have ih := head_table r (b + g) k
    show (((b, b + g, t) :: tableOf (b + g) r).filter fun t => decide (t.1 < k)).map (headStep k) = (if 0 < k - b then [(t, if k - b < g then k - b else g)] else []) ++ headOf r (k - b - g)
    rw [List.filter_cons, show k - b - g = k - (b + g) by omega, ← ih]
    by_cases h : b < k
    · rw [if_pos (decide_eq_true h), if_pos (show 0 < k - b by omega), List.map_cons]
      have e : headStep k (b, b + g, t) = (t, if k - b < g then k - b else g) := by
        show (t, (if k < b + g then k else b + g) - b) = _
        by_cases h2 : k - b < g
        · rw [if_pos h2, if_pos (by omega)]
        · rw [if_neg h2, if_neg (by omega), show b + g - b = g by omega]
      rw [e]
      rfl
    · rw [if_neg (fun z => h (of_decide_eq_true z)), if_neg (show ¬ 0 < k - b by omega)]
      rfl
def spHead : Sp := fun vs H Q _ => ∃ (a : Addr) (s : Int) (ps : List (Int × Int)) (k : Int), vs = [.ref a, .int k] ∧ WispAt H a s ps ∧ ps.length ≤ 10 ∧ ∀ H' b, Same H H' → H b = none → WispAt H' b s (headOf ps k) → Q (.ref b) H'
/-! ### tails -/
def tailOf : List (Int × Int) → Int → List (Int × Int)
  | [], _ => []
  | (t, g) :: r, k => (if k < g then [(t, g - (if 0 > k then 0 else k))] else []) ++ tailOf r (k - g)
theorem tail_neg : ∀ (ps : List (Int × Int)) (k : Int), k ≤ 0 → (∀ p ∈ ps, 1 ≤ p.2) → tailOf ps k = ps
  | [], _, _, _ => rfl
  | (t, g) :: r, k, h, hg => by
    have h1 : 1 ≤ g := hg (t, g) (by simp)
    show (if k < g then [(t, g - (if 0 > k then 0 else k))] else []) ++ tailOf r (k - g) = (t, g) :: r
    rw [if_pos (by omega), tail_neg r (k - g) (by omega) fun x hx => hg x (by simp [hx])]
    have e : g - (if 0 > k then 0 else k) = g := by split <;> omega
    rw [e]
    rfl
theorem tail_lt {t g k : Int} {r : List (Int × Int)} (h0 : 0 ≤ k) (h : k < g) (hr : ∀ p ∈ r, 1 ≤ p.2) : tailOf ((t, g) :: r) k = (t, g - k) :: r := by
  show (if k < g then [(t, g - (if 0 > k then 0 else k))] else []) ++ tailOf r (k - g) = _
  rw [if_pos h, if_neg (by omega), tail_neg r (k - g) (by omega) hr]
  rfl
theorem tail_ge {t g k : Int} {r : List (Int × Int)} (h : g ≤ k) : tailOf ((t, g) :: r) k = tailOf r (k - g) := by
  show (if k < g then [(t, g - (if 0 > k then 0 else k))] else []) ++ tailOf r (k - g) = _
  rw [if_neg (by omega)]
  rfl
theorem tail_thick : ∀ (ps : List (Int × Int)) (k j : Int), 0 ≤ k → 0 ≤ j → (∀ p ∈ ps, 1 ≤ p.2) → thickAt (tailOf ps k) j = thickAt ps (k + j)
  | [], _, _, _, _, _ => rfl
  | (t, g) :: r, k, j, hk, hj, hg => by
    have hr : ∀ p ∈ r, 1 ≤ p.2 := fun x hx => hg x (by simp [hx])
    by_cases h : k < g
    · rw [tail_lt hk h hr]
      show (if j < g - k then t else thickAt r (j - (g - k))) = if k + j < g then t else thickAt r (k + j - g)
      by_cases h2 : k + j < g
      · rw [if_pos h2, if_pos (by omega)]
      · rw [if_neg h2, if_neg (by omega), show j - (g - k) = k + j - g by omega]
    · rw [tail_ge (by omega), tail_thick r (k - g) j (by omega) hj hr]
      show _ = if k + j < g then t else thickAt r (k + j - g)
      rw [if_neg (by omega), show k - g + j = k + j - g by omega]
theorem tail_longs : ∀ (ps : List (Int × Int)) (k : Int), 0 ≤ k → k ≤ longs ps → (∀ p ∈ ps, 1 ≤ p.2) → longs (tailOf ps k) = longs ps - k
  | [], k, h0, h1, _ => by
    have : longs [] = 0 := rfl
    show (0 : Int) = 0 - k
    omega
  | (t, g) :: r, k, h0, h1, hg => by
    have hr : ∀ p ∈ r, 1 ≤ p.2 := fun x hx => hg x (by simp [hx])
    rw [longs_cons] at h1 ⊢
    have h1 : k ≤ g + longs r := h1
    show _ = g + longs r - k
    by_cases h : k < g
    · rw [tail_lt h0 h hr, longs_cons]
      show g - k + longs r = _
      omega
    · rw [tail_ge (by omega), tail_longs r (k - g) (by omega) (by omega) hr]
      omega
theorem tail_weigh : ∀ (ps : List (Int × Int)) (k : Int), 0 ≤ k → (∀ p ∈ ps, 1 ≤ p.2) → weigh (headOf ps k) + weigh (tailOf ps k) = weigh ps
  | [], _, _, _ => rfl
  | (t, g) :: r, k, h0, hg => by
    have hr : ∀ p ∈ r, 1 ≤ p.2 := fun x hx => hg x (by simp [hx])
    have hg1 : 1 ≤ g := hg (t, g) (by simp)
    by_cases hk : 0 < k
    · have e : headOf ((t, g) :: r) k = (t, if k < g then k else g) :: headOf r (k - g) := by
        show (if 0 < k then _ else []) ++ headOf r (k - g) = _
        rw [if_pos hk]
        rfl
      rw [e, weigh_cons]
      by_cases h : k < g
      · rw [tail_lt h0 h hr, if_pos h, head_none r (k - g) (by omega) hr, weigh_cons, weigh_cons]
        show t * k + 0 + (t * (g - k) + weigh r) = t * g + weigh r
        rw [Int.mul_sub]
        omega
      · rw [tail_ge (by omega), if_neg h, weigh_cons]
        have ih := tail_weigh r (k - g) (by omega) hr
        show t * g + weigh (headOf r (k - g)) + weigh (tailOf r (k - g)) = t * g + weigh r
        omega
    · rw [head_none _ k (by omega) hg, tail_neg _ k (by omega) hg]
      show 0 + _ = _
      omega
theorem head_pos {ps : List (Int × Int)} {k : Int} (hg : ∀ p ∈ ps, 1 ≤ p.2) : ∀ p ∈ headOf ps k, 1 ≤ p.2 := fun p hp => by
  obtain ⟨g, h1, h2, _⟩ := head_mem hp
  have h3 := hg _ h1
  rw [if_pos h3] at h2
  omega
theorem tail_head : ∀ (ps : List (Int × Int)) (k m : Int), 0 ≤ k → 1 ≤ m → (∀ p ∈ ps, 1 ≤ p.2) → headOf (tailOf ps k) m = tailOf (headOf ps (k + m)) k
  | [], _, _, _, _, _ => rfl
  | (t, g) :: r, k, m, h0, h1, hg => by
    have hr : ∀ p ∈ r, 1 ≤ p.2 := fun x hx => hg x (by simp [hx])
    have e : headOf ((t, g) :: r) (k + m) = (t, if k + m < g then k + m else g) :: headOf r (k + m - g) := by
      show (if 0 < k + m then _ else []) ++ headOf r (k + m - g) = _
      rw [if_pos (by omega)]
      rfl
    rw [e]
    by_cases h : k < g
    · rw [tail_lt h0 h hr, tail_lt h0 (by split <;> omega) (head_pos hr)]
      show (if 0 < m then [(t, if m < g - k then m else g - k)] else []) ++ headOf r (m - (g - k)) = _
      rw [if_pos (by omega), show m - (g - k) = k + m - g by omega]
      by_cases h2 : k + m < g
      · rw [if_pos h2, if_pos (by omega), show k + m - k = m by omega]
        rfl
      · rw [if_neg h2, if_neg (by omega)]
        rfl
    · rw [tail_ge (by omega), tail_ge (by split <;> omega), if_neg (by omega), tail_head r (k - g) m (by omega) h1 hr, show k - g + m = k + m - g by omega]
theorem tail_len : ∀ (ps : List (Int × Int)) (k : Int), (tailOf ps k).length ≤ ps.length
  | [], _ => Nat.le_refl _
  | (t, g) :: r, k => by
    show ((if k < g then [(t, g - (if 0 > k then 0 else k))] else []) ++ tailOf r (k - g)).length ≤ r.length + 1
    rw [List.length_append]
    have := tail_len r (k - g)
    split
    · show 1 + _ ≤ _
      omega
    · show 0 + _ ≤ _
      omega
theorem tail_mem : ∀ {ps : List (Int × Int)} {k : Int} {p : Int × Int}, p ∈ tailOf ps k → ∃ g, (p.1, g) ∈ ps ∧ (1 ≤ g → 1 ≤ p.2) ∧ p.2 ≤ g
  | [], _, _, h => by cases h
  | (t, g) :: r, k, p, h => by
    have h : p ∈ (if k < g then [(t, g - (if 0 > k then 0 else k))] else []) ++ tailOf r (k - g) := h
    rcases List.mem_append.mp h with h | h
    · by_cases hk : k < g
      · rw [if_pos hk] at h
        simp only [List.mem_cons, List.not_mem_nil, or_false] at h
        subst h
        refine ⟨g, by simp, fun h => ?_, ?_⟩
        · show 1 ≤ g - (if 0 > k then 0 else k)
          split <;> omega
        · show g - (if 0 > k then 0 else k) ≤ g
          split <;> omega
      · rw [if_neg hk] at h
        cases h
    · obtain ⟨g', h1, h2⟩ := tail_mem h
      exact ⟨g', by simp [h1], h2⟩
theorem tail_good {ps : List (Int × Int)} {k : Int} (g : Good ps) (h0 : 0 ≤ k) (h : k < longs ps) : Good (tailOf ps k) := by
  have hg : ∀ p ∈ ps, 1 ≤ p.2 := fun x hx => (g.2.2 x hx).2.2.1
  refine ⟨?_, Nat.le_trans (tail_len ps k) g.2.1, fun p hp => ?_⟩
  · have h1 := tail_longs ps k h0 (by omega) hg
    cases q : tailOf ps k with
    | nil =>
      rw [q] at h1
      have : longs [] = 0 := rfl
      omega
    | cons _ _ => exact Nat.succ_le_succ (Nat.zero_le _)
  · obtain ⟨g', h1, h2, h3⟩ := tail_mem hp
    have h4 := g.2.2 _ h1
    exact ⟨h4.1, h4.2.1, h2 h4.2.2.1, Int.lt_of_le_of_lt h3 h4.2.2.2⟩
abbrev tailStep (k : Int) (t : Int × Int × Int) : Int × Int := (t.2.2, t.2.1 - (if k > t.1 then k else t.1))
theorem tail_table : ∀ (ps : List (Int × Int)) (b k : Int), ((tableOf b ps).filter fun t => decide (k < t.2.1)).map (tailStep k) = tailOf ps (k - b)
  | [], _, _ => rfl
  | (t, g) :: r, b, k => by
    have ih := tail_table r (b + g) k
    show (((b, b + g, t) :: tableOf (b + g) r).filter fun t => decide (k < t.2.1)).map (tailStep k) = (if k - b < g then [(t, g - (if 0 > k - b then 0 else k - b))] else []) ++ tailOf r (k - b - g)
    rw [List.filter_cons, show k - b - g = k - (b + g) by omega, ← ih]
    by_cases h : k < b + g
    · rw [if_pos (decide_eq_true h), if_pos (show k - b < g by omega), List.map_cons]
      have e : tailStep k (b, b + g, t) = (t, g - (if 0 > k - b then 0 else k - b)) := by
        show (t, b + g - (if k > b then k else b)) = _
        refine congrArg (Prod.mk t) ?_
        split <;> split <;> omega
      rw [e]
      rfl
    · rw [if_neg (fun z => h (of_decide_eq_true z)), if_neg (show ¬ k - b < g by omega)]
      rfl
def spTail : Sp := fun vs H Q _ => ∃ (a : Addr) (s : Int) (ps : List (Int × Int)) (k : Int), vs = [.ref a, .int k] ∧ WispAt H a s ps ∧ ps.length ≤ 10 ∧ ∀ H' b, Same H H' → H b = none → WispAt H' b s (tailOf ps k) → Q (.ref b) H'
/-! ### max(numbers, default=d) -/
section
variable {prog : Program} {w : World} {A : Around} {R : Result → Shared → Prop} {I : Addr} {fp wr : List Addr} {n : Nat} {P : Nat → Value → Prop} {St : Nat → Heap → Prop}
theorem maxLoopD (W : Walks prog w A.in1 I fp wr n P St) (bt : Nat → Nat → Bool) (cm : CmpOf prog w A.in1 .Gt P bt) (S : Addr) (nS : S ∉ fp) (dv : Value) : ∀ (k j : Nat) (t : Shared) (vb : Value) (c : Nat), n - (j + 1) = k → j + 1 ≤ n → St (j + 1) t.heap → P (argBest bt j) vb →
    t.heap.get? S = some { cls := .type "list", dict := none, data := .seq #[vb, vb] c, slots := #[] } → (∀ v h' tk, P (argBest bt (n - 1)) v → (∀ b o, b ∉ wr → b ≠ S → t.heap.get? b = some o → h'.get? b = some o) → R (.ok (.ret v)) { t with heap := h', toks := tk }) →
    codeAny (model prog w) A (.builtin "max.loop" ⟨[.ref I, .none, .ref S], [("default", dv)]⟩) R t := by
  have nW : S ∉ wr := fun h => nS (W.sub _ h)
  have nm : (toString "max" ++ toString ".loop" : String) = "max.loop" := by decide
  intro k
  induction k with
  | zero =>
    intro j t vb c ek hj st pb eS r
    have en : j + 1 = n := by omega
    refine codeAny_builtin F.entry_max_loop ?_
    rw [Around.under_plainId F.plain_max_loop _]
    refine wpAny_bind (wpAny_seqItems eS rfl (wpAny_bind (wpAny_tryCatch (W.done t _ _ (en ▸ st) fun h' tk ke => ?_))))
    refine wpAny_bind (wpAny_updateSeq (ke S _ nW eS) rfl (wpAny_bind (wpAny_letGo (wpAny_pure ?_))))
    exact r vb _ tk (by rw [← en]; exact pb) fun b o nb nb2 e => (Heap.get?_update_other _ _ (Ne.symm nb2)).trans (ke b o nb e)
  | succ k ih =>
    intro j t vb c ek hj st pb eS r
    have hj2 : j + 1 < n := by omega
    refine codeAny_builtin F.entry_max_loop ?_
    rw [Around.under_plainId F.plain_max_loop _]
    refine wpAny_bind (wpAny_seqItems eS rfl (wpAny_bind (wpAny_tryCatch (W.item (j + 1) t _ _ hj2 st fun v h' tk pv st' ke => ?_))))
    have eS' := ke S _ nW eS
    show wpAny _ A.in1 (tryCatch (holding [v, v] (richCompare .Gt v vb >>= _)) _ >>= _) _ _ _
    refine wpAny_bind (wpAny_tryCatch (wpAny_holding (wpAny_bind (cm (j + 1) (argBest bt j) v vb _ _ _ pv pb (wpAny_bind (wpAny_holding (wpAny_truthy_bool (wpAny_bind (wpAny_letGo (wpAny_pure ?_))))))))))
    cases hb : bt (j + 1) (argBest bt j) with
    | true =>
      simp only [if_true]
      refine wpAny_bind (wpAny_updateSeq eS' rfl (wpAny_bind (wpAny_letGo ?_)))
      rw [nm]
      refine wpAny_pure ⟨plainId_quiet F.plain_max_loop _, ih (j + 1) _ v _ (by omega) hj2 (W.frame _ _ _ st' fun b fb o e => ?_) (by simp only [argBest, hb, if_true]; exact pv) (Heap.get?_update_self _ eS' rfl) fun v2 h2 tk2 p2 ke2 => ?_⟩
      · exact (Heap.get?_update_other _ _ (fun z : S = b => nS (by rw [z]; exact fb))).trans e
      · exact r v2 h2 tk2 p2 fun b o nb nb2 e => ke2 b o nb nb2 ((Heap.get?_update_other _ _ (Ne.symm nb2)).trans (ke b o nb e))
    | false =>
      simp only [Bool.false_eq_true, if_false]
      refine wpAny_bind (wpAny_letGo ?_)
      rw [nm]
      refine wpAny_pure ⟨plainId_quiet F.plain_max_loop _, ih (j + 1) _ vb c (by omega) hj2 st' (by simp only [argBest, hb, Bool.false_eq_true, if_false]; exact pb) eS' fun v2 h2 tk2 p2 ke2 => ?_⟩
      exact r v2 h2 tk2 p2 fun b o nb nb2 e => ke2 b o nb nb2 (ke b o nb e)
theorem maxFirstD (W : Walks prog w A.in1 I fp wr n P St) (bt : Nat → Nat → Bool) (cm : CmpOf prog w A.in1 .Gt P bt) (S : Addr) (nS : S ∉ fp) (dv : Value) {t : Shared} {c : Nat} (st : St 0 t.heap) (eS : t.heap.get? S = some { cls := .type "list", dict := none, data := .seq #[] c, slots := #[] })
    (r : ∀ v h' tk, (n = 0 ∧ v = dv ∨ 0 < n ∧ P (argBest bt (n - 1)) v) → (∀ b o, b ∉ wr → b ≠ S → t.heap.get? b = some o → h'.get? b = some o) → R (.ok (.ret v)) { t with heap := h', toks := tk }) :
    codeAny (model prog w) A (.builtin "max.loop" ⟨[.ref I, .none, .ref S], [("default", dv)]⟩) R t := by
  have nW : S ∉ wr := fun h => nS (W.sub _ h)
  have nm : (toString "max" ++ toString ".loop" : String) = "max.loop" := by decide
  refine codeAny_builtin F.entry_max_loop ?_
  rw [Around.under_plainId F.plain_max_loop _]
  by_cases hn : 0 < n
  · refine wpAny_bind (wpAny_seqItems eS rfl (wpAny_bind (wpAny_tryCatch (W.item 0 t _ _ hn st fun v h' tk pv st' ke => ?_))))
    have eS' := ke S _ nW eS
    show wpAny _ A.in1 (updateSeq S (fun _ => #[v, v]) >>= _) _ _ _
    refine wpAny_bind (wpAny_updateSeq eS' rfl ?_)
    rw [nm]
    refine wpAny_pure ⟨plainId_quiet F.plain_max_loop _, maxLoopD W bt cm S nS dv _ 0 _ v _ rfl hn (W.frame _ _ _ st' fun b fb o e => ?_) pv (Heap.get?_update_self _ eS' rfl) fun v2 h2 tk2 p2 ke2 => ?_⟩
    · exact (Heap.get?_update_other _ _ (fun z : S = b => nS (by rw [z]; exact fb))).trans e
    · exact r v2 h2 tk2 (.inr ⟨hn, p2⟩) fun b o nb nb2 e => ke2 b o nb nb2 ((Heap.get?_update_other _ _ (Ne.symm nb2)).trans (ke b o nb e))
  · have n0 : n = 0 := by omega
    refine wpAny_bind (wpAny_seqItems eS rfl (wpAny_bind (wpAny_tryCatch (W.done t _ _ (n0 ▸ st) fun h' tk ke => ?_))))
    refine wpAny_bind (wpAny_rule (wpAny_pure ?_))
    exact r dv h' tk (.inl ⟨n0, rfl⟩) fun b o nb _ e => ke b o nb e
end
theorem args_maxD (a d : Value) : argsOk "max" ⟨[a], [("default", d)]⟩ := by unfold argsOk; kernel_rfl
theorem maxD_walk {prog : Program} {w : World} {A : Around} {E : Value → Shared → Prop} {t : Shared} {x dv : Value} {Q : Value → Shared → Prop} (h : wpAny (model prog w) A.in1 (pyIter x) (fun it t2 => ∃ I fp wr n P St bt, it = .ref I ∧ Walks prog w A.in1 I fp wr n P St ∧ St 0 t2.heap ∧ (∀ b ∈ fp, b < t2.heap.objs.size) ∧ CmpOf prog w A.in1 .Gt P bt ∧
      ∀ v h' tk, (n = 0 ∧ v = dv ∨ 0 < n ∧ P (argBest bt (n - 1)) v) → (∀ b o, b ∉ wr → t2.heap.get? b = some o → h'.get? b = some o) → Q v { t2 with heap := h', toks := tk }) E t) : wpAny (model prog w) A (call (.builtin "max") [x] [("default", dv)]) Q E t := by
  have nm : (toString "max" ++ toString ".loop" : String) = "max.loop" := by decide
  refine PyProof.Rows.kmk_tree PySem.F.kind_max PySem.F.plain_max PySem.F.entry_max (args_maxD _ _) ?_
  refine wpAny_bind (wpAny_of_eq (show Builtin.Builtins.bindParams "max" ["key", "default"] 0 ⟨[], [(Str.ofString "default", dv)]⟩ = pure [none, some dv] from rfl) ?_)
  refine wpAny_bind (wpAny_pure (wpAny_bind (wpAny_mono h (fun it t2 h2 => ?_) fun _ _ e => e)))
  obtain ⟨I, fp, wr, n, P, St, bt, rfl, W, st, hfp, cm, r⟩ := h2
  refine wpAny_bind (wpAny_newObj_type ?_)
  have nS : t2.heap.objs.size ∉ fp := fun hm => Nat.lt_irrefl _ (hfp _ hm)
  rw [nm]
  refine wpAny_pure ⟨plainId_quiet F.plain_max_loop _, maxFirstD W bt cm t2.heap.objs.size nS dv (W.frame _ _ _ st fun b _ o e => Heap.get?_push_of_some _ e) (Heap.get?_push_size _ rfl) fun v h' tk hv hk => ?_⟩
  exact r v h' tk hv fun b o nb e => hk b o nb (Nat.ne_of_lt (Heap.lt_size e)) (Heap.get?_push_of_some _ e)
theorem maxD_raw {prog : Program} {w : World} {A : Around} {E : Value → Shared → Prop} {t : Shared} {l : Addr} {its : List Value} {ns : List Int} {dv : Value} {Q : Value → Shared → Prop} (hh : A.handled = none) (hl : t.heap.IsList l its.toArray) (hi : IntsAre its ns)
    (r : ∀ v h' tk, (∀ b o, t.heap.get? b = some o → h'.get? b = some o) → (ns = [] ∧ v = dv ∨ ∃ M u, v = .int M u ∧ M ∈ ns ∧ ∀ y, y ∈ ns → y ≤ M) → Q v { t with heap := h', toks := tk }) : wpAny (model prog w) A (call (.builtin "max") [.ref l] [("default", dv)]) Q E t := by
  obtain ⟨xs, e⟩ := hi.allInts.items
  have hn : numsOf (intItems xs).toList = ns := by rw [← e]; exact hi.numsOf
  rw [nums_intItems] at hn
  subst hn
  rw [e] at hl
  refine maxD_walk (iter_intList hl fun t2 e2 st hfp hlI => ?_)
  subst e2
  refine ⟨_, _, _, _, _, _, _, rfl, Walks.list (A := A.in1) hh _ l hlI (intItems xs), st, hfp, CmpOf.ints_gt (numAt xs) (fun _ _ => intItems_at), fun v h' tk hv hk => ?_⟩
  refine r v h' tk (old_kept hk) ?_
  rcases hv with ⟨h0, rfl⟩ | ⟨h0, hv⟩
  · refine .inl ⟨?_, rfl⟩
    have : xs.size = 0 := by simpa [intItems] using h0
    have : xs.toList = [] := List.eq_nil_of_length_eq_zero (by simpa using this)
    rw [this]
    rfl
  · have hs : 0 < xs.size := by simpa [intItems] using h0
    have hv : (intItems xs)[argBest (fun i j => decide (numAt xs i > numAt xs j)) (xs.size - 1)]? = some v := by simpa [intItems] using hv
    obtain ⟨u, rfl⟩ := intItems_at hv
    obtain ⟨h1, h2⟩ := argBest_gt (numAt xs) (xs.size - 1)
    refine .inr ⟨_, u, rfl, ?_, fun y hy => ?_⟩
    · rw [numAt_eq]
      exact PySem.getD_mem (by rw [List.length_map, Array.length_toList]; omega)
    · obtain ⟨j, hj, rfl⟩ := mem_getD hy
      rw [List.length_map, Array.length_toList] at hj
      rw [← numAt_eq]
      exact h2 j (by omega)
def rMaxD (K : PySem.W.Frag) : List V → List V → Hp → VK → Prop := fun xs zs H Q => ∃ (a : Addr) (ns : List Int) (d : Int), xs = [.ref a] ∧ zs = [.int d] ∧ SqL K H a (ns.map V.int) ∧ ∀ m, (ns = [] ∧ m = d ∨ m ∈ ns ∧ ∀ y, y ∈ ns → y ≤ m) → Q (.int m) H
theorem call_maxD {X : Cx} (hc : X.calm = true) : CallRK X (.builtin "max") ["default"] (rMaxD X.K) := by
  intro pins s σ H xs zs us ws Q I va vz h
  obtain ⟨a, ns, d, rfl, rfl, hs, q⟩ := h
  obtain ⟨its, rv, hl, _⟩ := I.list hs
  rw [Vals.ref1 va]
  cases vz with
  | cons r1 r2 =>
  cases r2
  obtain ⟨u, rfl⟩ := r1
  refine maxD_raw (I.ok.hd hc) hl.isList rv.ints fun v h' tk hk hv => ?_
  rcases hv with ⟨h0, rfl⟩ | ⟨M, u2, rfl, h1, h2⟩
  · exact ⟨.int d, H, I.kept hk, ⟨_, rfl⟩, q d (.inl ⟨h0, rfl⟩)⟩
  · exact ⟨.int M, H, I.kept hk, ⟨_, rfl⟩, q M (.inr ⟨h1, h2⟩)⟩
/-! ### laid wisps and strands -/
structure Lw where
  so : Int
  ps : List (Int × Int)
  pl : Int
  le : Option Int
def letV : Option Int → V
  | none => .non
  | some n => .int n
def LaidAt (H : Hp) (a : Addr) (L : Lw) : Prop := ∃ wa, H a = some (.tup [.ref wa, .int L.pl, letV L.le]) ∧ WispAt H wa L.so L.ps
theorem LaidAt.mono {H H' : Hp} {a : Addr} {L : Lw} (h : LaidAt H a L) (t : Tups H H') : LaidAt H' a L := by
  obtain ⟨wa, h1, h2⟩ := h
  exact ⟨wa, t _ _ h1, h2.mono t⟩
def LaidsAt (H : Hp) (as : List Addr) (Ls : List Lw) : Prop := as.length = Ls.length ∧ ∀ (i : Nat) (a : Addr), as[i]? = some a → ∃ L, Ls[i]? = some L ∧ LaidAt H a L
theorem LaidsAt.mono {H H' : Hp} {as : List Addr} {Ls : List Lw} (h : LaidsAt H as Ls) (t : Tups H H') : LaidsAt H' as Ls := ⟨h.1, fun i a e => by
  obtain ⟨L, h1, h2⟩ := h.2 i a e
  exact ⟨L, h1, h2.mono t⟩⟩
theorem LaidsAt.nil {H : Hp} : LaidsAt H [] [] := ⟨rfl, fun i a h => by simp at h⟩
theorem LaidsAt.snoc {H : Hp} {as : List Addr} {Ls : List Lw} {a : Addr} {L : Lw} (h : LaidsAt H as Ls) (e : LaidAt H a L) : LaidsAt H (as ++ [a]) (Ls ++ [L]) := by
  refine ⟨by simp [h.1], fun i b hb => ?_⟩
  by_cases hi : i < as.length
  · rw [List.getElem?_append_left hi] at hb
    obtain ⟨M, h1, h2⟩ := h.2 i b hb
    exact ⟨M, by rw [List.getElem?_append_left (by rw [← h.1]; exact hi)]; exact h1, h2⟩
  · rw [List.getElem?_append_right (by omega)] at hb
    have hz : i - as.length = 0 := by
      cases hk : i - as.length with
      | zero => rfl
      | succ n =>
        rw [hk] at hb
        simp at hb
    rw [hz] at hb
    have : a = b := Option.some.inj hb
    subst this
    refine ⟨L, ?_, e⟩
    rw [List.getElem?_append_right (by rw [← h.1]; omega), ← h.1, hz]
    rfl
theorem LaidsAt.take {H : Hp} {as : List Addr} {Ls : List Lw} (h : LaidsAt H as Ls) (n : Nat) : LaidsAt H (as.take n) (Ls.take n) := by
  refine ⟨by simp [h.1], fun i a e => ?_⟩
  rw [List.getElem?_take] at e
  by_cases hi : i < n
  · rw [if_pos hi] at e
    obtain ⟨L, h1, h2⟩ := h.2 i a e
    exact ⟨L, by rw [List.getElem?_take, if_pos hi]; exact h1, h2⟩
  · rw [if_neg hi] at e
    cases e
theorem LaidsAt.set {H : Hp} {as : List Addr} {Ls : List Lw} {a : Addr} {L : Lw} (h : LaidsAt H as Ls) (e : LaidAt H a L) (n : Nat) : LaidsAt H (as.set n a) (Ls.set n L) := by
  refine ⟨by simp [h.1], fun i b hb => ?_⟩
  have hi : i < as.length := by
    have := (List.getElem?_eq_some_iff.mp hb).1
    rw [List.length_set] at this
    exact this
  by_cases hn : n = i
  · subst hn
    rw [List.getElem?_set_self hi] at hb
    have : a = b := Option.some.inj hb
    subst this
    exact ⟨L, List.getElem?_set_self (by rw [← h.1]; exact hi), e⟩
  · rw [List.getElem?_set_ne hn] at hb
    obtain ⟨M, h1, h2⟩ := h.2 i b hb
    exact ⟨M, by rw [List.getElem?_set_ne hn]; exact h1, h2⟩
def StrandAt (H : Hp) (a : Addr) (Ls : List Lw) : Prop := ∃ as, H a = some (.tup (as.map V.ref)) ∧ LaidsAt H as Ls
theorem StrandAt.mono {H H' : Hp} {a : Addr} {Ls : List Lw} (h : StrandAt H a Ls) (t : Tups H H') : StrandAt H' a Ls := by
  obtain ⟨as, h1, h2⟩ := h
  exact ⟨as, t _ _ h1, h2.mono t⟩
theorem StrandAt.keep {p l : Addr} {H H' : Hp} {T : Nat} {a : Addr} {Ls : List Lw} (h : StrandAt H a Ls) (k : Keep p l H H') (hp : Pot H p l T) : StrandAt H' a Ls := h.mono (k.tups hp)
theorem laid_get {H : Hp} {as : List Addr} {Ls : List Lw} (h : LaidsAt H as Ls) {i : Nat} {v : V} (e : (as.map V.ref)[i]? = some v) : ∃ a L, v = .ref a ∧ as[i]? = some a ∧ Ls[i]? = some L ∧ LaidAt H a L := by
  rw [List.getElem?_map] at e
  cases q : as[i]? with
  | none =>
    rw [q] at e
    cases e
  | some a =>
    rw [q] at e
    obtain ⟨L, h1, h2⟩ := h.2 i a q
    exact ⟨a, L, (Option.some.inj e).symm, rfl, h1, h2⟩
def GoodL (L : Lw) : Prop := Good L.ps ∧ 0 ≤ L.so ∧ L.so ≤ 1 ∧ 0 ≤ L.pl ∧ L.pl < 2 ^ 140 ∧ ∀ n, L.le = some n → L.pl < n ∧ n < 2 ^ 206
/-- where a laid wisp is over -/
def clip (le : Option Int) (e : Int) : Int := match le with
  | none => e
  | some n => if n < e then n else e
def lastOf (L : Lw) : Int := clip L.le (L.pl + longs L.ps)
def partsOf (le : Option Int) : List (Int × Int) → Int → List (Int × Int × Int)
  | [], _ => []
  | (t, g) :: r, st => (if st < clip le (st + g) then [(st, clip le (st + g), t)] else []) ++ partsOf le r (clip le (st + g))
def lawParts (le : Option Int) : List (Int × Int) → Int → List (Int × Int × Int)
  | [], _ => []
  | (t, g) :: r, st => (if st < clip le (st + g) then [(st, clip le (st + g), t)] else []) ++ lawParts le r (st + g)
theorem clip_le {le : Option Int} {e : Int} : clip le e ≤ e := by
  cases le with
  | none => exact Int.le_refl _
  | some n =>
    show (if n < e then n else e) ≤ e
    split <;> omega
theorem clip_mono {le : Option Int} {e f : Int} (h : e ≤ f) : clip le e ≤ clip le f := by
  cases le with
  | none => exact h
  | some n =>
    show (if n < e then n else e) ≤ (if n < f then n else f)
    split <;> split <;> omega
theorem clip_clip {le : Option Int} {e g : Int} (hg : 0 ≤ g) : clip le (clip le e + g) = clip le (e + g) := by
  cases le with
  | none => rfl
  | some n =>
    show (if n < (if n < e then n else e) + g then n else (if n < e then n else e) + g) = if n < e + g then n else e + g
    (repeat' split) <;> omega
theorem clip_idem {le : Option Int} {e : Int} : clip le (clip le e) = clip le e := by
  cases le with
  | none => rfl
  | some n =>
    show (if n < (if n < e then n else e) then n else (if n < e then n else e)) = if n < e then n else e
    (repeat' split) <;> omega
/-- all parts end at or ahead of where the wisp is over -/
theorem parts_le {le : Option Int} : ∀ (ps : List (Int × Int)) (st : Int), (∀ p ∈ ps, 1 ≤ p.2) → ∀ x ∈ partsOf le ps st, x.2.1 ≤ clip le (st + longs ps)
  | [], _, _, x, h => by cases h
  | (t, g) :: r, st, hg, x, h => by
    have hg1 : 1 ≤ g := hg (t, g) (by simp)
    have hr : ∀ p ∈ r, 1 ≤ p.2 := fun x hx => hg x (by simp [hx])
    have h0 := longs_nonneg hr
    have h : x ∈ (if st < clip le (st + g) then [(st, clip le (st + g), t)] else []) ++ partsOf le r (clip le (st + g)) := h
    rw [longs_cons]
    show x.2.1 ≤ clip le (st + (g + longs r))
    rcases List.mem_append.mp h with h | h
    · by_cases hc : st < clip le (st + g)
      · rw [if_pos hc] at h
        simp only [List.mem_cons, List.not_mem_nil, or_false] at h
        subst h
        exact clip_mono (by omega)
      · rw [if_neg hc] at h
        cases h
    · have ih := parts_le r (clip le (st + g)) hr x h
      rw [clip_clip h0] at ih
      rw [← Int.add_assoc]
      exact ih
/-- one of them ends there -/
theorem parts_has {le : Option Int} : ∀ (ps : List (Int × Int)) (st : Int), (∀ p ∈ ps, 1 ≤ p.2) → st < clip le (st + longs ps) → ∃ x ∈ partsOf le ps st, x.2.1 = clip le (st + longs ps)
  | [], st, _, h => by
    have e : longs [] = 0 := rfl
    rw [e, Int.add_zero] at h
    have := clip_le (le := le) (e := st)
    omega
  | (t, g) :: r, st, hg, h => by
    have hg1 : 1 ≤ g := hg (t, g) (by simp)
    have hr : ∀ p ∈ r, 1 ≤ p.2 := fun x hx => hg x (by simp [hx])
    have h0 := longs_nonneg hr
    rw [longs_cons] at h ⊢
    have e1 : st + ((t, g).2 + longs r) = st + g + longs r := by
      show st + (g + longs r) = _
      omega
    rw [e1] at h ⊢
    have e2 : clip le (clip le (st + g) + longs r) = clip le (st + g + longs r) := clip_clip h0
    by_cases hc : clip le (st + g) < clip le (st + g + longs r)
    · obtain ⟨x, h1, h2⟩ := parts_has r (clip le (st + g)) hr (by rw [e2]; exact hc)
      refine ⟨x, List.mem_append_right _ h1, ?_⟩
      rw [h2, e2]
    · have e3 : clip le (st + g) = clip le (st + g + longs r) := by
        have := clip_mono (le := le) (e := st + g) (f := st + g + longs r) (by omega)
        omega
      refine ⟨(st, clip le (st + g), t), List.mem_append_left _ ?_, e3⟩
      rw [if_pos (by omega)]
      simp
/-- the law's own parts: the last one ends there -/
theorem law_nil {le : Option Int} : ∀ (ps : List (Int × Int)) (st : Int), (∀ p ∈ ps, 1 ≤ p.2) → clip le st < st ∨ (∃ n, le = some n ∧ n ≤ st) → lawParts le ps st = []
  | [], _, _, _ => rfl
  | (t, g) :: r, st, hg, h => by
    have hg1 : 1 ≤ g := hg (t, g) (by simp)
    have hr : ∀ p ∈ r, 1 ≤ p.2 := fun x hx => hg x (by simp [hx])
    have hn : ∃ n, le = some n ∧ n ≤ st := by
      rcases h with h | h
      · cases le with
        | none => exact absurd h (Int.lt_irrefl _)
        | some n =>
          refine ⟨n, rfl, ?_⟩
          have h : (if n < st then n else st) < st := h
          split at h <;> omega
      · exact h
    obtain ⟨n, rfl, hn⟩ := hn
    show (if st < clip (some n) (st + g) then _ else []) ++ lawParts (some n) r (st + g) = []
    rw [law_nil r (st + g) hr (.inr ⟨n, rfl, by omega⟩), if_neg]
    · rfl
    · show ¬ st < (if n < st + g then n else st + g)
      split <;> omega
theorem law_last {le : Option Int} : ∀ (ps : List (Int × Int)) (st : Int), ps ≠ [] → (∀ p ∈ ps, 1 ≤ p.2) → (∀ n, le = some n → st < n) → ∃ ys b t, lawParts le ps st = ys ++ [(b, clip le (st + longs ps), t)]
  | [], _, h, _, _ => absurd rfl h
  | (t, g) :: r, st, _, hg, hn => by
    have hg1 : 1 ≤ g := hg (t, g) (by simp)
    have hr : ∀ p ∈ r, 1 ≤ p.2 := fun x hx => hg x (by simp [hx])
    have h0 := longs_nonneg hr
    have hc : st < clip le (st + g) := by
      cases le with
      | none => show st < st + g; omega
      | some n =>
        have := hn n rfl
        show st < (if n < st + g then n else st + g)
        split <;> omega
    have e : lawParts le ((t, g) :: r) st = (st, clip le (st + g), t) :: lawParts le r (st + g) := by
      show (if st < clip le (st + g) then _ else []) ++ lawParts le r (st + g) = _
      rw [if_pos hc]
      rfl
    rw [e, longs_cons]
    have e1 : st + ((t, g).2 + longs r) = st + g + longs r := by
      show st + (g + longs r) = _
      omega
    rw [e1]
    by_cases hz : r = [] ∨ ∃ n, le = some n ∧ n ≤ st + g
    · have e2 : lawParts le r (st + g) = [] := by
        rcases hz with rfl | hz
        · rfl
        · exact law_nil r (st + g) hr (.inr hz)
      refine ⟨[], st, t, ?_⟩
      rw [e2]
      have e3 : clip le (st + g) = clip le (st + g + longs r) := by
        rcases hz with rfl | ⟨n, rfl, hz⟩
        · show clip le (st + g) = clip le (st + g + 0)
          rw [Int.add_zero]
        · show (if n < st + g then n else st + g) = if n < st + g + longs r then n else st + g + longs r
          split <;> split <;> omega
      rw [e3]
      rfl
    · have hr0 : r ≠ [] := fun z => hz (.inl z)
      have hn2 : ∀ n, le = some n → st + g < n := fun n e => by
        by_cases h : st + g < n
        · exact h
        · exact absurd (.inr ⟨n, e, by omega⟩) hz
      obtain ⟨ys, b, t', h⟩ := law_last r (st + g) hr0 hr hn2
      exact ⟨_ :: ys, b, t', by rw [h]; rfl⟩
theorem law_len {le : Option Int} : ∀ (ps : List (Int × Int)) (st : Int), (lawParts le ps st).length ≤ ps.length
  | [], _ => Nat.le_refl _
  | (t, g) :: r, st => by
    show ((if st < clip le (st + g) then [(st, clip le (st + g), t)] else []) ++ lawParts le r (st + g)).length ≤ r.length + 1
    rw [List.length_append]
    have := law_len (le := le) r (st + g)
    split
    · show 1 + _ ≤ _
      omega
    · show 0 + _ ≤ _
      omega
theorem part_len {le : Option Int} : ∀ (ps : List (Int × Int)) (st : Int), (partsOf le ps st).length ≤ ps.length
  | [], _ => Nat.le_refl _
  | (t, g) :: r, st => by
    show ((if st < clip le (st + g) then [(st, clip le (st + g), t)] else []) ++ partsOf le r (clip le (st + g))).length ≤ r.length + 1
    rw [List.length_append]
    have := part_len (le := le) r (clip le (st + g))
    split
    · show 1 + _ ≤ _
      omega
    · show 0 + _ ≤ _
      omega
/-- how thick a laid wisp is at a place -/
def thickL (L : Lw) (p : Int) : Int := if p < L.pl then 0 else match L.le with
  | none => thickAt L.ps (p - L.pl)
  | some n => if n ≤ p then 0 else thickAt L.ps (p - L.pl)
theorem thick_pos : ∀ (ps : List (Int × Int)) (k : Int), 0 ≤ k → (∀ p ∈ ps, 1 ≤ p.1 ∧ 1 ≤ p.2) → (0 < thickAt ps k ↔ k < longs ps)
  | [], k, h, _ => by
    have e : longs [] = 0 := rfl
    show (0 : Int) < 0 ↔ k < longs []
    omega
  | (t, g) :: r, k, h, hg => by
    have hg1 := hg (t, g) (by simp)
    have ht : 1 ≤ t := hg1.1
    have hgg : 1 ≤ g := hg1.2
    have hr : ∀ p ∈ r, 1 ≤ p.1 ∧ 1 ≤ p.2 := fun x hx => hg x (by simp [hx])
    have h0 := longs_nonneg fun x hx => (hr x hx).2
    rw [longs_cons]
    show 0 < (if k < g then t else thickAt r (k - g)) ↔ k < g + longs r
    by_cases hk : k < g
    · rw [if_pos hk]
      constructor <;> intro _ <;> omega
    · rw [if_neg hk, thick_pos r (k - g) (by omega) hr]
      omega
theorem thick_runs {L : Lw} (g : GoodL L) (p : Int) : 0 < thickL L p ↔ L.pl ≤ p ∧ p < lastOf L := by
  have hp : ∀ x ∈ L.ps, 1 ≤ x.1 ∧ 1 ≤ x.2 := fun x hx => ⟨(g.1.2.2 x hx).1, (g.1.2.2 x hx).2.2.1⟩
  unfold thickL lastOf clip
  by_cases h : p < L.pl
  · rw [if_pos h]
    omega
  · rw [if_neg h]
    have tp := thick_pos L.ps (p - L.pl) (by omega) hp
    cases q : L.le with
    | none =>
      show 0 < thickAt L.ps (p - L.pl) ↔ L.pl ≤ p ∧ p < L.pl + longs L.ps
      rw [tp]
      omega
    | some n =>
      show 0 < (if n ≤ p then 0 else thickAt L.ps (p - L.pl)) ↔ L.pl ≤ p ∧ p < (if n < L.pl + longs L.ps then n else L.pl + longs L.ps)
      by_cases h2 : n ≤ p
      · rw [if_pos h2]
        split <;> omega
      · rw [if_neg h2, tp]
        split <;> omega
theorem last_gt {L : Lw} (g : GoodL L) : L.pl < lastOf L := by
  have hp : ∀ x ∈ L.ps, 1 ≤ x.2 := fun x hx => (g.1.2.2 x hx).2.2.1
  have hl : 1 ≤ longs L.ps := by
    cases q : L.ps with
    | nil =>
      have := g.1.1
      rw [q] at this
      exact absurd this (by decide)
    | cons p r =>
      rw [q] at hp
      have h1 := hp p (by simp)
      have h2 := longs_nonneg (ps := r) fun x hx => hp x (by simp [hx])
      rw [longs_cons]
      omega
  unfold lastOf clip
  cases q : L.le with
  | none => show L.pl < L.pl + longs L.ps; omega
  | some n =>
    have := (g.2.2.2.2.2 n q).1
    show L.pl < (if n < L.pl + longs L.ps then n else L.pl + longs L.ps)
    split <;> omega
def spThickOf : Sp := fun vs H Q _ => ∃ (a : Addr) (L : Lw) (p : Int), vs = [.ref a, .int p] ∧ LaidAt H a L ∧ Q (.int (thickL L p)) H
def spPartsOf : Sp := fun vs H Q _ => ∃ (a : Addr) (L : Lw), vs = [.ref a] ∧ LaidAt H a L ∧ L.ps.length ≤ 10 ∧ ∀ H' o, Same H H' → H o = none → TableAt H' o (partsOf L.le L.ps L.pl) → Q (.ref o) H'
def spThicks : Sp := fun vs H Q _ => ∃ (a : Addr) (Ls : List Lw) (p : Int), vs = [.ref a, .int p] ∧ StrandAt H a Ls ∧ Ls.length ≤ 60 ∧ ∀ H' o, Same H H' → H o = none → H' o = some (.lst ((Ls.map fun L => thickL L p).map V.int)) → Q (.ref o) H'
def numsFrom : Nat → List Int → List Int
  | _, [] => []
  | k, x :: r => (if 0 < x then [(k : Int)] else []) ++ numsFrom (k + 1) r
theorem nums_snoc : ∀ (xs : List Int) (k : Nat) (x : Int), numsFrom k (xs ++ [x]) = numsFrom k xs ++ (if 0 < x then [((k + xs.length : Nat) : Int)] else [])
  | [], k, x => by
    show (if 0 < x then [(k : Int)] else []) ++ [] = [] ++ _
    rw [List.append_nil]
    rfl
  | y :: r, k, x => by
    show (if 0 < y then [(k : Int)] else []) ++ numsFrom (k + 1) (r ++ [x]) = (if 0 < y then [(k : Int)] else []) ++ numsFrom (k + 1) r ++ _
    rw [nums_snoc r (k + 1) x, List.append_assoc, show k + 1 + r.length = k + (y :: r).length by rw [List.length_cons]; omega]
theorem nums_nil : ∀ (xs : List Int) (k : Nat), (∀ x ∈ xs, ¬ 0 < x) → numsFrom k xs = []
  | [], _, _ => rfl
  | y :: r, k, h => by
    show (if 0 < y then [(k : Int)] else []) ++ numsFrom (k + 1) r = []
    rw [if_neg (h y (by simp)), nums_nil r (k + 1) fun x hx => h x (by simp [hx])]
    rfl
theorem nums_ne : ∀ (xs : List Int) (k : Nat) (x : Int), x ∈ xs → 0 < x → numsFrom k xs ≠ []
  | y :: r, k, x, h, hx => by
    show (if 0 < y then [(k : Int)] else []) ++ numsFrom (k + 1) r ≠ []
    rcases List.mem_cons.mp h with rfl | h
    · rw [if_pos hx]
      exact fun z => by cases z
    · intro z
      exact nums_ne r (k + 1) x h hx (List.append_eq_nil_iff.mp z).2
theorem nums_len : ∀ (xs : List Int) (k : Nat), (numsFrom k xs).length ≤ xs.length
  | [], _ => Nat.le_refl _
  | y :: r, k => by
    show ((if 0 < y then [(k : Int)] else []) ++ numsFrom (k + 1) r).length ≤ r.length + 1
    rw [List.length_append]
    have := nums_len r (k + 1)
    split
    · show 1 + _ ≤ _
      omega
    · show 0 + _ ≤ _
      omega
def spNumbers : Sp := fun vs H Q _ => ∃ (a : Addr) (ns : List Int), vs = [.ref a] ∧ H a = some (.lst (ns.map V.int)) ∧ ns.length ≤ 60 ∧ ∀ H' o, Same H H' → H o = none → H' o = some (.tup ((numsFrom 0 ns).map V.int)) → Q (.ref o) H'
def spRunning : Sp := fun vs H Q _ => ∃ (a : Addr) (Ls : List Lw) (p : Int), vs = [.ref a, .int p] ∧ StrandAt H a Ls ∧ Ls.length ≤ 60 ∧ ∀ H' o, Same H H' → H o = none → H' o = some (.tup ((numsFrom 0 (Ls.map fun L => thickL L p)).map V.int)) → Q (.ref o) H'
def IsEnd (Ls : List Lw) (m : Int) : Prop := (Ls = [] → m = 0) ∧ (Ls ≠ [] → ∃ L ∈ Ls, m = lastOf L) ∧ ∀ L ∈ Ls, lastOf L ≤ m
def spEnd : Sp := fun vs H Q _ => ∃ (a : Addr) (Ls : List Lw), vs = [.ref a] ∧ StrandAt H a Ls ∧ Ls.length ≤ 60 ∧ (∀ L ∈ Ls, GoodL L) ∧ ∀ H' m, Same H H' → IsEnd Ls m → Q (.int m) H'
theorem letV_none : (!decide (letV none = V.non)) = false := by decide
theorem letV_some (n : Int) : (!decide (letV (some n) = V.non)) = true := by
  rw [decide_eq_false (fun z : letV (some n) = V.non => by cases z)]
  rfl
theorem letV_some' (n : Int) : decide (letV (some n) = V.non) = false := decide_eq_false (fun z : letV (some n) = V.non => by cases z)
theorem iteEqT {b : Bool} {A B : Prop} (e : b = true) (h : A) : if b = true then A else B := by
  rw [if_pos e]
  exact h
theorem iteEqF {b : Bool} {A B : Prop} (e : b = false) (h : B) : if b = true then A else B := by
  rw [e, if_neg Bool.false_ne_true]
  exact h
def endsOf (L : Lw) : List Int := (partsOf L.le L.ps L.pl).map fun t => t.2.1
theorem ends_ok {Ls : List Lw} (g : ∀ L ∈ Ls, GoodL L) {m : Int} (h : (Ls.map endsOf).flatten = [] ∧ m = 0 ∨ m ∈ (Ls.map endsOf).flatten ∧ ∀ y, y ∈ (Ls.map endsOf).flatten → y ≤ m) : IsEnd Ls m := by
  have has : ∀ L ∈ Ls, lastOf L ∈ (Ls.map endsOf).flatten := fun L hL => by
    have gL := g L hL
    have hp : ∀ x ∈ L.ps, 1 ≤ x.2 := fun x hx => (gL.1.2.2 x hx).2.2.1
    obtain ⟨x, h1, h2⟩ := parts_has (le := L.le) L.ps L.pl hp (last_gt gL)
    refine List.mem_flatten.mpr ⟨endsOf L, List.mem_map.mpr ⟨L, hL, rfl⟩, List.mem_map.mpr ⟨x, h1, h2⟩⟩
  have at_ : ∀ y ∈ (Ls.map endsOf).flatten, ∃ L ∈ Ls, y ≤ lastOf L := fun y hy => by
    obtain ⟨l, h1, h2⟩ := List.mem_flatten.mp hy
    obtain ⟨L, hL, rfl⟩ := List.mem_map.mp h1
    obtain ⟨x, h3, rfl⟩ := List.mem_map.mp h2
    have gL := g L hL
    exact ⟨L, hL, parts_le L.ps L.pl (fun x hx => (gL.1.2.2 x hx).2.2.1) x h3⟩
  rcases h with ⟨h0, rfl⟩ | ⟨h1, h2⟩
  · have hn : Ls = [] := by
      cases Ls with
      | nil => rfl
      | cons L r =>
        have := has L (by simp)
        rw [h0] at this
        cases this
    exact ⟨fun _ => rfl, fun z => absurd hn z, fun L hL => by rw [hn] at hL; cases hL⟩
  · have hn : Ls ≠ [] := fun z => by
      rw [z] at h1
      cases h1
    obtain ⟨L, hL, hle⟩ := at_ m h1
    have := h2 _ (has L hL)
    exact ⟨fun z => absurd z hn, fun _ => ⟨L, hL, by omega⟩, fun L' hL' => h2 _ (has L' hL')⟩
theorem LaidAt.same {H H' : Hp} {a : Addr} {L : Lw} (e : Same H H') (h : LaidAt H a L) : LaidAt H' a L := h.mono (Tups.same e)
def spPick : Sp := fun vs H Q _ => ∃ (p l : Addr) (T : Nat) (a : Addr) (xs : List V), vs = [.ref p, .ref a] ∧ Pot H p l T ∧ T < 2 ^ 39 ∧ H a = some (.lst xs) ∧ a ≠ p ∧ a ≠ l ∧ 1 ≤ xs.length ∧ xs.length ≤ 2000 ∧
  ∀ H' (j : Nat) x, xs[j]? = some x → Pot H' p l (T + 1) → Keep p l H H' → Q x H'
def LPartsAt (H : Hp) (bs : List Addr) (Ls : List Lw) : Prop := bs.length = Ls.length ∧ ∀ (i : Nat) (b : Addr), bs[i]? = some b → ∃ L, Ls[i]? = some L ∧ TableAt H b (lawParts L.le L.ps L.pl)
theorem TableAt.same {H H' : Hp} {o : Addr} {ts : List (Int × Int × Int)} (e : Same H H') (h : TableAt H o ts) : TableAt H' o ts := by
  obtain ⟨as, h1, h2⟩ := h
  exact ⟨as, e _ _ h1, h2.mono (Tups.same e)⟩
theorem LPartsAt.same {H H' : Hp} {bs : List Addr} {Ls : List Lw} (e : Same H H') (h : LPartsAt H bs Ls) : LPartsAt H' bs Ls := ⟨h.1, fun i b hb => by
  obtain ⟨L, h1, h2⟩ := h.2 i b hb
  exact ⟨L, h1, TableAt.same e h2⟩⟩
theorem LPartsAt.nil {H : Hp} : LPartsAt H [] [] := ⟨rfl, fun i a h => by simp at h⟩
theorem LPartsAt.snoc {H : Hp} {as : List Addr} {Ls : List Lw} {a : Addr} {L : Lw} (h : LPartsAt H as Ls) (e : TableAt H a (lawParts L.le L.ps L.pl)) : LPartsAt H (as ++ [a]) (Ls ++ [L]) := by
  refine ⟨by simp [h.1], fun i b hb => ?_⟩
  by_cases hi : i < as.length
  · rw [List.getElem?_append_left hi] at hb
    obtain ⟨M, h1, h2⟩ := h.2 i b hb
    exact ⟨M, by rw [List.getElem?_append_left (by rw [← h.1]; exact hi)]; exact h1, h2⟩
  · rw [List.getElem?_append_right (by omega)] at hb
    have hz : i - as.length = 0 := by
      cases hk : i - as.length with
      | zero => rfl
      | succ n =>
        rw [hk] at hb
        simp at hb
    rw [hz] at hb
    have : a = b := Option.some.inj hb
    subst this
    refine ⟨L, ?_, e⟩
    rw [List.getElem?_append_right (by rw [← h.1]; omega), ← h.1, hz]
    rfl
def spLawParts : Sp := fun vs H Q _ => ∃ (a : Addr) (Ls : List Lw), vs = [.ref a] ∧ StrandAt H a Ls ∧ Ls.length ≤ 60 ∧ (∀ L ∈ Ls, GoodL L) ∧ ∀ (H' : Hp) (o : Addr) (bs : List Addr), Same H H' → H o = none → H' o = some (.lst (bs.map V.ref)) → LPartsAt H' bs Ls → Q (.ref o) H'
/-- the last part of the law's own -/
theorem lp_last {H : Hp} {b : Addr} {L : Lw} (g : GoodL L) (h : TableAt H b (lawParts L.le L.ps L.pl)) : ∃ (as : List Addr) (z : Addr) (t b' : Int), H b = some (.lst (as.map V.ref)) ∧ atI (as.map V.ref) (-1) = some (.ref z) ∧ H z = some (.tup [.int b', .int (lastOf L), .int t]) := by
  obtain ⟨as, h1, h2⟩ := h
  have hp : ∀ x ∈ L.ps, 1 ≤ x.2 := fun x hx => (g.1.2.2 x hx).2.2.1
  have hne : L.ps ≠ [] := fun e => by
    have := g.1.1
    rw [e] at this
    exact absurd this (by decide)
  obtain ⟨ys, b', t, e⟩ := law_last (le := L.le) L.ps L.pl hne hp fun n hn => (g.2.2.2.2.2 n hn).1
  rw [e] at h2
  have hl : as.length = ys.length + 1 := by
    have := h2.1
    simpa using this
  have hi : ys.length < as.length := by omega
  have e1 : (as.map V.ref)[ys.length]? = some (.ref as[ys.length]) := by
    rw [List.getElem?_map, List.getElem?_eq_getElem hi]
    rfl
  obtain ⟨z, b2, c2, d2, e2, e3, e4⟩ := row_get h2 e1
  rw [List.getElem?_append_right (Nat.le_refl _), Nat.sub_self] at e3
  have e5 := Option.some.inj e3
  obtain ⟨e6, e7⟩ := Prod.mk.inj e5
  obtain ⟨e8, e9⟩ := Prod.mk.inj e7
  refine ⟨as, z, t, b', h1, ?_, ?_⟩
  · have h0 : as.map V.ref ≠ [] := fun q => by
      have := congrArg List.length q
      rw [List.length_map, hl] at this
      exact absurd this (by simp)
    have h3 : (as.map V.ref).getLast h0 = .ref z := by
      have := List.getLast?_eq_getLast h0
      rw [List.getLast?_eq_getElem?, List.length_map, hl, Nat.add_sub_cancel, e1] at this
      exact (Option.some.inj this).symm.trans e2
    have h4 := List.dropLast_concat_getLast h0
    rw [h3] at h4
    rw [← h4]
    exact atI_last _ _
  · rw [e4, ← e6, ← e8, ← e9]
    rfl
theorem LPartsAt.other {H : Hp} {bs : List Addr} {Ls : List Lw} {o : Addr} {xs : List V} {u : HO} (h : LPartsAt H bs Ls) (hne : ∀ b ∈ bs, b ≠ o) (eo : H o = some (.lst xs)) : LPartsAt (upd H o u) bs Ls := ⟨h.1, fun i b hb => by
  obtain ⟨L, h1, as, h2, h3⟩ := h.2 i b hb
  exact ⟨L, h1, as, by rw [upd_ne (hne b (List.mem_of_getElem? hb))]; exact h2, h3.mono (Tups.ls eo)⟩⟩
def Sf (p l S : Addr) (as : List Addr) (Ls : List Lw) (H H' : Hp) (T : Nat) : Prop := H' S = some (.lst (as.map V.ref)) ∧ LaidsAt H' as Ls ∧ Pot H' p l T ∧ Keep p l H H'
theorem Sf.keep {p l S : Addr} {as : List Addr} {Ls : List Lw} {H H' H2 : Hp} {T U : Nat} (h : Sf p l S as Ls H H' T) (n1 : S ≠ p) (n2 : S ≠ l) (k : Keep p l H' H2) (hp : Pot H2 p l U) : Sf p l S as Ls H H2 U := ⟨k _ _ n1 n2 h.1, h.2.1.mono (k.tups h.2.2.1), hp, h.2.2.2.trans k⟩
theorem Sf.new {p l S a : Addr} {as : List Addr} {Ls : List Lw} {H H' : Hp} {T : Nat} {o : HO} (h : Sf p l S as Ls H H' T) (n : H' a = none) : Sf p l S as Ls H (upd H' a o) T := ⟨by rw [upd_ne (ne_of_none h.1 n)]; exact h.1, h.2.1.mono (Tups.new n), h.2.2.1.new n, h.2.2.2.new n⟩
theorem Sf.up {p l S : Addr} {as : List Addr} {Ls : List Lw} {H H' : Hp} {T U : Nat} (h : Sf p l S as Ls H H' T) (e : T ≤ U) : Sf p l S as Ls H H' U := ⟨h.1, h.2.1, h.2.2.1.mono e, h.2.2.2⟩
theorem cut_take (xs : List V) (n : Nat) : cutV xs none (some (n : Int)) = xs.take n := by
  unfold cutV
  rw [HT.sIx_none, HT.sIx_nat]
  show (xs.drop 0).take (min n xs.length - 0) = xs.take n
  rw [List.drop_zero, Nat.sub_zero]
  by_cases h : n ≤ xs.length
  · rw [Nat.min_eq_left h]
  · rw [Nat.min_eq_right (by omega), List.take_length, List.take_of_length_le (by omega)]
def spStrand : Sp := fun vs H Q _ => ∃ (p l : Addr) (T : Nat) (most : Int) (small : Bool), vs = [.ref p, .int most, .bl small] ∧ Pot H p l T ∧ T < 2 ^ 37 ∧ (most = 8 ∨ most = 60) ∧
  ∀ H' a Ls, Pot H' p l (T + 20000) → Keep p l H H' → StrandAt H' a Ls → Ls.length ≤ 60 → (∀ L ∈ Ls, GoodL L) → Q (.ref a) H'
theorem first_of {ns : List Int} {M : Int} (h : M ∈ ns) : ∃ j : Nat, ns[j]? = some M ∧ ∀ m z, m < j → ns[m]? = some z → z ≠ M := by
  induction ns with
  | nil => cases h
  | cons y r ih =>
    by_cases e : y = M
    · exact ⟨0, by rw [e]; rfl, fun m z hm _ => absurd hm (Nat.not_lt_zero _)⟩
    · have hr : M ∈ r := by
        rcases List.mem_cons.mp h with h | h
        · exact absurd h.symm e
        · exact h
      obtain ⟨j, h1, h2⟩ := ih hr
      refine ⟨j + 1, h1, fun m z hm hz => ?_⟩
      cases m with
      | zero =>
        have : y = z := Option.some.inj hz
        rw [← this]
        exact e
      | succ m => exact h2 m z (by omega) hz
theorem cut_drop (xs : List V) (n : Nat) (h : n ≤ xs.length) : cutV xs (some (n : Int)) none = xs.drop n := by
  unfold cutV
  rw [HT.sIx_none, HT.sIx_nat, Nat.min_eq_left h]
  exact List.take_of_length_le (by rw [List.length_drop]; exact Nat.le_refl _)
theorem LaidsAt.parts {H : Hp} {as : List Addr} {Ls : List Lw} {n : Nat} {b : Addr} {L : Lw} (h : LaidsAt H as Ls) (hn : n < as.length) (e : LaidAt H b L) : LaidsAt H (as.take n ++ [b] ++ as.drop (n + 1)) (Ls.set n L) := by
  have e1 : as.take n ++ [b] ++ as.drop (n + 1) = as.set n b := by
    rw [List.set_eq_take_append_cons_drop, if_pos hn, List.append_assoc]
    rfl
  rw [e1]
  exact h.set e n
def lasts (Ls : List Lw) : List Int := Ls.map lastOf
def spLetLast : Sp := fun vs H Q _ => ∃ (p l : Addr) (T : Nat) (a : Addr) (Ls : List Lw), vs = [.ref p, .ref a] ∧ Pot H p l T ∧ T < 2 ^ 38 ∧ StrandAt H a Ls ∧ Ls ≠ [] ∧ Ls.length ≤ 60 ∧ (∀ L ∈ Ls, GoodL L) ∧
  ∀ (H' : Hp) (b : Addr) (Ms : List Lw), Pot H' p l (T + 1) → Keep p l H H' → StrandAt H' b Ms → Ms.length = Ls.length → (∀ L ∈ Ms, GoodL L) → Q (.ref b) H'
theorem last_lt {L : Lw} (g : GoodL L) : lastOf L < 2 ^ 205 := by
  have h1 := longs_lt g.1
  have h2 := g.2.2.2.2.1
  have h3 : (2 : Int) ^ 204 + 2 ^ 140 < 2 ^ 205 := by decide
  have h4 := clip_le (le := L.le) (e := L.pl + longs L.ps)
  unfold lastOf
  omega
theorem slA {K : PySem.W.Frag} {H : Hp} {a : Addr} {xs : List V} {lo hi : Option Int} {Q : VK} (h : H a = some (.tup xs)) (q : ∀ H' p, Same H H' → H' p = some (.tup (cutV xs lo hi)) → Q (.ref p) H') : rSlA K (.ref a) lo hi H Q := by
  refine ⟨a, xs, rfl, SqT.of h, fun e => ?_, fun _ p np => q _ p (same_new (Same.refl H) np) upd_same⟩
  refine q H a (Same.refl H) ?_
  rw [h]
  unfold cutV
  rw [e.1, e.2, List.drop_zero, Nat.sub_zero, List.take_length]
theorem catA {K : PySem.W.Frag} {H : Hp} {a b : Addr} {xs ys : List V} {Q : VK} (ha : H a = some (.tup xs)) (hb : H b = some (.tup ys)) (hz : xs.length + ys.length ≤ sizeLine) (q : ∀ H' p, Same H H' → H' p = some (.tup (xs ++ ys)) → Q (.ref p) H') : rCatA K (.ref a) (.ref b) H Q := by
  refine ⟨a, b, xs, ys, rfl, rfl, SqT.of ha, SqT.of hb, hz, fun e => ?_, fun _ e => ?_, fun _ _ p np => q _ p (same_new (Same.refl H) np) upd_same⟩
  · refine q H b (Same.refl H) ?_
    rw [hb, e]
    rfl
  · refine q H a (Same.refl H) ?_
    rw [ha, e, List.append_nil]
theorem can_all {xs : List PyData} (h : ∀ x ∈ xs, x.canLay0 = true) : PyData.canLayAll0 xs = true := by
  induction xs with
  | nil => rfl
  | cons x r ih =>
    show (x.canLay0 && PyData.canLayAll0 r) = true
    rw [h x (by simp), ih fun y hy => h y (by simp [hy])]
    rfl
theorem Sh.can {d : PyData} (h : Sh d) : d.canLay0 = true := by
  induction h with
  | non => rfl
  | bl b => rfl
  | int h => rfl
  | lst _ ih => exact can_all ih
  | tup _ ih => exact can_all ih
theorem depth_all {xs : List PyData} {n : Nat} (h : ∀ x ∈ xs, x.depth ≤ n) : PyData.depthAll xs ≤ n := by
  induction xs with
  | nil => exact Nat.zero_le _
  | cons x r ih => exact Nat.max_le.mpr ⟨h x (by simp), ih fun y hy => h y (by simp [hy])⟩
def letD : Option Int → PyData
  | none => .none
  | some n => .int n
def laidD (L : Lw) : PyData := .tuple [wispD L.so L.ps, .int L.pl, letD L.le]
def strandD (Ls : List Lw) : PyData := .tuple (Ls.map laidD)
theorem laid_sh {L : Lw} (g : GoodL L) : Sh (laidD L) := by
  refine .tup fun x hx => ?_
  simp only [List.mem_cons, List.not_mem_nil, or_false] at hx
  rcases hx with rfl | rfl | rfl
  · exact wisp_sh g.2.1 g.2.2.1 g.1
  · exact sh_nat g.2.2.2.1 (Int.lt_trans g.2.2.2.2.1 (by decide))
  · cases h : L.le with
    | none => exact .non
    | some n =>
      have := g.2.2.2.2.2 n h
      have h0 := g.2.2.2.1
      exact .int (log_lt (by omega) (Int.lt_trans this.2 (by decide)))
theorem laid_depth (L : Lw) : (laidD L).depth ≤ 4 := by
  have := wisp_depth L.so L.ps
  refine Nat.succ_le_succ (depth_all fun x hx => ?_)
  simp only [List.mem_cons, List.not_mem_nil, or_false] at hx
  rcases hx with rfl | rfl | rfl
  · exact this
  · exact Nat.zero_le _
  · cases L.le with
    | none => exact Nat.zero_le _
    | some n => exact Nat.zero_le _
theorem strand_sh {Ls : List Lw} (g : ∀ L ∈ Ls, GoodL L) : Sh (strandD Ls) := .tup fun x hx => by
  obtain ⟨L, hL, rfl⟩ := List.mem_map.mp hx
  exact laid_sh (g L hL)
theorem strand_depth (Ls : List Lw) : (strandD Ls).depth ≤ 5 := Nat.succ_le_succ (depth_all fun x hx => by
  obtain ⟨L, hL, rfl⟩ := List.mem_map.mp hx
  exact laid_depth L)
theorem Sh.shaped {d : PyData} (h : Sh d) (hd : d.depth ≤ 64) : SeqAt.shaped d = true := Bool.and_eq_true_iff.mpr ⟨h.can, decide_eq_true hd⟩
theorem LaidAt.dp {K : PySem.W.Frag} {H : Hp} {a : Addr} {L : Lw} (h : LaidAt H a L) : Dp K H (.ref a) (laidD L) := by
  obtain ⟨wa, h1, h2⟩ := h
  refine .tup (SqT.of h1) (.cons h2.dp (.cons (.int _) (.cons ?_ .nil)))
  cases L.le with
  | none => exact .non
  | some n => exact .int n
theorem laids_dp {K : PySem.W.Frag} {H : Hp} : ∀ {as : List Addr} {Ls : List Lw}, LaidsAt H as Ls → DpAll K H (as.map V.ref) (Ls.map laidD)
  | [], [], _ => .nil
  | [], L :: r, h => absurd h.1 (by simp)
  | a :: r, [], h => absurd h.1 (by simp)
  | a :: as, L :: Ls, h => by
    obtain ⟨M, h1, h2⟩ := h.2 0 a rfl
    have e : L = M := Option.some.inj h1
    subst e
    exact .cons h2.dp (laids_dp ⟨Nat.succ.inj (by simpa using h.1), fun i b hb => h.2 (i + 1) b hb⟩)
theorem StrandAt.dp {K : PySem.W.Frag} {H : Hp} {a : Addr} {Ls : List Lw} (h : StrandAt H a Ls) : Dp K H (.ref a) (strandD Ls) := by
  obtain ⟨as, h1, h2⟩ := h
  exact .tup (SqT.of h1) (laids_dp h2)
theorem eq_nil (ds : List PyData) : PyData.eqv (.tuple ds) (.tuple []) = ds.isEmpty := by
  cases ds with
  | nil => rfl
  | cons x r => rfl
theorem ints_dp {K : PySem.W.Frag} {H : Hp} : ∀ ns : List Int, DpAll K H (ns.map V.int) (ns.map PyData.int)
  | [] => .nil
  | n :: r => .cons (.int n) (ints_dp r)
theorem ints_shaped (ns : List Int) : SeqAt.shaped (.tuple (ns.map PyData.int)) = true := by
  refine Bool.and_eq_true_iff.mpr ⟨can_all fun x hx => ?_, decide_eq_true (Nat.le_trans (Nat.succ_le_succ (depth_all (n := 0) fun x hx => ?_)) (by decide))⟩
  · obtain ⟨n, _, rfl⟩ := List.mem_map.mp hx
    rfl
  · obtain ⟨n, _, rfl⟩ := List.mem_map.mp hx
    exact Nat.le_refl _
def spRight7 : Sp := fun vs H Q _ => ∃ (p l : Addr) (T : Nat) (a : Addr) (Ls : List Lw), vs = [.ref p, .ref a] ∧ Pot H p l T ∧ T < 2 ^ 38 ∧ StrandAt H a Ls ∧ Ls.length ≤ 60 ∧ (∀ L ∈ Ls, GoodL L) ∧
  ∀ (H' : Hp), Pot H' p l (T + 5) → Keep p l H H' → Q (.bl true) H'
theorem end_is {Ls : List Lw} (g : ∀ L ∈ Ls, GoodL L) {m M : Int} (h : IsEnd Ls m) (h1 : M ∈ 0 :: lasts Ls) (h2 : ∀ y, y ∈ 0 :: lasts Ls → y ≤ M) : m = M := by
  obtain ⟨a1, a2, a3⟩ := h
  have h0 := h2 0 (by simp)
  by_cases hn : Ls = []
  · have e := a1 hn
    rw [hn] at h1
    have : M = 0 := by simpa [lasts] using h1
    omega
  · obtain ⟨L, hL, e⟩ := a2 hn
    have h3 := h2 m (List.mem_cons_of_mem _ (List.mem_map.mpr ⟨L, hL, e.symm⟩))
    have h4 := last_gt (g L hL)
    have h5 := (g L hL).2.2.2.1
    rcases List.mem_cons.mp h1 with h | h
    · omega
    · obtain ⟨L', hL', e'⟩ := List.mem_map.mp h
      have := a3 L' hL'
      omega
def Strs (H : Hp) (cs : List Addr) : Prop := ∀ c ∈ cs, ∃ Ls, StrandAt H c Ls ∧ Ls.length ≤ 60 ∧ ∀ L ∈ Ls, GoodL L
theorem Strs.mono {H H' : Hp} {cs : List Addr} (h : Strs H cs) (t : Tups H H') : Strs H' cs := fun c hc => by
  obtain ⟨Ls, h1, h2⟩ := h c hc
  exact ⟨Ls, h1.mono t, h2⟩
theorem ref_get {bs : List Addr} {i : Nat} {x : V} (h : (bs.map V.ref)[i]? = some x) : ∃ b, x = .ref b ∧ bs[i]? = some b := by
  rw [List.getElem?_map] at h
  cases q : bs[i]? with
  | none =>
    rw [q] at h
    cases h
  | some b =>
    rw [q] at h
    exact ⟨b, (Option.some.inj h).symm, rfl⟩
/-! ### dicts of numbers: update, sorted -/
section
variable {X : Cx}
def rUpd : V → List V → Hp → VK → Prop := fun x vs H Q => ∃ (a b : Addr) (kvs more : List (Key × V)), x = .ref a ∧ vs = [.ref b] ∧ H a = some (.dK kvs) ∧ H b = some (.dK more) ∧ a ≠ b ∧ kvs.length + more.length ≤ sizeLine ∧ Q .non (upd H a (.dK (mergeK kvs more)))
theorem mt_dupdate : MtR X "dict.update" rUpd := by
  intro pins s σ H x vs v us Q I rx rv h
  obtain ⟨a, b, kvs, more, rfl, rfl, ea, eb, ne, hz, q⟩ := h
  cases (show v = Value.ref a from rx)
  rw [Vals.ref1 rv]
  obtain ⟨z1, y1, vs1, rel1, dd1⟩ := dk_of I.hok ea
  obtain ⟨z2, y2, vs2, rel2, dd2⟩ := dk_of I.hok eb
  refine call_meetsIn PySem.F.slot_dict_update dd1.typeIs PySem.F.entry_dict_update (PySem.F.args_dict_update_2 _ _) (meets_dict_update (mixKind X.prog X.w) a b ne y2) ⟨vs1, vs2, dd1, dd2, by rw [← rel1.length, ← rel2.length]; exact hz, fun h' dd' _ hs => ?_⟩
  have he : ∃ o, h'.get? a = some o := dd'.elim fun o z => z.elim fun _ z => z.elim fun _ z => ⟨o, z.1⟩
  exact ⟨.non, _, d_write I (by rw [ea]; exact True.intro) hs he (dk_new (Nat.le_trans (length_mergeK more kvs) hz) y1 (KV.merge rel2 rel1) dd'), rfl, q⟩
def rSortD : List V → Hp → VK → Prop := fun xs H Q => ∃ (a : Addr) (kvs : List (Key × V)) (ks : List Int), xs = [.ref a] ∧ H a = some (.dK kvs) ∧ kvs.map (·.1) = ks.map Sum.inl ∧ ∀ (ys : List Int) (p : Addr), ys.Perm ks → ys.Pairwise (· ≤ ·) → H p = none → Q (.ref p) (upd H p (.lst (ys.map V.int)))
theorem call_sortD (hc : X.calm = true) : CallR X (.builtin "sorted") rSortD := by
  intro pins s σ H xs us Q I va h
  obtain ⟨a, kvs, ks, rfl, ea, hks, q⟩ := h
  rw [Vals.ref1 va]
  obtain ⟨z, lo, vs, rel, dd⟩ := dk_of I.hok ea
  obtain ⟨ep, hat⟩ := dd.dictAt
  have ek : vs.map (·.1) = ks.map Sum.inl := rel.keys.symm.trans hks
  have hl : vs.length = ks.length := by
    have e := congrArg List.length ek
    rw [List.length_map, List.length_map] at e
    exact e
  have hz : vs.length ≤ sizeLine := by rw [← rel.length]; exact z
  refine Calls.call_function_entry PyProof.Rows.kind_sorted PyProof.Rows.plain_sorted PyProof.Rows.entry_sorted (PyProof.Rows.args_sorted1 _) ?_
  unfold Builtin.«sorted»
  refine wpAny_bind (m := checkCount "sorted" 1 1 _) (wpAny_pure (wpAny_bind (PySem.W.kdu_collect (A := X.A.in1) (PySem.W.kdl_dict (knd := mixKind X.prog X.w) (kvs := vs) (ep := ep) lo) (I.ok.hd hc) hat hz fun h1 tk acc hk hacc => ?_)))
  have hal : acc.toList.length = ks.length := by rw [Array.length_toList, hacc.1, hl]
  have hS : IntsAre acc.toList ks := ints_each hal fun j v e => by
    obtain ⟨k, x, e1, e2⟩ := hacc.2 j v (by rw [← Array.getElem?_toList]; exact e)
    have e3 : (vs.map (·.1))[j]? = some k := by rw [List.getElem?_map, e1]; rfl
    rw [ek, List.getElem?_map] at e3
    cases e4 : ks[j]? with
    | none => rw [e4] at e3; cases e3
    | some y =>
      rw [e4] at e3
      cases (show Sum.inl y = k from Option.some.inj e3)
      rcases keyIs_shape (show keyIs (Sum.inl y) v = true from e2) with ⟨i, t, q1, q2⟩ | ⟨i, t, q1, q2⟩
      · cases q1
        exact ⟨y, t, rfl, q2⟩
      · cases q1
  have J : Inv X pins σ H { s with heap := h1, toks := tk } := I.kept hk
  have hz2 : acc.toList.length ≤ sizeLine := by rw [hal, ← hl]; exact hz
  refine wpAny_bind (wpAny_newList ?_ hz2)
  have hoL : (h1.push (seqObj "list" acc.toList.toArray 0)).get? h1.objs.size = some (seqObj "list" acc.toList.toArray 0) := Heap.get?_push_size _ rfl
  show wpAny _ _ _ _ _ { s with heap := h1.push (seqObj "list" acc.toList.toArray 0), toks := tk }
  refine wpAny_bind (wpAny_holding (wpAny_call_entry PyProof.Rows.slot_list_sort ⟨_, hoL, rfl⟩ PyProof.Rows.entry_list_sort (SrtO.list_sort_ord SrtO.swo_int hoL hz2 (fun h2 => SrtO.ints_sortable hS h2) fun out g1 g2 => ⟨_, rfl, ?_⟩) (PyProof.Rows.args_list_sort _)))
  obtain ⟨k1, k2, k3⟩ := SrtO.ints_out hS g1 g2
  obtain ⟨ep2, he2⟩ := PyProof.Rows.sortedHeap_at (vs := acc.toList) (out := out.toArray) hoL
  have hz3 : ((out.map SrtO.iv).map V.int).length ≤ sizeLine := by rw [List.length_map, k2.length_eq, ← hal]; exact hz2
  refine wpAny_pure ⟨_, rfl, .ref h1.objs.size, upd H h1.objs.size (.lst ((out.map SrtO.iv).map V.int)), J.laid (t' := tk) (fun b u e => ?_) (Nat.le_refl _) (show ObjOk X.prog X.w _ _ _ (.lst ((out.map SrtO.iv).map V.int)) from ⟨hz3, out, ep2, vals_of_ints k1, he2⟩), rfl, q _ _ k2 k3 (J.hok.fresh (Nat.le_refl _))⟩
  have hb : b < h1.objs.size := Heap.lt_size e
  rw [PyProof.Rows.sortedHeap_old (Nat.ne_of_lt hb) (by rw [size_push']; exact Nat.lt_succ_of_lt hb)]
  exact Heap.get?_push_of_some _ e
end
/-! ### zip of a tuple and a list -/
section
open PySem
variable {prog : Program} {w : World} {A : Around} {E : Value → Shared → Prop} {s : Shared}
theorem mixItem {z tI tO j1 j2 m1 m2 : Addr} {k : Nat} {us vs : Array Value} {u v a b : Value} {Q : Value → Shared → Prop} (D : ZipApart z tI tO j1 j2 m1 m2)
    (gz : IsZip s.heap z tI tO .none) (gI : IsPair s.heap tI (.ref j1) (.ref j2)) (gO : IsPair s.heap tO a b) (g1 : s.heap.IsTupleIter j1 m1 k) (g2 : s.heap.IsListIter j2 m2 k) (t1 : s.heap.IsTuple m1 us) (t2 : s.heap.IsList m2 vs) (e1 : us[k]? = some u) (e2 : vs[k]? = some v)
    (q : ∀ h', IsZip h' z tI tO (rawInt s.heap.objs.size) → IsPair h' tO u v → h'.IsTupleIter j1 m1 (k + 1) → h'.IsListIter j2 m2 (k + 1) → IsPair h' s.heap.objs.size u v → h'.objs.size = s.heap.objs.size + 1 →
      (∀ c o, ¬ c ∈ [z, tI, tO, j1, j2] ∨ c = tI → s.heap.get? c = some o → h'.get? c = some o) → Q (.ref s.heap.objs.size) { s with heap := h' }) :
    wpAny (model prog w) A (Builtin.«zip.__next__» ⟨[.ref z], []⟩) (fun r s' => ∃ x, r = .done (.ret x) ∧ Q x s') E s := by
  show wpAny _ _ (field (.ref z) 2 >>= _) _ _ _
  refine wpAny_bind (wpAny_field gz rfl (x := .bool false) rfl ?_)
  show wpAny _ _ (field (.ref z) 3 >>= _) _ _ _
  refine wpAny_bind (wpAny_field gz rfl (x := .ref tI) rfl (wpAny_bind (wpAny_seqItems gI rfl ?_)))
  show wpAny _ _ (Builtin.SmallTypes.ownedTupleIsFree (.ref z) >>= _) _ _ s
  refine wpAny_bind ?_; unfold Builtin.SmallTypes.ownedTupleIsFree
  refine wpAny_bind (wpAny_field gz rfl (x := .none) rfl (wpAny_pure ?_)); simp only [if_true]
  refine wpAny_bind (wpAny_rule (wpAny_bind (wpAny_field gz rfl (x := .ref tO) rfl (wpAny_bind (wpAny_setField_rec gz (by simp) fun p1 gz1 b1 => ?_)))))
  have gz1 : IsZip p1 z tI tO .ellipsis := gz1
  refine wpAny_bind ?_; simp only [List.forIn_cons, List.zipIdx_cons, List.forIn_nil, List.zipIdx_nil]
  -- the tuple's next one
  refine wpAny_bind (wpAny_bind (wpAny_onRaise ?_))
  show wpAny _ _ (Builtin.SmallTypes.nextOf (.ref j1) >>= _) _ _ _
  refine wpAny_bind (RZ.nextOf_tuple_item (g1.extBut b1.extBut D.i1z) (t1.extBut b1.extBut D.l1z) e1 fun p2 g12 b2 => wpAny_pure ?_)
  have gO2 : IsPair p2 tO a b := b2.extBut _ _ D.TOi1 (b1.extBut _ _ D.TOz gO)
  refine wpAny_bind (wpAny_seqItems gO2 rfl (wpAny_bind (wpAny_updateSeq_pair gO2 fun p3 gO3 b3 => wpAny_bind (wpAny_letGo (wpAny_pure ?_)))))
  have gO3 : IsPair p3 tO u b := gO3
  -- the list's next one
  refine wpAny_bind (wpAny_bind (wpAny_onRaise ?_))
  show wpAny _ _ (Builtin.SmallTypes.nextOf (.ref j2) >>= _) _ _ _
  have g23 := ((g2.extBut b1.extBut D.i2z).extBut b2.extBut D.i12.symm).extBut b3.extBut D.TOi2.symm
  have t23 := ((t2.extBut b1.extBut D.l2z).extBut b2.extBut D.l2i1).extBut b3.extBut D.l2TO
  refine wpAny_bind (wpAny_nextOf_list_item g23 t23 e2 fun p4 g24 b4 => wpAny_pure ?_)
  have gO4 : IsPair p4 tO u b := b4.extBut _ _ D.TOi2 gO3
  refine wpAny_bind (wpAny_seqItems gO4 rfl (wpAny_bind (wpAny_updateSeq_pair gO4 fun p5 gO5 b5 => wpAny_bind (wpAny_letGo (wpAny_pure (wpAny_pure ?_))))))
  have gO5 : IsPair p5 tO u v := gO5
  refine wpAny_bind (wpAny_seqItems gO5 rfl (wpAny_bind (wpAny_newTuple ?_)))
  have zs : p5.objs.size = s.heap.objs.size := by rw [b5.1, b4.1, b3.1, b2.1, b1.1]
  have gz5 : IsZip p5 z tI tO .ellipsis := b5.extBut _ _ D.TOz.symm (b4.extBut _ _ D.i2z.symm (b3.extBut _ _ D.TOz.symm (b2.extBut _ _ D.i1z.symm gz1)))
  have kp : ∀ c o, c ≠ z → c ≠ tO → c ≠ j1 → c ≠ j2 → s.heap.get? c = some o → p5.get? c = some o := fun c o n1 n2 n3 n4 e => by
    rw [b5.2 c n2, b4.2 c n4, b3.2 c n2, b2.2 c n3, b1.2 c n1]
    exact e
  have g15 : p5.IsTupleIter j1 m1 (k + 1) := g12.at fun o e => by
    rw [b5.2 _ D.TOi1.symm, b4.2 _ D.i12, b3.2 _ D.TOi1.symm]
    exact e
  have g25 : p5.IsListIter j2 m2 (k + 1) := g24.at fun o e => (b5.2 _ D.TOi2.symm).trans e
  have lz : z < p5.objs.size := Heap.lt_size gz5
  show wpAny _ _ (Builtin.SmallTypes.ownedTupleHandOut (.ref z) (.ref p5.objs.size) >>= _) _ _ _
  refine wpAny_bind ?_; unfold Builtin.SmallTypes.ownedTupleHandOut
  have gz6 : IsZip (p5.push { cls := .type "tuple", data := .seq #[u, v] }) z tI tO .ellipsis := Heap.get?_push_of_some _ gz5
  refine wpAny_bind (wpAny_setField_rec gz6 (by simp) fun p7 gz7 b7 => ?_)
  have gz7 : IsZip p7 z tI tO (rawInt p5.objs.size) := gz7
  refine wpAny_setField_rec gz7 (by simp) fun p8 gz8 b8 => wpAny_pure ⟨_, rfl, ?_⟩
  have gz8 : IsZip p8 z tI tO (rawInt p5.objs.size) := gz8
  have up : ∀ c o, c ≠ z → p5.get? c = some o → p8.get? c = some o := fun c o n e => by
    rw [b8.2 c n, b7.2 c n]
    exact Heap.get?_push_of_some _ e
  have gT : IsPair p8 p5.objs.size u v := by
    show p8.get? _ = _
    rw [b8.2 _ (Nat.ne_of_gt lz), b7.2 _ (Nat.ne_of_gt lz)]
    exact Heap.get?_push_size _ rfl
  have z8 : p8.objs.size = p5.objs.size + 1 := by rw [b8.1, b7.1, Heap.size_push]
  rw [zs] at gz8 gT z8
  show Q (.ref p5.objs.size) _
  rw [zs]
  refine q p8 gz8 (up _ _ D.TOz gO5) (g15.at fun o e => up _ o D.i1z e) (g25.at fun o e => up _ o D.i2z e) gT z8 fun c o n e => ?_
  have n4 : c ≠ z ∧ c ≠ tO ∧ c ≠ j1 ∧ c ≠ j2 := by
    rcases n with n | n
    · simp only [List.mem_cons, List.not_mem_nil, or_false, not_or] at n
      exact ⟨n.1, n.2.2.1, n.2.2.2.1, n.2.2.2.2⟩
    · subst n
      exact ⟨D.TIz, D.TITO, D.TIi1, D.TIi2⟩
  exact up c o n4.1 (kp c o n4.1 n4.2.1 n4.2.2.1 n4.2.2.2 e)
theorem mixEnd {z tI tO j1 j2 m1 m2 : Addr} {k : Nat} {us vs : Array Value} {a b : Value} {Q : Fin → Shared → Prop} (hh : A.handled = none) (D : ZipApart z tI tO j1 j2 m1 m2)
    (gz : IsZip s.heap z tI tO .none) (gI : IsPair s.heap tI (.ref j1) (.ref j2)) (gO : IsPair s.heap tO a b) (g1 : s.heap.IsTupleIter j1 m1 k) (g2 : s.heap.IsListIter j2 m2 k) (t1 : s.heap.IsTuple m1 us) (t2 : s.heap.IsList m2 vs) (hend : us[k]? = none ∨ vs[k]? = none)
    (q : ∀ h' x, (∀ c o, ¬ c ∈ [z, tI, tO, j1, j2] → s.heap.get? c = some o → h'.get? c = some o) → (∃ o, h'.get? x = some o ∧ o.cls = .type "StopIteration") → E (.ref x) { s with heap := h' }) :
    wpAny (model prog w) A (Builtin.«zip.__next__» ⟨[.ref z], []⟩) Q E s := by
  have four : ∀ c, ¬ c ∈ [z, tI, tO, j1, j2] → c ≠ z ∧ c ≠ tO ∧ c ≠ j1 ∧ c ≠ j2 := fun c n => by
    simp only [List.mem_cons, List.not_mem_nil, or_false, not_or] at n
    exact ⟨n.1, n.2.2.1, n.2.2.2.1, n.2.2.2.2⟩
  show wpAny _ _ (field (.ref z) 2 >>= _) _ _ _
  refine wpAny_bind (wpAny_field gz rfl (x := .bool false) rfl ?_)
  show wpAny _ _ (field (.ref z) 3 >>= _) _ _ _
  refine wpAny_bind (wpAny_field gz rfl (x := .ref tI) rfl (wpAny_bind (wpAny_seqItems gI rfl ?_)))
  show wpAny _ _ (Builtin.SmallTypes.ownedTupleIsFree (.ref z) >>= _) _ _ s
  refine wpAny_bind ?_; unfold Builtin.SmallTypes.ownedTupleIsFree
  refine wpAny_bind (wpAny_field gz rfl (x := .none) rfl (wpAny_pure ?_)); simp only [if_true]
  refine wpAny_bind (wpAny_rule (wpAny_bind (wpAny_field gz rfl (x := .ref tO) rfl (wpAny_bind (wpAny_setField_rec gz (by simp) fun p1 gz1 b1 => ?_)))))
  have gz1 : IsZip p1 z tI tO .ellipsis := gz1
  refine wpAny_bind ?_; simp only [List.forIn_cons, List.zipIdx_cons, List.forIn_nil, List.zipIdx_nil]
  refine wpAny_bind (wpAny_bind (wpAny_onRaise ?_))
  show wpAny _ _ (Builtin.SmallTypes.nextOf (.ref j1) >>= _) _ _ _
  have last : ∀ (h : Heap) (x : Addr), IsZip h z tI tO .ellipsis → (∃ o, h.get? x = some o ∧ o.cls = .type "StopIteration") → x ≠ z := fun h x gz ⟨o, e, ec⟩ n => by
    subst n
    rw [gz] at e
    cases e
    simp at ec
  cases e1 : us[k]? with
  | none =>
    refine wpAny_bind (RZ.nextOf_tuple_end hh (g1.extBut b1.extBut D.i1z) (t1.extBut b1.extBut D.l1z) e1 fun p2 x b2 ex => ?_)
    have gz2 : IsZip p2 z tI tO .ellipsis := b2 _ _ D.i1z.symm gz1
    have nz := last p2 x gz2 ex
    obtain ⟨o, eo, ec⟩ := ex
    refine wpAny_setField_rec gz2 (by simp) fun p3 _ b3 => q p3 x (fun c o n e => ?_) ⟨o, (b3.2 _ nz).trans eo, ec⟩
    have n4 := four c n
    rw [b3.2 c n4.1]
    exact b2 _ _ n4.2.2.1 ((b1.2 c n4.1).trans e)
  | some u =>
    have e2 : vs[k]? = none := by
      rcases hend with h | h
      · rw [e1] at h
        cases h
      · exact h
    refine wpAny_bind (RZ.nextOf_tuple_item (g1.extBut b1.extBut D.i1z) (t1.extBut b1.extBut D.l1z) e1 fun p2 g12 b2 => wpAny_pure ?_)
    have gO2 : IsPair p2 tO a b := b2.extBut _ _ D.TOi1 (b1.extBut _ _ D.TOz gO)
    refine wpAny_bind (wpAny_seqItems gO2 rfl (wpAny_bind (wpAny_updateSeq_pair gO2 fun p3 gO3 b3 => wpAny_bind (wpAny_letGo (wpAny_pure ?_)))))
    refine wpAny_bind (wpAny_bind (wpAny_onRaise ?_))
    show wpAny _ _ (Builtin.SmallTypes.nextOf (.ref j2) >>= _) _ _ _
    have g23 := ((g2.extBut b1.extBut D.i2z).extBut b2.extBut D.i12.symm).extBut b3.extBut D.TOi2.symm
    have t23 := ((t2.extBut b1.extBut D.l2z).extBut b2.extBut D.l2i1).extBut b3.extBut D.l2TO
    refine wpAny_bind (wpAny_nextOf_list_end hh g23 t23 e2 fun p4 x b4 ex => ?_)
    have gz4 : IsZip p4 z tI tO .ellipsis := b4 _ _ D.i2z.symm (b3.extBut _ _ D.TOz.symm (b2.extBut _ _ D.i1z.symm gz1))
    have nz := last p4 x gz4 ex
    obtain ⟨o, eo, ec⟩ := ex
    refine wpAny_setField_rec gz4 (by simp) fun p5 _ b5 => q p5 x (fun c o n e => ?_) ⟨o, (b5.2 _ nz).trans eo, ec⟩
    have n4 := four c n
    rw [b5.2 c n4.1]
    refine b4 _ _ n4.2.2.2 ?_
    rw [b3.2 c n4.2.1, b2.2 c n4.2.2.1, b1.2 c n4.1]
    exact e
theorem mixNextItem {z tI tO j1 j2 m1 m2 : Addr} {k : Nat} {us vs : Array Value} {u v a b : Value} {Q : Option Value → Shared → Prop} (D : ZipApart z tI tO j1 j2 m1 m2)
    (gz : IsZip s.heap z tI tO .none) (gI : IsPair s.heap tI (.ref j1) (.ref j2)) (gO : IsPair s.heap tO a b) (g1 : s.heap.IsTupleIter j1 m1 k) (g2 : s.heap.IsListIter j2 m2 k) (t1 : s.heap.IsTuple m1 us) (t2 : s.heap.IsList m2 vs) (e1 : us[k]? = some u) (e2 : vs[k]? = some v)
    (q : ∀ h', IsZip h' z tI tO (rawInt s.heap.objs.size) → IsPair h' tO u v → h'.IsTupleIter j1 m1 (k + 1) → h'.IsListIter j2 m2 (k + 1) → IsPair h' s.heap.objs.size u v → h'.objs.size = s.heap.objs.size + 1 →
      (∀ c o, ¬ c ∈ [z, tI, tO, j1, j2] ∨ c = tI → s.heap.get? c = some o → h'.get? c = some o) → Q (some (.ref s.heap.objs.size)) { s with heap := h' }) :
    wpAny (model prog w) A (pyNext (.ref z)) Q E s := by
  have ty : s.TypeIs (.ref z) "zip" := ⟨_, gz, rfl⟩
  unfold pyNext; refine wpAny_bind (wpAny_attempt (wpAny_callSpecial?_slot (name := Str.ofString "__next__") ty F.slot_zip_next ?_))
  exact wpAny_call_entry F.slot_zip_next ty F.entry_zip_next (mixItem D gz gI gO g1 g2 t1 t2 e1 e2 fun h' r1 r2 r3 r4 r5 r6 r7 => wpAny_pure (q h' r1 r2 r3 r4 r5 r6 r7)) (F.args_zip_next_1 _)
theorem mixNextEnd {z tI tO j1 j2 m1 m2 : Addr} {k : Nat} {us vs : Array Value} {a b : Value} {Q : Option Value → Shared → Prop} (hh : A.handled = none) (D : ZipApart z tI tO j1 j2 m1 m2)
    (gz : IsZip s.heap z tI tO .none) (gI : IsPair s.heap tI (.ref j1) (.ref j2)) (gO : IsPair s.heap tO a b) (g1 : s.heap.IsTupleIter j1 m1 k) (g2 : s.heap.IsListIter j2 m2 k) (t1 : s.heap.IsTuple m1 us) (t2 : s.heap.IsList m2 vs) (hend : us[k]? = none ∨ vs[k]? = none)
    (q : ∀ h', (∀ c o, ¬ c ∈ [z, tI, tO, j1, j2] → s.heap.get? c = some o → h'.get? c = some o) → Q none { s with heap := h' }) : wpAny (model prog w) A (pyNext (.ref z)) Q E s := by
  have ty : s.TypeIs (.ref z) "zip" := ⟨_, gz, rfl⟩
  unfold pyNext; refine wpAny_bind (wpAny_attempt (wpAny_callSpecial?_slot (name := Str.ofString "__next__") ty F.slot_zip_next ?_))
  refine wpAny_call_entry F.slot_zip_next ty F.entry_zip_next (mixEnd hh D gz gI gO g1 g2 t1 t2 hend fun h' x kp ⟨o, eo, ec⟩ => ?_) (F.args_zip_next_1 _)
  exact wpAny_bind (wpAny_isInstance (T := "StopIteration") (b := true) ⟨o, eo, ec⟩ isSubtype_stop (wpAny_pure (q _ kp)))
end
section
open PySem
/-- the tuple at a and the list at b as they stand at each turn -/
def ItzM (K : PySem.W.Frag) (a b : Addr) : It where
  go i H := ∃ (us vs : List V) (x y : V), SqT K H a us ∧ SqL K H b vs ∧ us[i]? = some x ∧ vs[i]? = some y
  yld i H v H' := ∃ c x y, v = .ref c ∧ H c = none ∧ H' = upd H c (.tup [x, y]) ∧ (∀ us, SqT K H a us → us[i]? = some x) ∧ ∀ vs, SqL K H b vs → vs[i]? = some y
  stop i H := ∃ us vs : List V, SqT K H a us ∧ SqL K H b vs ∧ (us.length ≤ i ∨ vs.length ≤ i)
theorem turnMix {P : Program} {w : World} {K : PySem.W.Frag} {el : List Expr} {n : Nat} {tp : Pos} {a b z tI tO j1 j2 : Addr} (D : ZipApart z tI tO j1 j2 a b) :
    Turn P w K (.Tuple el n tp) (ItzM K a b) [z, tI, tO, j1, j2] z (fun i h => IsZip h z tI tO .none ∧ IsPair h tI (.ref j1) (.ref j2) ∧ (∃ x y, IsPair h tO x y) ∧ h.IsTupleIter j1 a i ∧ h.IsListIter j2 b i) where
  mem := by simp
  obj := fun i h st c hc => by
    obtain ⟨gz, gI, ⟨x, y, gO⟩, ⟨o1, e1, _, d1⟩, o2, e2, _, d2⟩ := st
    simp only [List.mem_cons, List.not_mem_nil, or_false] at hc
    rcases hc with rfl | rfl | rfl | rfl | rfl
    · exact ⟨_, gz, fun v e => nomatch e⟩
    · exact ⟨_, gI, fun v e => nomatch e⟩
    · exact ⟨_, gO, fun v e => nomatch e⟩
    · exact ⟨o1, e1, fun v e => by rw [d1] at e; cases e⟩
    · exact ⟨o2, e2, fun v e => by rw [d2] at e; cases e⟩
  keep := fun i h h' st k => by
    obtain ⟨gz, gI, ⟨x, y, gO⟩, g1, g2⟩ := st
    exact ⟨k _ (by simp) _ gz, k _ (by simp) _ gI, ⟨x, y, k _ (by simp) _ gO⟩, g1.at fun o e => k _ (by simp) o e, g2.at fun o e => k _ (by simp) o e⟩
  item := by
    intro X eP ew eK hc i pins s σ H E I hf st hg
    subst eP ew eK
    obtain ⟨gz, gI, ⟨x0, y0, gO⟩, g1, g2⟩ := st
    obtain ⟨us, vs, x, y, s1, s2, e1, e2⟩ := hg
    obtain ⟨as, r1, t1, _⟩ := I.tuple s1
    obtain ⟨bs, r2, t2, _⟩ := I.list s2
    obtain ⟨u, eu, ru⟩ := r1.get e1
    obtain ⟨v, ev, rv⟩ := r2.get e2
    have lz : z < s.heap.objs.size := Heap.lt_size gz
    refine mixNextItem D gz gI gO g1 g2 t1 t2.isList (u := u) (v := v) (by simpa using eu) (by simpa using ev) fun h' k1 k2 k3 k4 k5 k6 k7 => ⟨_, rfl, ?_⟩
    refine wpAny_letOwnedTupleGo_zip (s := { s with heap := h' }) k1 fun h2 l1 sb => ?_
    have pr : h2.get? s.heap.objs.size = some { cls := .type "tuple", data := .seq #[u, v] } := (sb.2 _ (Nat.ne_of_gt lz)).trans k5
    have ok : ObjOk X.prog X.w (upd H s.heap.objs.size (.tup [x, y])) h2 s.heap.objs.size (.tup [x, y]) := ⟨by show 2 ≤ sizeLine; decide, [u, v], .cons ru (.cons rv .nil), _, pr, rfl, _, rfl⟩
    have J : Inv X pins σ (upd H s.heap.objs.size (.tup [x, y])) { s with heap := h2 } := I.turnedNew (t' := s.toks) (ch := [z, tI, tO, j1, j2]) (fun c o n e => by
      have nz : c ≠ z := fun e => n (by simp [e])
      exact (sb.2 c nz).trans (k7 c o (.inl n) e)) hf (Nat.le_refl _) ok
    refine ⟨.ref s.heap.objs.size, _, J, rfl, ⟨_, x, y, rfl, I.hok.fresh (Nat.le_refl _), rfl, fun l hl => ?_, fun l hl => ?_⟩, ⟨l1, ?_, ⟨u, v, ?_⟩, ?_, ?_⟩, fun c hcm => ?_⟩
    · rw [I.tuple_inj hl s1]
      exact e1
    · rw [I.list_inj hl s2]
      exact e2
    · exact (sb.2 _ D.TIz).trans (k7 _ _ (.inr rfl) gI)
    · exact (sb.2 _ D.TOz).trans k2
    · exact k3.at fun o e => (sb.2 _ D.i1z).trans e
    · exact k4.at fun o e => (sb.2 _ D.i2z).trans e
    · have lt : c < s.heap.objs.size := by
        have hc' := hcm
        simp only [List.mem_cons, List.not_mem_nil, or_false] at hc'
        rcases hc' with rfl | rfl | rfl | rfl | rfl
        · exact lz
        · exact Heap.lt_size gI
        · exact Heap.lt_size gO
        · exact g1.elim fun _ e => Heap.lt_size e.1
        · exact g2.elim fun _ e => Heap.lt_size e.1
      rw [upd_ne (Nat.ne_of_lt lt)]
      exact (hf c hcm).1
  done := by
    intro X eP ew eK hc i pins s σ H E I hf st hg
    subst eP ew eK
    obtain ⟨gz, gI, ⟨x0, y0, gO⟩, g1, g2⟩ := st
    obtain ⟨us, vs, s1, s2, he⟩ := hg
    obtain ⟨as, r1, t1, _⟩ := I.tuple s1
    obtain ⟨bs, r2, t2, _⟩ := I.list s2
    have l1 := r1.length
    have l2 := r2.length
    refine mixNextEnd (I.ok.hd hc) D gz gI gO g1 g2 t1 t2.isList ?_ fun h' kp => ⟨rfl, I.turnedL (t' := s.toks) (ch := [z, tI, tO, j1, j2]) (fun c o n e => kp c o n e) hf⟩
    rcases he with h | h
    · exact .inl (by simp; omega)
    · exact .inr (by simp; omega)
  self := fun A i s Q E st h => wpAny_pyIter_zip st.1 h
abbrev mx1 (h : Heap) (a : Addr) : Heap := h.push { cls := .type "tuple_iterator", data := .fields #[.ref a, .int 0 0] }
abbrev mx2 (h : Heap) (a b : Addr) : Heap := (mx1 h a).push { cls := .type "list_iterator", data := .fields #[.ref b, .int 0 0] }
abbrev mx3 (h : Heap) (a b : Addr) : Heap := (mx2 h a b).push { cls := .type "tuple", data := .seq #[.ref h.objs.size, .ref (mx1 h a).objs.size] }
abbrev mx4 (h : Heap) (a b : Addr) : Heap := (mx3 h a b).push { cls := .type "tuple", data := .seq #[.none, .none] }
abbrev mx5 (h : Heap) (a b : Addr) : Heap := (mx4 h a b).push { cls := .type "zip", data := .fields #[.none, .bool false, .bool false, .ref (mx2 h a b).objs.size, .ref (mx3 h a b).objs.size] }
theorem mixMade (a b : Addr) (us vs : Array Value) : Meets (Builtin.«zip.__new__» ⟨[.type "zip", .ref a, .ref b], []⟩) (fun _ R s => s.heap.IsTuple a us ∧ s.heap.IsList b vs ∧ R (.ok (.ret (.ref (mx4 s.heap a b).objs.size))) { s with heap := mx5 s.heap a b }) :=
  .of_wp fun prog w A R s h => by
    obtain ⟨hp, g, d, tk, os⟩ := s
    obtain ⟨t1, t2, q⟩ := h
    have sz := sub_zip
    have T1 : Heap.IsTuple (Shared.heap ⟨hp, g, d, tk, os⟩) a us := t1
    have T2 : Heap.IsList (Shared.heap ⟨hp.push { cls := .type "tuple_iterator", data := .fields #[.ref a, .int 0 0] }, g, d, tk, os⟩) b vs := Heap.IsList.push t2 _
    wp_walk using wpAny_pyIter_tuple T1, wpAny_pyIter_list T2
    exact ⟨_, rfl, q⟩
theorem mixCall {prog : Program} {w : World} {A : Around} {E : Value → Shared → Prop} {s : Shared} {a b : Addr} {us vs : Array Value} {Q : Value → Shared → Prop} (t1 : s.heap.IsTuple a us) (t2 : s.heap.IsList b vs)
    (q : ∀ h', IsZip h' (s.heap.objs.size + 4) (s.heap.objs.size + 2) (s.heap.objs.size + 3) .none ∧ IsPair h' (s.heap.objs.size + 2) (.ref s.heap.objs.size) (.ref (s.heap.objs.size + 1)) ∧ IsPair h' (s.heap.objs.size + 3) .none .none ∧ h'.IsTupleIter s.heap.objs.size a 0 ∧ h'.IsListIter (s.heap.objs.size + 1) b 0 →
      (∀ c o, s.heap.get? c = some o → h'.get? c = some o) → Q (.ref (s.heap.objs.size + 4)) { s with heap := h' }) : wpAny (model prog w) A (call (.type "zip") [.ref a, .ref b]) Q E s := by
  refine callType_new F.called_zip (by decide) (F.typeCall_zip_2 _ _) (F.newCall_zip_2 _ _) (fun ob => F.args_object_init_3 ob _ _) F.entry_zip_new (mixMade a b us vs) ⟨t1, t2, ?_⟩
  have n1 : (mx1 s.heap a).objs.size = s.heap.objs.size + 1 := Heap.size_push ..
  have n2 : (mx2 s.heap a b).objs.size = s.heap.objs.size + 2 := by rw [Heap.size_push, n1]
  have n3 : (mx3 s.heap a b).objs.size = s.heap.objs.size + 3 := by rw [Heap.size_push, n2]
  have n4 : (mx4 s.heap a b).objs.size = s.heap.objs.size + 4 := by rw [Heap.size_push, n3]
  have on : ∀ {h : Heap} {c : Addr} {o p : Obj}, h.get? c = some o → (h.push p).get? c = some o := fun e => Heap.get?_push_of_some _ e
  have f5 : (mx5 s.heap a b).get? (mx4 s.heap a b).objs.size = some _ := Heap.get?_push_size _ rfl
  have f4 : (mx5 s.heap a b).get? (mx3 s.heap a b).objs.size = some _ := on (Heap.get?_push_size _ rfl)
  have f3 : (mx5 s.heap a b).get? (mx2 s.heap a b).objs.size = some _ := on (on (Heap.get?_push_size _ rfl))
  have f2 : (mx5 s.heap a b).get? (mx1 s.heap a).objs.size = some _ := on (on (on (Heap.get?_push_size _ rfl)))
  have f1 : (mx5 s.heap a b).get? s.heap.objs.size = some _ := on (on (on (on (Heap.get?_push_size _ rfl))))
  rw [n2, n3, n4] at f5
  rw [n1, n2] at f3
  rw [n3] at f4
  rw [n1] at f2
  show _ ∧ _
  rw [n4]
  exact ⟨⟨_, f5, rfl⟩, q _ ⟨f5, f3, f4, ⟨_, f1, rfl, rfl⟩, _, f2, rfl, rfl⟩ fun c o e => on (on (on (on (on e))))⟩
def iMix (K : PySem.W.Frag) (ta : TA) : L2.TI := fun σ H R => ta σ H fun vs H1 => ∃ a b xs ys, vs = [.ref a, .ref b] ∧ SqT K H1 a xs ∧ SqL K H1 b ys ∧ R (ItzM K a b) H1
theorem pi_mix {X : Cx} {e e2 : Expr} {ta : TA} {p pos tp : Pos} {el : List Expr} {n : Nat} (hg : Gl X "zip") (hm : X.mg "zip" = none) (ha : PA X [e, e2] ta)
    (h1 : starEach [e, e2] X.env = (false, eval e X.env) :: starEach [e2] X.env := by rfl) (h2 : (backTo pos (starEach [e2] X.env)).any (·.1) = false := by rfl) : PI X (.Tuple el n tp) (.Call (.Name "zip" p) [e, e2] [] pos) (iMix X.K ta) := by
  constructor
  intro pins s σ H R I h
  refine Call_ (ld_blt I hg hm PyProof.Rows.boot_zip (PyProof.Rows.callWith_type1 (thn (ha.run pos pins s σ H _ I h) fun us s1 hz => ?_) h1 h2))
  obtain ⟨vs, H1, J, va, a, b, xs, ys, rfl, hx, hy, q⟩ := hz
  match us, va with
  | [_, _], .cons r1 (.cons r2 .nil) =>
    cases r1
    cases r2
    obtain ⟨as, rv1, t1, _⟩ := J.tuple hx
    obtain ⟨bs, rv2, t2, _⟩ := J.list hy
    have la : a < s1.heap.objs.size := t1.elim fun _ z => Heap.lt_size z.1
    refine mixCall t1 t2.isList fun h' st kp => wpAny_pyIter_zip st.1 ?_
    refine ⟨s1.heap.objs.size + 4, [s1.heap.objs.size + 4, s1.heap.objs.size + 2, s1.heap.objs.size + 3, s1.heap.objs.size, s1.heap.objs.size + 1], _, _, H1, rfl, J.kept (t' := s1.toks) kp, turnMix (PySem.W.ktu_apart s1.heap.objs.size a b la t2.lt), ⟨st.1, st.2.1, ⟨_, _, st.2.2.1⟩, st.2.2.2.1, st.2.2.2.2⟩, fun c hc => ?_, q⟩
    have le : s1.heap.objs.size ≤ c := by
      simp only [List.mem_cons, List.not_mem_nil, or_false] at hc
      rcases hc with rfl | rfl | rfl | rfl | rfl
      · exact Nat.le_add_right _ _
      · exact Nat.le_add_right _ _
      · exact Nat.le_add_right _ _
      · exact Nat.le_refl _
      · exact Nat.le_add_right _ _
    exact J.fpOk le (J.hok.fresh le)
theorem walk_mix {K : PySem.W.Frag} {a b : Addr} {xs ys : List V} (hl : xs.length = ys.length) : Walk (ItzM K a b) xs.length (fun H => SqT K H a xs ∧ SqL K H b ys) (YPair (fun i => xs[i]?) (fun i => ys[i]?)) where
  goes i H hi q := ⟨xs, ys, xs[i], ys[i]'(hl ▸ hi), q.1, q.2, List.getElem?_eq_getElem hi, List.getElem?_eq_getElem (hl ▸ hi)⟩
  stops H q := ⟨xs, ys, q.1, q.2, .inl (Nat.le_refl _)⟩
  yields i H v H' _ q y := by
    obtain ⟨c, x, z, k1, k2, k3, k4, k5⟩ := y
    exact ⟨c, x, z, k1, k2, k3, k4 xs q.1, k5 ys q.2⟩
end
/-! ### enumerate of a tuple -/
section
open PySem
theorem enuMade (a : Addr) (us : Array Value) (n : Nat) (dc : Option Addr) (sl : Array (Option Value)) : Meets (Builtin.«enumerate.__new__» ⟨[.type "enumerate", .ref a], []⟩) (fun _ R s => s.heap.get? a = some { cls := .type "tuple", dict := dc, data := .seq us n, slots := sl } ∧
      R (.ok (.ret (.ref (s.heap.push { cls := .type "tuple_iterator", data := .fields #[.ref a, .int 0 0] }).objs.size)))
        { s with heap := (s.heap.push { cls := .type "tuple_iterator", data := .fields #[.ref a, .int 0 0] }).push { cls := .type "enumerate", data := .fields #[.none, .bool false, .ref s.heap.objs.size, rawInt 0, .none, .none] } }) :=
  .of_wp fun prog w A R s h => by
    obtain ⟨hp, g, d, tk, os⟩ := s
    obtain ⟨e, q⟩ := h
    have su := sub_enumerate
    have T : Heap.IsTuple (Shared.heap ⟨hp, g, d, tk, os⟩) a us := ⟨_, e, rfl, n, rfl⟩
    wp_walk using PySem.AutoSeq1.wpAny_loadPart' e
    refine wpAny_stack_any fun st => wpAny_pure ?_
    split
    · rename_i c _ _ _ _ _
      cases (c == Value.type "enumerate")
      · wp_walk using PySem.AutoSeq1.wpAny_loadPart' e, wpAny_pyIter_tuple T
        exact ⟨_, rfl, q⟩
      · wp_walk using PySem.AutoSeq1.wpAny_loadPart' e, wpAny_pyIter_tuple T
        exact ⟨_, rfl, q⟩
    · wp_walk using PySem.AutoSeq1.wpAny_loadPart' e, wpAny_pyIter_tuple T
      exact ⟨_, rfl, q⟩
variable {prog : Program} {w : World} {A : Around} {E : Value → Shared → Prop} {s : Shared}
theorem enuCall {a : Addr} {us : Array Value} {Q : Value → Shared → Prop} (t : s.heap.IsTuple a us)
    (q : ∀ h', IsEnum h' (s.heap.objs.size + 1) s.heap.objs.size 0 .none → h'.IsTupleIter s.heap.objs.size a 0 → (∀ b o, s.heap.get? b = some o → h'.get? b = some o) → Q (.ref (s.heap.objs.size + 1)) { s with heap := h' }) :
    wpAny (model prog w) A (call (.type "enumerate") [.ref a]) Q E s := by
  obtain ⟨⟨c, dc, dt, sl⟩, e, ec, n, ed⟩ := t
  have ec : c = .type "tuple" := ec
  have ed : dt = .seq us n := ed
  subst ec ed
  refine callType_new F.called_enumerate (by decide) (F.typeCall_enumerate_1 _) (F.newCall_enumerate_1 _) (fun ob => F.args_object_init_2 ob _) F.entry_enumerate_new (enuMade a us n dc sl) ⟨e, ?_⟩
  have z : (s.heap.push { cls := .type "tuple_iterator", data := .fields #[.ref a, .int 0 0] }).objs.size = s.heap.objs.size + 1 := Heap.size_push ..
  have g2 : ((s.heap.push { cls := .type "tuple_iterator", data := .fields #[.ref a, .int 0 0] }).push { cls := .type "enumerate", data := .fields #[.none, .bool false, .ref s.heap.objs.size, rawInt 0, .none, .none] }).get? (s.heap.push { cls := .type "tuple_iterator", data := .fields #[.ref a, .int 0 0] }).objs.size = some _ := Heap.get?_push_size _ rfl
  show _ ∧ _
  rw [z] at g2 ⊢
  exact ⟨⟨_, g2, rfl⟩, q _ g2 ⟨_, Heap.get?_push_of_some _ (Heap.get?_push_size _ rfl), rfl, rfl⟩ fun b o x => Heap.get?_push_of_some _ (Heap.get?_push_of_some _ x)⟩
theorem enuItem {e j a : Addr} {i : Nat} {us : Array Value} {x old : Value} {Q : Value → Shared → Prop} (g : IsEnum s.heap e j i old) (gj : s.heap.IsTupleIter j a i) (t : s.heap.IsTuple a us) (ex : us[i]? = some x) (ne : e ≠ j)
    (q : ∀ h', IsEnumOut h' e j ((i : Int) + 1) x s.heap.objs.size → h'.IsTupleIter j a (i + 1) → h'.get? s.heap.objs.size = some { cls := .type "tuple", data := .seq #[.int i s.toks, x] } →
      (∀ b o, b ≠ e → b ≠ j → s.heap.get? b = some o → h'.get? b = some o) → Q (.ref s.heap.objs.size) { s with heap := h', toks := s.toks + 1 }) :
    wpAny (model prog w) A (Builtin.«enumerate.__next__» ⟨[.ref e], []⟩) (fun r s' => ∃ v, r = .done (.ret v) ∧ Q v s') E s := by
  obtain ⟨hp, gg, dd, tk, os⟩ := s
  show wpAny _ _ (field (.ref e) 2 >>= _) _ _ _
  refine wpAny_bind (wpAny_field g rfl (x := .ref j) rfl (wpAny_bind (RZ.nextOf_tuple_item gj t ex fun p1 gj1 b1 => ?_)))
  have b1 : Heap.SameBut j hp p1 := b1
  have g1 : IsEnum p1 e j i old := (b1.2 e ne).trans g
  show wpAny _ _ (field (.ref e) 3 >>= _) _ _ ⟨p1, gg, dd, tk, os⟩
  refine wpAny_bind (wpAny_field g1 rfl (x := rawInt i) rfl ?_)
  show wpAny _ _ (field (.ref e) 4 >>= _) _ _ ⟨p1, gg, dd, tk, os⟩
  refine wpAny_bind (wpAny_field g1 rfl (x := .none) rfl ?_)
  show wpAny _ _ (mkInt i >>= _) _ _ ⟨p1, gg, dd, tk, os⟩
  refine wpAny_bind (wpAny_mkInt ?_)
  show wpAny _ _ (setField (.ref e) 3 (rawInt ((i : Int) + 1)) >>= _) _ _ ⟨p1, gg, dd, tk + 1, os⟩
  refine wpAny_bind (wpAny_setField_rec g1 (by simp) fun p2 g2 b2 => ?_)
  have b2 : Heap.SameBut e p1 p2 := b2
  have g2 : IsEnum p2 e j ((i : Int) + 1) old := g2
  show wpAny _ _ (setField (.ref e) 4 .none >>= _) _ _ ⟨p2, gg, dd, tk + 1, os⟩
  refine wpAny_bind (wpAny_setField_rec g2 (by simp) fun p3 g3 b3 => ?_)
  have b3 : Heap.SameBut e p2 p3 := b3
  have g3 : IsEnum p3 e j ((i : Int) + 1) old := g3
  show wpAny _ _ (newTuple [.int i tk, x] >>= _) _ _ ⟨p3, gg, dd, tk + 1, os⟩
  refine wpAny_bind (wpAny_newTuple ?_)
  have zs : p3.objs.size = hp.objs.size := by rw [b3.1, b2.1, b1.1]
  have g4 : IsEnum (p3.push { cls := .type "tuple", data := .seq #[.int i tk, x] }) e j ((i : Int) + 1) old := Heap.get?_push_of_some _ g3
  have t4 : (p3.push { cls := .type "tuple", data := .seq #[.int i tk, x] }).get? hp.objs.size = some { cls := .type "tuple", data := .seq #[.int i tk, x] } := by
    rw [← zs]
    exact Heap.get?_push_size _ rfl
  have k4 : ∀ b o, b ≠ e → b ≠ j → hp.get? b = some o → (p3.push { cls := .type "tuple", data := .seq #[.int i tk, x] }).get? b = some o := fun b o n1 n2 h => Heap.get?_push_of_some _ (by
    rw [b3.2 b n1, b2.2 b n1, b1.2 b n2]
    exact h)
  have j4 : (p3.push { cls := .type "tuple", data := .seq #[.int i tk, x] }).IsTupleIter j a (i + 1) := gj1.at fun o h => Heap.get?_push_of_some _ (by
    rw [b3.2 j ne.symm, b2.2 j ne.symm]
    exact h)
  have el : e < hp.objs.size := Heap.lt_size g
  show wpAny _ _ (Builtin.SmallTypes.ownedTupleIsFree (.ref e) >>= _) _ _ ⟨p3.push { cls := .type "tuple", data := .seq #[.int i tk, x] }, gg, dd, tk + 1, os⟩
  rw [zs]
  generalize p3.push { cls := .type "tuple", data := .seq #[.int i tk, x] } = p4 at g4 t4 k4 j4
  refine wpAny_bind ?_; unfold Builtin.SmallTypes.ownedTupleIsFree
  refine wpAny_bind (wpAny_field g4 rfl (x := .none) rfl (wpAny_pure ?_)); simp only [if_true]
  refine wpAny_bind (wpAny_rule (wpAny_bind (wpAny_field g4 rfl (x := old) rfl (wpAny_bind (wpAny_setField_rec g4 (by simp) fun p5 g5 b5 => ?_)))))
  have b5 : Heap.SameBut e p4 p5 := b5
  have g5 : IsEnum p5 e j ((i : Int) + 1) x := g5
  show wpAny _ _ (Builtin.SmallTypes.ownedTupleHandOut (.ref e) (.ref hp.objs.size) >>= _) _ _ ⟨p5, gg, dd, tk + 1, os⟩
  refine wpAny_bind ?_; unfold Builtin.SmallTypes.ownedTupleHandOut
  refine wpAny_bind (wpAny_setField_rec g5 (by simp) fun p6 g6 b6 => ?_)
  have b6 : Heap.SameBut e p5 p6 := b6
  have g6 : IsEnumOut p6 e j ((i : Int) + 1) x hp.objs.size := g6
  refine wpAny_setField_rec g6 (by simp) fun p7 g7 b7 => ?_
  have b7 : Heap.SameBut e p6 p7 := b7
  have up : ∀ b o, b ≠ e → p4.get? b = some o → p7.get? b = some o := fun b o n h => by
    rw [b7.2 b n, b6.2 b n, b5.2 b n]
    exact h
  exact wpAny_bind (wpAny_letGo (wpAny_pure ⟨_, rfl, q p7 g7 (j4.at fun o h => up _ o ne.symm h) (up _ _ (Nat.ne_of_gt el) t4) fun b o n1 n2 h => up b o n1 (k4 b o n1 n2 h)⟩))
theorem enuNextItem {e j a : Addr} {i : Nat} {us : Array Value} {x old : Value} {Q : Option Value → Shared → Prop} (g : IsEnum s.heap e j i old) (gj : s.heap.IsTupleIter j a i) (t : s.heap.IsTuple a us) (ex : us[i]? = some x) (ne : e ≠ j)
    (q : ∀ h', IsEnumOut h' e j ((i : Int) + 1) x s.heap.objs.size → h'.IsTupleIter j a (i + 1) → h'.get? s.heap.objs.size = some { cls := .type "tuple", data := .seq #[.int i s.toks, x] } →
      (∀ b o, b ≠ e → b ≠ j → s.heap.get? b = some o → h'.get? b = some o) → Q (some (.ref s.heap.objs.size)) { s with heap := h', toks := s.toks + 1 }) : wpAny (model prog w) A (pyNext (.ref e)) Q E s := by
  have ty : s.TypeIs (.ref e) "enumerate" := ⟨_, g, rfl⟩
  unfold pyNext; refine wpAny_bind (wpAny_attempt (wpAny_callSpecial?_slot (name := Str.ofString "__next__") ty F.slot_enumerate_next ?_))
  exact wpAny_call_entry F.slot_enumerate_next ty F.entry_enumerate_next (enuItem g gj t ex ne fun h' r1 r2 r3 r4 => wpAny_pure (q h' r1 r2 r3 r4)) (F.args_enumerate_next_1 _)
theorem enuNextEnd {e j a : Addr} {i : Nat} {us : Array Value} {old : Value} {Q : Option Value → Shared → Prop} (hh : A.handled = none) (g : IsEnum s.heap e j i old) (gj : s.heap.IsTupleIter j a i) (t : s.heap.IsTuple a us) (ex : us[i]? = none)
    (q : ∀ h', Heap.ExtBut j s.heap h' → Q none { s with heap := h' }) : wpAny (model prog w) A (pyNext (.ref e)) Q E s := by
  have ty : s.TypeIs (.ref e) "enumerate" := ⟨_, g, rfl⟩
  unfold pyNext; refine wpAny_bind (wpAny_attempt (wpAny_callSpecial?_slot (name := Str.ofString "__next__") ty F.slot_enumerate_next ?_))
  refine wpAny_call_entry F.slot_enumerate_next ty F.entry_enumerate_next ?_ (F.args_enumerate_next_1 _)
  show wpAny _ _ (field (.ref e) 2 >>= _) _ _ _
  refine wpAny_bind (wpAny_field g rfl (x := .ref j) rfl (wpAny_bind (RZ.nextOf_tuple_end hh gj t ex fun h' x b ⟨o, eo, ec⟩ => ?_)))
  exact wpAny_bind (wpAny_isInstance (T := "StopIteration") (b := true) ⟨o, eo, ec⟩ isSubtype_stop (wpAny_pure (q _ b)))
/-- the tuple at a, each item in a new pair -/
def IteT (K : PySem.W.Frag) (a : Addr) : It where
  go i H := ∃ (us : List V) (x : V), SqT K H a us ∧ us[i]? = some x
  yld i H v H' := ∃ c x, v = .ref c ∧ H c = none ∧ H' = upd H c (.tup [.int (i : Nat), x]) ∧ ∀ us, SqT K H a us → us[i]? = some x
  stop i H := ∃ us : List V, SqT K H a us ∧ us.length ≤ i
theorem turnEnuT {P : Program} {w : World} {K : PySem.W.Frag} {el : List Expr} {n : Nat} {tp : Pos} (a e j : Addr) :
    Turn P w K (.Tuple el n tp) (IteT K a) [e, j] e (fun i h => (∃ old, IsEnum h e j ((i : Nat) : Int) old) ∧ h.IsTupleIter j a i ∧ e ≠ j) where
  mem := by simp
  obj := fun i h st b hb => by
    obtain ⟨⟨old, g⟩, ⟨o, eo, _, ed⟩, _⟩ := st
    simp only [List.mem_cons, List.not_mem_nil, or_false] at hb
    rcases hb with rfl | rfl
    · exact ⟨_, g, fun v q => nomatch q⟩
    · exact ⟨o, eo, fun v q => by rw [ed] at q; cases q⟩
  keep := fun i h h' st k => by
    obtain ⟨⟨old, g⟩, gj, ne⟩ := st
    exact ⟨⟨old, k _ (by simp) _ g⟩, gj.at fun o q => k _ (by simp) o q, ne⟩
  item := by
    intro X eP ew eK hc i pins s σ H E I hf st hg
    subst eP ew eK
    obtain ⟨⟨old, g⟩, gj, ne⟩ := st
    obtain ⟨us, x, hq, ex⟩ := hg
    obtain ⟨as, r1, t1, _⟩ := I.tuple hq
    obtain ⟨u, eu, ru⟩ := r1.get ex
    have el : e < s.heap.objs.size := Heap.lt_size g
    have jl : j < s.heap.objs.size := gj.elim fun _ q => Heap.lt_size q.1
    refine enuNextItem g gj t1 (x := u) (by simpa using eu) ne fun h' k1 k2 k3 k4 => ⟨_, rfl, ?_⟩
    refine wpAny_letOwnedTupleGo_enum (s := { s with heap := h', toks := s.toks + 1 }) k1 fun h2 l1 sb => ?_
    have pr : h2.get? s.heap.objs.size = some { cls := .type "tuple", data := .seq #[.int i s.toks, u] } := (sb.2 _ (Nat.ne_of_gt el)).trans k3
    have ok : ObjOk X.prog X.w (upd H s.heap.objs.size (.tup [.int (i : Nat), x])) h2 s.heap.objs.size (.tup [.int (i : Nat), x]) := ⟨by show 2 ≤ sizeLine; decide, [.int i s.toks, u], .cons ⟨_, rfl⟩ (.cons ru .nil), _, pr, rfl, _, rfl⟩
    have J : Inv X pins σ (upd H s.heap.objs.size (.tup [.int (i : Nat), x])) { s with heap := h2, toks := s.toks + 1 } := I.turnedNew (ch := [e, j]) (fun b o n q => by
      have n1 : b ≠ e := fun z => n (by simp [z])
      have n2 : b ≠ j := fun z => n (by simp [z])
      exact (sb.2 b n1).trans (k4 b o n1 n2 q)) hf (Nat.le_refl _) ok
    refine ⟨.ref s.heap.objs.size, _, J, rfl, ⟨_, x, rfl, I.hok.fresh (Nat.le_refl _), rfl, fun ys hy => ?_⟩, ⟨⟨u, ?_⟩, k2.at fun o q => (sb.2 j ne.symm).trans q, ne⟩, fun b hb => ?_⟩
    · rw [I.tuple_inj hy hq]
      exact ex
    · rw [show ((i + 1 : Nat) : Int) = (i : Int) + 1 by omega]
      exact l1
    · have lt : b < s.heap.objs.size := by
        have hb' := hb
        simp only [List.mem_cons, List.not_mem_nil, or_false] at hb'
        rcases hb' with rfl | rfl
        · exact el
        · exact jl
      rw [upd_ne (Nat.ne_of_lt lt)]
      exact (hf b hb).1
  done := by
    intro X eP ew eK hc i pins s σ H E I hf st hg
    subst eP ew eK
    obtain ⟨⟨old, g⟩, gj, ne⟩ := st
    obtain ⟨us, hq, hx⟩ := hg
    obtain ⟨as, r1, t1, _⟩ := I.tuple hq
    obtain ⟨f0, f1, f2, f3, f4, f5⟩ := hf j (by simp)
    have l1 := r1.length
    exact enuNextEnd (I.ok.hd hc) g gj t1 (by simp; omega) fun h' b => ⟨rfl, I.turned (t' := s.toks) (fun c o n q => b c o n q) f0 f1 f3 f4 f5⟩
  self := fun A i s Q E st h => st.1.elim fun _ g => wpAny_pyIter_enum g h
def iEnuT (K : PySem.W.Frag) (ta : TA) : L2.TI := fun σ H R => ta σ H fun vs H1 => ∃ a xs, vs = [.ref a] ∧ SqT K H1 a xs ∧ R (IteT K a) H1
theorem pi_enuT {X : Cx} {e : Expr} {ta : TA} {p pos tp : Pos} {el : List Expr} {n : Nat} (hg : Gl X "enumerate") (hm : X.mg "enumerate" = none) (ha : PA X [e] ta) (h1 : starEach [e] X.env = [(false, eval e X.env)] := by rfl) :
    PI X (.Tuple el n tp) (.Call (.Name "enumerate" p) [e] [] pos) (iEnuT X.K ta) := by
  constructor
  intro pins s σ H R I h
  refine Call_ (ld_blt I hg hm boot_enumerate (PyProof.Rows.callWith_type1 (thn (ha.run pos pins s σ H _ I h) fun us s1 hz => ?_) h1 rfl))
  obtain ⟨vs, H1, J, va, a, xs, rfl, hx, q⟩ := hz
  match us, va with
  | [_], .cons r1 .nil =>
    cases r1
    obtain ⟨as, rv, t1, _⟩ := J.tuple hx
    refine enuCall t1 fun h' g gj kp => wpAny_pyIter_enum g ?_
    refine ⟨s1.heap.objs.size + 1, [s1.heap.objs.size + 1, s1.heap.objs.size], _, _, H1, rfl, J.kept (t' := s1.toks) kp, turnEnuT a (s1.heap.objs.size + 1) s1.heap.objs.size, ⟨⟨.none, g⟩, gj, Nat.succ_ne_self _⟩, fun b hb => ?_, q⟩
    have le : s1.heap.objs.size ≤ b := by
      simp only [List.mem_cons, List.not_mem_nil, or_false] at hb
      rcases hb with rfl | rfl
      · exact Nat.le_add_right _ _
      · exact Nat.le_refl _
    exact J.fpOk le (J.hok.fresh le)
theorem walk_enuT {K : PySem.W.Frag} {a : Addr} {xs : List V} : Walk (IteT K a) xs.length (fun H => SqT K H a xs) (YPair (fun i => some (.int (i : Nat))) (fun i => xs[i]?)) where
  goes i H hi q := ⟨xs, xs[i], q, List.getElem?_eq_getElem hi⟩
  stops H q := ⟨xs, q, Nat.le_refl _⟩
  yields i H v H' _ q y := by
    obtain ⟨c, x, k1, k2, k3, k4⟩ := y
    exact ⟨c, .int (i : Nat), x, k1, k2, k3, rfl, k4 xs q⟩
end
/-! ### weights between two places -/
abbrev mnI (x y : Int) : Int := if y < x then y else x
abbrev mxI (x y : Int) : Int := if y > x then y else x
def ovl (a b : Int) (t : Int × Int × Int) : Int := mxI 0 (mnI t.2.1 b - mxI t.1 a)
def wsum (a b : Int) (ts : List (Int × Int × Int)) : Int := (ts.map fun t => t.2.2 * ovl a b t).sum
def WL (a b : Int) (Ls : List Lw) : Int := (Ls.map fun L => wsum a b (partsOf L.le L.ps L.pl)).sum
def thickS (Ls : List Lw) (p : Int) : Int := (Ls.map fun L => thickL L p).sum
theorem ovl_add {a b c : Int} (h1 : a ≤ b) (h2 : b ≤ c) (t : Int × Int × Int) : ovl a b t + ovl b c t = ovl a c t := by
  unfold ovl mxI mnI
  (repeat' split) <;> omega
theorem ovl_same (c : Int) (t : Int × Int × Int) : ovl c c t = 0 := by
  unfold ovl mxI mnI
  (repeat' split) <;> omega
theorem wsum_cons (a b : Int) (t : Int × Int × Int) (r : List (Int × Int × Int)) : wsum a b (t :: r) = t.2.2 * ovl a b t + wsum a b r := by
  unfold wsum
  rw [List.map_cons, List.sum_cons]
theorem wsum_app (a b : Int) (r s : List (Int × Int × Int)) : wsum a b (r ++ s) = wsum a b r + wsum a b s := by
  unfold wsum
  rw [List.map_append, List.sum_append]
theorem wsum_add {a b c : Int} (h1 : a ≤ b) (h2 : b ≤ c) : ∀ ts, wsum a b ts + wsum b c ts = wsum a c ts
  | [] => rfl
  | t :: r => by
    rw [wsum_cons, wsum_cons, wsum_cons, ← wsum_add h1 h2 r, ← ovl_add h1 h2 t, Int.mul_add]
    omega
theorem wsum_same (c : Int) : ∀ ts, wsum c c ts = 0
  | [] => rfl
  | t :: r => by rw [wsum_cons, wsum_same c r, ovl_same, Int.mul_zero]; rfl
theorem WL_cons (a b : Int) (L : Lw) (r : List Lw) : WL a b (L :: r) = wsum a b (partsOf L.le L.ps L.pl) + WL a b r := by
  unfold WL
  rw [List.map_cons, List.sum_cons]
theorem WL_add {a b c : Int} (h1 : a ≤ b) (h2 : b ≤ c) : ∀ Ls, WL a b Ls + WL b c Ls = WL a c Ls
  | [] => rfl
  | L :: r => by
    have := wsum_add h1 h2 (partsOf L.le L.ps L.pl)
    have := WL_add h1 h2 r
    rw [WL_cons, WL_cons, WL_cons]
    omega
theorem WL_same (c : Int) : ∀ Ls, WL c c Ls = 0
  | [] => rfl
  | L :: r => by rw [WL_cons, wsum_same, WL_same c r]; rfl
theorem WL_snoc (a b : Int) (Ls : List Lw) (L : Lw) : WL a b (Ls ++ [L]) = WL a b Ls + wsum a b (partsOf L.le L.ps L.pl) := by
  unfold WL
  rw [List.map_append, List.sum_append]
  simp
/-- both ways of parting are one -/
theorem parts_none {n : Int} : ∀ (ps : List (Int × Int)) (st : Int), (∀ p ∈ ps, 1 ≤ p.2) → n ≤ st → partsOf (some n) ps st = []
  | [], _, _, _ => rfl
  | (t, g) :: r, st, hg, h => by
    have hg1 : 1 ≤ g := hg (t, g) (by simp)
    have hc : clip (some n) (st + g) = n := by
      show (if n < st + g then n else st + g) = n
      rw [if_pos (by omega)]
    show (if st < clip (some n) (st + g) then [(st, clip (some n) (st + g), t)] else []) ++ partsOf (some n) r (clip (some n) (st + g)) = []
    rw [hc, if_neg (by omega), parts_none r n (fun x hx => hg x (by simp [hx])) (Int.le_refl _)]
    rfl
theorem parts_eq {le : Option Int} : ∀ (ps : List (Int × Int)) (st : Int), (∀ p ∈ ps, 1 ≤ p.2) → lawParts le ps st = partsOf le ps st
  | [], _, _ => rfl
  | (t, g) :: r, st, hg => by
    have hg1 : 1 ≤ g := hg (t, g) (by simp)
    have hr : ∀ p ∈ r, 1 ≤ p.2 := fun x hx => hg x (by simp [hx])
    show (if st < clip le (st + g) then [(st, clip le (st + g), t)] else []) ++ lawParts le r (st + g) = (if st < clip le (st + g) then [(st, clip le (st + g), t)] else []) ++ partsOf le r (clip le (st + g))
    cases le with
    | none => rw [parts_eq r (st + g) hr]; rfl
    | some n =>
      by_cases h : n < st + g
      · have hc : clip (some n) (st + g) = n := by
          show (if n < st + g then n else st + g) = n
          rw [if_pos h]
        rw [hc, law_nil r (st + g) hr (.inr ⟨n, rfl, by omega⟩), parts_none r n hr (Int.le_refl _)]
      · have hc : clip (some n) (st + g) = st + g := by
          show (if n < st + g then n else st + g) = st + g
          rw [if_neg h]
        rw [hc, parts_eq r (st + g) hr]
theorem law_mem {le : Option Int} : ∀ (ps : List (Int × Int)) (st : Int), (∀ p ∈ ps, 1 ≤ p.2) → ∀ x ∈ lawParts le ps st, st ≤ x.1 ∧ x.1 < x.2.1 ∧ x.2.1 ≤ st + longs ps ∧ ∃ g, (x.2.2, g) ∈ ps
  | [], _, _, x, h => by cases h
  | (t, g) :: r, st, hg, x, h => by
    have hg1 : 1 ≤ g := hg (t, g) (by simp)
    have hr : ∀ p ∈ r, 1 ≤ p.2 := fun x hx => hg x (by simp [hx])
    have h0 := longs_nonneg hr
    have h : x ∈ (if st < clip le (st + g) then [(st, clip le (st + g), t)] else []) ++ lawParts le r (st + g) := h
    rw [longs_cons]
    show _ ∧ _ ∧ x.2.1 ≤ st + (g + longs r) ∧ _
    rcases List.mem_append.mp h with h | h
    · by_cases hc : st < clip le (st + g)
      · rw [if_pos hc] at h
        simp only [List.mem_cons, List.not_mem_nil, or_false] at h
        subst h
        have := clip_le (le := le) (e := st + g)
        exact ⟨Int.le_refl _, hc, by show clip le (st + g) ≤ _; omega, g, by simp⟩
      · rw [if_neg hc] at h
        cases h
    · obtain ⟨h1, h2, h3, g', h4⟩ := law_mem r (st + g) hr x h
      exact ⟨by omega, h2, by omega, g', by simp [h4]⟩
theorem part_ok {L : Lw} (g : GoodL L) {x : Int × Int × Int} (h : x ∈ partsOf L.le L.ps L.pl) : x.1 < x.2.1 ∧ 0 ≤ x.2.2 ∧ x.2.2 < 2 ^ 200 ∧ x.2.1 - x.1 < 2 ^ 210 := by
  have hp : ∀ p ∈ L.ps, 1 ≤ p.2 := fun p hp => (g.1.2.2 p hp).2.2.1
  rw [← parts_eq L.ps L.pl hp] at h
  obtain ⟨h1, h2, h3, g', h4⟩ := law_mem L.ps L.pl hp x h
  have h5 := g.1.2.2 _ h4
  have h6 := longs_lt g.1
  have h7 : (2 : Int) ^ 204 < 2 ^ 210 := by decide
  exact ⟨h2, by have := h5.1; show 0 ≤ x.2.2; have h8 : 1 ≤ x.2.2 := this; omega, h5.2.1, by omega⟩
theorem mulW_of {i j : Int} (h0 : 0 ≤ i) (h1 : i < 2 ^ 250) (h2 : 0 ≤ j) (h3 : j < 2 ^ 250) : CMulW i j := by
  have a := log_lt h0 h1
  have b := log_lt h2 h3
  unfold CMulW
  omega
theorem ovl_le {a b : Int} {t : Int × Int × Int} (h : t.1 < t.2.1) : 0 ≤ ovl a b t ∧ ovl a b t ≤ t.2.1 - t.1 := by
  unfold ovl mxI mnI
  (repeat' split) <;> omega
theorem ovl_mul {L : Lw} (g : GoodL L) {x : Int × Int × Int} (h : x ∈ partsOf L.le L.ps L.pl) (a b : Int) : CMulW x.2.2 (ovl a b x) := by
  obtain ⟨h1, h2, h3, h4⟩ := part_ok g h
  obtain ⟨h5, h6⟩ := ovl_le (a := a) (b := b) h1
  have h7 : (2 : Int) ^ 210 < 2 ^ 250 := by decide
  have h8 : (2 : Int) ^ 200 < 2 ^ 250 := by decide
  exact mulW_of h2 (by omega) h5 (by omega)
theorem ovl_in {a b : Int} {t : Int × Int × Int} (h : t.1 < t.2.1) (hab : a ≤ b) (h1 : t.1 < b) (h2 : t.2.1 > a) : mnI t.2.1 b - mxI t.1 a = ovl a b t := by
  unfold ovl mxI mnI
  (repeat' split) <;> omega
theorem ovl_out {a b : Int} {t : Int × Int × Int} (h : ¬ (t.1 < b ∧ t.2.1 > a)) : ovl a b t = 0 := by
  unfold ovl mxI mnI
  (repeat' split) <;> omega
/-- at one place -/
theorem ovl_one (p s e t : Int) : ovl p (p + 1) (s, e, t) = if s ≤ p ∧ p < e then 1 else 0 := by
  show (if mnI e (p + 1) - mxI s p > 0 then mnI e (p + 1) - mxI s p else 0) = _
  unfold mxI mnI
  (repeat' split) <;> omega
theorem one_none : ∀ (ps : List (Int × Int)) (st p : Int), (∀ x ∈ ps, 1 ≤ x.2) → wsum p (p + 1) (lawParts none ps st) = if p < st then 0 else thickAt ps (p - st)
  | [], st, p, _ => by
    show 0 = if p < st then 0 else 0
    split <;> rfl
  | (t, g) :: r, st, p, hg => by
    have hg1 : 1 ≤ g := hg (t, g) (by simp)
    have hr : ∀ p ∈ r, 1 ≤ p.2 := fun x hx => hg x (by simp [hx])
    have e : lawParts none ((t, g) :: r) st = (st, st + g, t) :: lawParts none r (st + g) := by
      show (if st < st + g then [(st, st + g, t)] else []) ++ lawParts none r (st + g) = _
      rw [if_pos (by omega)]
      rfl
    rw [e, wsum_cons, one_none r (st + g) p hr, ovl_one]
    show t * (if st ≤ p ∧ p < st + g then 1 else 0) + _ = if p < st then 0 else (if p - st < g then t else thickAt r (p - st - g))
    rw [show p - (st + g) = p - st - g by omega]
    by_cases h1 : p < st
    · rw [if_pos h1, if_neg (by omega), if_pos (by omega)]
      omega
    · by_cases h2 : p < st + g
      · rw [if_neg h1, if_pos (by omega), if_pos (by omega), if_pos (by omega)]
        omega
      · rw [if_neg h1, if_neg (by omega), if_neg (by omega), if_neg (by omega)]
        omega
theorem one_some (n : Int) : ∀ (ps : List (Int × Int)) (st p : Int), (∀ x ∈ ps, 1 ≤ x.2) → wsum p (p + 1) (lawParts (some n) ps st) = if p < st ∨ n ≤ p then 0 else thickAt ps (p - st)
  | [], st, p, _ => by
    show 0 = if p < st ∨ n ≤ p then 0 else 0
    split <;> rfl
  | (t, g) :: r, st, p, hg => by
    have hg1 : 1 ≤ g := hg (t, g) (by simp)
    have hr : ∀ p ∈ r, 1 ≤ p.2 := fun x hx => hg x (by simp [hx])
    have e : wsum p (p + 1) (lawParts (some n) ((t, g) :: r) st) = t * (if st ≤ p ∧ p < st + g ∧ p < n then 1 else 0) + wsum p (p + 1) (lawParts (some n) r (st + g)) := by
      show wsum p (p + 1) ((if st < clip (some n) (st + g) then [(st, clip (some n) (st + g), t)] else []) ++ lawParts (some n) r (st + g)) = _
      rw [wsum_app]
      congr 1
      show wsum p (p + 1) (if st < (if n < st + g then n else st + g) then [(st, (if n < st + g then n else st + g), t)] else []) = _
      by_cases h : st < (if n < st + g then n else st + g)
      · rw [if_pos h, wsum_cons, ovl_one]
        show t * _ + 0 = t * _
        rw [Int.add_zero]
        congr 1
        by_cases h3 : n < st + g
        · rw [if_pos h3] at h ⊢
          by_cases h4 : st ≤ p ∧ p < n
          · rw [if_pos h4, if_pos (by omega)]
          · rw [if_neg h4, if_neg (by omega)]
        · rw [if_neg h3] at h ⊢
          by_cases h4 : st ≤ p ∧ p < st + g
          · rw [if_pos h4, if_pos (by omega)]
          · rw [if_neg h4, if_neg (by omega)]
      · rw [if_neg h]
        show 0 = _
        have : ¬ (st ≤ p ∧ p < st + g ∧ p < n) := by
          split at h <;> omega
        rw [if_neg this, Int.mul_zero]
    rw [e, one_some n r (st + g) p hr]
    show _ = if p < st ∨ n ≤ p then 0 else (if p - st < g then t else thickAt r (p - st - g))
    rw [show p - (st + g) = p - st - g by omega]
    by_cases h1 : p < st ∨ n ≤ p
    · rw [if_pos h1, if_neg (by omega), if_pos (by omega)]
      omega
    · by_cases h2 : p < st + g
      · rw [if_neg h1, if_pos (by omega), if_pos (by omega), if_pos (by omega)]
        omega
      · rw [if_neg h1, if_neg (by omega), if_neg (by omega), if_neg (by omega)]
        omega
theorem one_thick {L : Lw} (g : GoodL L) (p : Int) : wsum p (p + 1) (partsOf L.le L.ps L.pl) = thickL L p := by
  have hp : ∀ p ∈ L.ps, 1 ≤ p.2 := fun p hp => (g.1.2.2 p hp).2.2.1
  rw [← parts_eq L.ps L.pl hp]
  unfold thickL
  cases L.le with
  | none => exact one_none L.ps L.pl p hp
  | some n =>
    rw [one_some n L.ps L.pl p hp]
    show _ = if p < L.pl then 0 else if n ≤ p then 0 else _
    by_cases h1 : p < L.pl
    · rw [if_pos h1, if_pos (.inl h1)]
    · by_cases h2 : n ≤ p
      · rw [if_neg h1, if_pos h2, if_pos (.inr h2)]
      · rw [if_neg h1, if_neg h2, if_neg (by omega)]
theorem WL_one (p : Int) : ∀ (Ls : List Lw), (∀ L ∈ Ls, GoodL L) → WL p (p + 1) Ls = thickS Ls p
  | [], _ => rfl
  | L :: r, g => by
    rw [WL_cons, WL_one p r fun L' h => g L' (by simp [h]), one_thick (g L (by simp))]
    unfold thickS
    rw [List.map_cons, List.sum_cons]
theorem WL_sum {Ls : List Lw} (g : ∀ L ∈ Ls, GoodL L) (a : Int) : ∀ n : Nat, ((List.range n).map fun (i : Nat) => thickS Ls (a + i)).sum = WL a (a + n) Ls
  | 0 => by
    show 0 = WL a (a + 0) Ls
    rw [Int.add_zero, WL_same]
  | n + 1 => by
    rw [List.range_succ, List.map_append, List.sum_append, WL_sum g a n]
    show _ + (thickS Ls (a + n) + 0) = _
    rw [Int.add_zero, ← WL_one _ Ls g, WL_add (by omega) (by omega)]
    congr 1
    omega
/-- keys that are numbers -/
def IK (kvs : List (Key × V)) : Prop := ∀ x ∈ kvs, ∃ i : Int, x.1 = Sum.inl i
theorem IK.put {kvs : List (Key × V)} (h : IK kvs) (i : Int) (v : V) : IK (putK kvs (Sum.inl i) v) := by
  unfold putK
  intro x hx
  split at hx
  · obtain ⟨y, hy, rfl⟩ := List.mem_map.mp hx
    split
    · exact h y hy
    · exact h y hy
  · rcases List.mem_append.mp hx with hx | hx
    · exact h x hx
    · simp only [List.mem_cons, List.not_mem_nil, or_false] at hx
      rw [hx]
      exact ⟨i, rfl⟩
theorem IK.merge : ∀ {more kvs : List (Key × V)}, IK kvs → IK more → IK (mergeK kvs more)
  | [], _, h, _ => h
  | (k, v) :: r, kvs, h, hm => by
    obtain ⟨i, e⟩ := hm (k, v) (by simp)
    have e : k = Sum.inl i := e
    subst e
    exact IK.merge (more := r) (h.put i v) fun x hx => hm x (by simp [hx])
theorem IK.keys : ∀ {kvs : List (Key × V)}, IK kvs → ∃ ks : List Int, kvs.map (·.1) = ks.map Sum.inl ∧ ks.length = kvs.length
  | [], _ => ⟨[], rfl, rfl⟩
  | x :: r, h => by
    obtain ⟨i, e⟩ := h x (by simp)
    obtain ⟨ks, e2, e3⟩ := IK.keys (kvs := r) fun y hy => h y (by simp [hy])
    exact ⟨i :: ks, by rw [List.map_cons, List.map_cons, e, e2], by rw [List.length_cons, List.length_cons, e3]⟩
theorem small2000 {n : Nat} (h : n ≤ 5000) : n < sizeLine := Nat.lt_of_le_of_lt h (by decide)
def spThickS : Sp := fun vs H Q _ => ∃ (a : Addr) (Ls : List Lw) (p : Int), vs = [.ref a, .int p] ∧ StrandAt H a Ls ∧ Ls.length ≤ 60 ∧ ∀ H', Same H H' → Q (.int (thickS Ls p)) H'
def spBetween : Sp := fun vs H Q _ => ∃ (a : Addr) (Ls : List Lw) (x y : Int), vs = [.ref a, .int x, .int y] ∧ StrandAt H a Ls ∧ Ls.length ≤ 60 ∧ (∀ L ∈ Ls, GoodL L) ∧ ∀ H', Same H H' → Q (.int (WL x y Ls)) H'
def spDue8 : Sp := fun vs H Q _ => ∃ (o : Addr) (bs : List Addr) (Ls : List Lw) (x y : Int), vs = [.ref o, .int x, .int y] ∧ H o = some (.lst (bs.map V.ref)) ∧ LPartsAt H bs Ls ∧ (∀ L ∈ Ls, GoodL L) ∧ x ≤ y ∧ Q (.int (WL x y Ls)) H
def spEnds8 : Sp := fun vs H Q _ => ∃ (o : Addr) (bs : List Addr) (Ls : List Lw), vs = [.ref o] ∧ H o = some (.lst (bs.map V.ref)) ∧ LPartsAt H bs Ls ∧ Ls.length ≤ 60 ∧ (∀ L ∈ Ls, GoodL L) ∧
  ∀ (H' : Hp) (r : Addr) (ns : List Int), Same H H' → H r = none → H' r = some (.lst (ns.map V.int)) → ns.length ≤ 1200 → Q (.ref r) H'
def spRight8 : Sp := fun vs H Q _ => ∃ (p l : Addr) (T : Nat) (a : Addr) (Ls : List Lw) (small : Bool), vs = [.ref p, .ref a, .bl small] ∧ Pot H p l T ∧ T < 2 ^ 36 ∧ StrandAt H a Ls ∧ Ls.length ≤ 60 ∧ (∀ L ∈ Ls, GoodL L) ∧
  ∀ H', Pot H' p l (T + 1000) → Keep p l H H' → Q (.bl true) H'
theorem bulk_all {xs : List PyData} {n : Nat} (h : ∀ x ∈ xs, x.bulk + 1 ≤ n) : PyData.bulkAll xs ≤ n * xs.length := by
  induction xs with
  | nil => exact Nat.zero_le _
  | cons x r ih =>
    have h1 := h x (by simp)
    have h2 := ih fun y hy => h y (by simp [hy])
    show x.bulk + 1 + PyData.bulkAll r ≤ n * (r.length + 1)
    rw [Nat.mul_add]
    omega
theorem laid_bulk {L : Lw} (g : GoodL L) : (laidD L).bulk ≤ 40 := by
  have h1 := wisp_bulk L.so L.ps
  have h2 := g.1.2.1
  have h3 : (letD L.le).bulk = 0 := by
    cases L.le with
    | none => rfl
    | some n => rfl
  show (wispD L.so L.ps).bulk + 1 + (0 + 1 + ((letD L.le).bulk + 1 + 0)) ≤ 40
  omega
theorem strand_bulk {Ls : List Lw} (g : ∀ L ∈ Ls, GoodL L) (hl : Ls.length ≤ 60) : (strandD Ls).bulk ≤ 20000 := by
  have h := bulk_all (xs := Ls.map laidD) (n := 41) fun x hx => by
    obtain ⟨L, hL, rfl⟩ := List.mem_map.mp hx
    have := laid_bulk (g L hL)
    omega
  rw [List.length_map] at h
  show PyData.bulkAll (Ls.map laidD) ≤ 20000
  omega
theorem TableAt.keep {p l : Addr} {H H' : Hp} {T : Nat} {b : Addr} {ts : List (Int × Int × Int)} (h : TableAt H b ts) (hne : ts ≠ []) (k : Keep p l H H') (hp : Pot H p l T) : TableAt H' b ts := by
  obtain ⟨as, h1, h2⟩ := h
  have hp' := hp
  obtain ⟨ns, c, m, t, e1, e2, _⟩ := hp'
  have ha : as ≠ [] := fun e => by
    have := h2.1
    rw [e, List.length_map] at this
    exact hne (List.length_eq_zero_iff.mp this.symm)
  refine ⟨as, k _ _ (fun e => ?_) (fun e => ?_) h1, h2.mono (k.tups hp)⟩
  · subst e
    rw [h1] at e1
    cases as with
    | nil => exact ha rfl
    | cons x r => cases r with
      | nil => simp at e1
      | cons y r => simp at e1
  · subst e
    rw [h1] at e2
    cases as with
    | nil => exact ha rfl
    | cons x r => cases ns with
      | nil => simp at e2
      | cons y r => simp at e2
theorem law_ne {L : Lw} (g : GoodL L) : lawParts L.le L.ps L.pl ≠ [] := by
  have hp : ∀ x ∈ L.ps, 1 ≤ x.2 := fun x hx => (g.1.2.2 x hx).2.2.1
  have hne : L.ps ≠ [] := fun e => by
    have := g.1.1
    rw [e] at this
    exact absurd this (by decide)
  obtain ⟨ys, b', t, e⟩ := law_last (le := L.le) L.ps L.pl hne hp fun n hn => (g.2.2.2.2.2 n hn).1
  rw [e]
  simp
theorem LPartsAt.keep {p l : Addr} {H H' : Hp} {T : Nat} {bs : List Addr} {Ls : List Lw} (h : LPartsAt H bs Ls) (g : ∀ L ∈ Ls, GoodL L) (k : Keep p l H H') (hp : Pot H p l T) : LPartsAt H' bs Ls := ⟨h.1, fun i b hb => by
  obtain ⟨L, h1, h2⟩ := h.2 i b hb
  exact ⟨L, h1, h2.keep (law_ne (g L (List.mem_of_getElem? h1))) k hp⟩⟩
theorem ne_same (d : PyData) (h : d.canLay0 = true) : (!PyData.eqv d d) = false := by
  rw [PySem.SeqAt.eqv_refl d h]
  rfl
/-! ### what runs where -/
def s0 (Ls : List Lw) (p : Int) : Int := (Ls.map fun L => if L.so = 0 then thickL L p else 0).sum
def s1 (Ls : List Lw) (p : Int) : Int := (Ls.map fun L => if L.so = 0 then 0 else thickL L p).sum
theorem s01 (p : Int) : ∀ Ls : List Lw, s0 Ls p + s1 Ls p = thickS Ls p
  | [] => rfl
  | L :: r => by
    have ih := s01 p r
    unfold s0 s1 thickS at ih ⊢
    rw [List.map_cons, List.map_cons, List.map_cons, List.sum_cons, List.sum_cons, List.sum_cons]
    split <;> omega
theorem s0_snoc (Ls : List Lw) (L : Lw) (p : Int) : s0 (Ls ++ [L]) p = s0 Ls p + if L.so = 0 then thickL L p else 0 := by
  unfold s0
  rw [List.map_append, List.sum_append]
  simp
theorem s1_snoc (Ls : List Lw) (L : Lw) (p : Int) : s1 (Ls ++ [L]) p = s1 Ls p + if L.so = 0 then 0 else thickL L p := by
  unfold s1
  rw [List.map_append, List.sum_append]
  simp
theorem strong_w (p : Int) : ∀ ts : List (Int × Int × Int), strongOf p ts = wsum p (p + 1) ts
  | [] => rfl
  | (a, b, c) :: r => by
    rw [strong_cons, wsum_cons, strong_w p r, ovl_one]
    show (if (decide (a ≤ p) && decide (p < b)) = true then c else 0) + _ = c * (if a ≤ p ∧ p < b then 1 else 0) + _
    by_cases h : a ≤ p ∧ p < b
    · rw [if_pos h, if_pos (by simp [h.1, h.2]), Int.mul_one]
    · rw [if_neg h, if_neg (by simp only [Bool.and_eq_true, decide_eq_true_eq]; exact h), Int.mul_zero]
theorem strong_L {L : Lw} (g : GoodL L) (p : Int) : strongOf p (lawParts L.le L.ps L.pl) = thickL L p := by
  have hp : ∀ p ∈ L.ps, 1 ≤ p.2 := fun p hp => (g.1.2.2 p hp).2.2.1
  rw [strong_w, parts_eq L.ps L.pl hp, one_thick g]
theorem hits_none {le : Option Int} (ps : List (Int × Int)) (st p : Int) (hg : ∀ x ∈ ps, 1 ≤ x.2) (h : p < st) : (lawParts le ps st).filter (inRow p) = [] := by
  rw [List.filter_eq_nil_iff]
  intro x hx
  have := (law_mem ps st hg x hx).1
  unfold inRow
  simp only [Bool.and_eq_true, decide_eq_true_eq]
  omega
theorem hits_one {le : Option Int} : ∀ (ps : List (Int × Int)) (st p : Int), (∀ x ∈ ps, 1 ≤ x.2) → ((lawParts le ps st).filter (inRow p)).length ≤ 1
  | [], _, _, _ => Nat.zero_le _
  | (t, g) :: r, st, p, hg => by
    have hg1 : 1 ≤ g := hg (t, g) (by simp)
    have hr : ∀ p ∈ r, 1 ≤ p.2 := fun x hx => hg x (by simp [hx])
    show (((if st < clip le (st + g) then [(st, clip le (st + g), t)] else []) ++ lawParts le r (st + g)).filter (inRow p)).length ≤ 1
    rw [List.filter_append, List.length_append]
    by_cases h : p < st + g
    · rw [hits_none r (st + g) p hr h]
      have : ((if st < clip le (st + g) then [(st, clip le (st + g), t)] else []).filter (inRow p)).length ≤ 1 := by
        refine Nat.le_trans (List.length_filter_le _ _) ?_
        split
        · exact Nat.le_refl _
        · exact Nat.zero_le _
      exact this
    · have e : (if st < clip le (st + g) then [(st, clip le (st + g), t)] else []).filter (inRow p) = [] := by
        rw [List.filter_eq_nil_iff]
        intro x hx
        split at hx
        · simp only [List.mem_cons, List.not_mem_nil, or_false] at hx
          subst hx
          have := clip_le (le := le) (e := st + g)
          show ¬ (decide (st ≤ p) && decide (p < clip le (st + g))) = true
          simp only [Bool.and_eq_true, decide_eq_true_eq]
          omega
        · cases hx
      rw [e]
      have := hits_one (le := le) r (st + g) p hr
      show 0 + _ ≤ 1
      omega
theorem hits_L {L : Lw} (g : GoodL L) (p : Int) (k : Int) : ((lawParts L.le L.ps L.pl).filter (inRow p)).map (fun _ => k) = if 0 < thickL L p then [k] else [] := by
  have hp : ∀ p ∈ L.ps, 1 ≤ p.2 := fun p hp => (g.1.2.2 p hp).2.2.1
  have h1 := hits_one (le := L.le) L.ps L.pl p hp
  have h2 := strong_L g p
  unfold strongOf at h2
  cases q : (lawParts L.le L.ps L.pl).filter (inRow p) with
  | nil =>
    rw [q] at h2
    have h2 : (0 : Int) = thickL L p := h2
    rw [if_neg (by omega)]
    rfl
  | cons x r =>
    rw [q] at h1 h2
    have hr : r = [] := by
      cases r with
      | nil => rfl
      | cons y r => exact absurd h1 (by simp)
    subst hr
    have hx : x ∈ (lawParts L.le L.ps L.pl).filter (inRow p) := by rw [q]; simp
    have hx := (List.mem_filter.mp hx).1
    obtain ⟨_, _, _, g', h4⟩ := law_mem L.ps L.pl hp x hx
    have h5 : 1 ≤ x.2.2 := (g.1.2.2 _ h4).1
    have h2 : x.2.2 + 0 = thickL L p := h2
    rw [if_pos (by omega)]
    rfl
def spSorts : Sp := fun vs H Q _ => ∃ (a t : Addr) (Ls : List Lw) (p : Int), vs = [.ref a, .ref t] ∧ StrandAt H a Ls ∧ H t = some (.lst ((Ls.map fun L => thickL L p).map V.int)) ∧ (∀ L ∈ Ls, GoodL L) ∧ ∀ H' o, Same H H' → H o = none → H' o = some (.tup [.int (s0 Ls p), .int (s1 Ls p)]) → Q (.ref o) H'
def spBy : Sp := fun vs H Q _ => ∃ (a : Addr) (Ls : List Lw) (p : Int), vs = [.ref a, .int p] ∧ StrandAt H a Ls ∧ Ls.length ≤ 60 ∧ (∀ L ∈ Ls, GoodL L) ∧ ∀ H' o, Same H H' → H o = none → H' o = some (.tup [.int (s0 Ls p), .int (s1 Ls p)]) → Q (.ref o) H'
def spAt6 : Sp := fun vs H Q _ => ∃ (a o : Addr) (bs : List Addr) (Ls : List Lw) (p : Int), vs = [.ref a, .ref o, .int p] ∧ StrandAt H a Ls ∧ Ls.length ≤ 60 ∧ (∀ L ∈ Ls, GoodL L) ∧ H o = some (.lst (bs.map V.ref)) ∧ LPartsAt H bs Ls ∧
  ∀ (H' : Hp) (r t1 t2 : Addr), Same H H' → H' r = some (.tup [.ref t1, .ref t2]) → H' t1 = some (.tup ((numsFrom 0 (Ls.map fun L => thickL L p)).map V.int)) → H' t2 = some (.tup [.int (s0 Ls p), .int (s1 Ls p)]) → Q (.ref r) H'
def spSpots6 : Sp := fun vs H Q _ => ∃ (p l : Addr) (T : Nat) (o : Addr) (bs : List Addr) (Ls : List Lw), vs = [.ref p, .ref o] ∧ Pot H p l T ∧ T < 2 ^ 37 ∧ H o = some (.lst (bs.map V.ref)) ∧ LPartsAt H bs Ls ∧ Ls.length ≤ 60 ∧ (∀ L ∈ Ls, GoodL L) ∧
  ∀ (H' : Hp) (r : Addr) (ns : List Int), Pot H' p l (T + 100) → Keep p l H H' → H r = none → H' r = some (.lst (ns.map V.int)) → ns.length ≤ 100 → Q (.ref r) H'
def spRight6 : Sp := fun vs H Q _ => ∃ (p l : Addr) (T : Nat) (a : Addr) (Ls : List Lw), vs = [.ref p, .ref a] ∧ Pot H p l T ∧ T < 2 ^ 36 ∧ StrandAt H a Ls ∧ Ls.length ≤ 60 ∧ (∀ L ∈ Ls, GoodL L) ∧
  ∀ H', Pot H' p l (T + 1000) → Keep p l H H' → Q (.bl true) H'
theorem ints_ti (ns : List Int) (h : ns.length ≤ 5000) : TI (.tuple (ns.map PyData.int)) := by
  refine .tup (fun x hx => ?_) (by rw [List.length_map]; exact h)
  obtain ⟨n, _, rfl⟩ := List.mem_map.mp hx
  exact .int n
theorem ints_d (ns : List Int) : (PyData.tuple (ns.map PyData.int)).depth < 4 := by
  refine Nat.lt_of_le_of_lt (Nat.succ_le_succ (depth_all (n := 0) fun x hx => ?_)) (by decide)
  obtain ⟨n, _, rfl⟩ := List.mem_map.mp hx
  exact Nat.le_refl _
/-! ### what changes where -/
/-- what is written at the place k, from the parts in their order -/
def wr (k : Int) : List (Int × Int × Int) → List Int
  | [] => []
  | (s, e, t) :: r => (if s = k then [t] else []) ++ (if e = k then [0] else []) ++ wr k r
def lastD (xs : List Int) (d : Int) : Int := xs.getLast?.getD d
def Rise : List (Int × Int × Int) → Prop
  | [] => True
  | (s, e, _) :: r => s < e ∧ (∀ y ∈ r, e ≤ y.1 ∧ y.1 < y.2.1) ∧ Rise r
theorem rise_law {le : Option Int} : ∀ (ps : List (Int × Int)) (st : Int), (∀ p ∈ ps, 1 ≤ p.2) → Rise (lawParts le ps st)
  | [], _, _ => True.intro
  | (t, g) :: r, st, hg => by
    have hg1 : 1 ≤ g := hg (t, g) (by simp)
    have hr : ∀ p ∈ r, 1 ≤ p.2 := fun x hx => hg x (by simp [hx])
    have ih := rise_law (le := le) r (st + g) hr
    show Rise ((if st < clip le (st + g) then [(st, clip le (st + g), t)] else []) ++ lawParts le r (st + g))
    split
    · next h =>
      refine ⟨h, fun y hy => ?_, ih⟩
      have h1 := law_mem (le := le) r (st + g) hr y hy
      have h2 := clip_le (le := le) (e := st + g)
      exact ⟨by omega, h1.2.1⟩
    · exact ih
theorem wr_none {k b : Int} : ∀ {qs : List (Int × Int × Int)}, (∀ y ∈ qs, b ≤ y.1 ∧ y.1 < y.2.1) → k < b → wr k qs = []
  | [], _, _ => rfl
  | (s, e, t) :: r, h, hk => by
    have h1 := h (s, e, t) (by simp)
    have h1 : b ≤ s ∧ s < e := h1
    show (if s = k then [t] else []) ++ (if e = k then [0] else []) ++ wr k r = []
    rw [if_neg (by omega), if_neg (by omega), wr_none (fun y hy => h y (by simp [hy])) hk]
    rfl
theorem strong_none {k b : Int} : ∀ {qs : List (Int × Int × Int)}, (∀ y ∈ qs, b ≤ y.1 ∧ y.1 < y.2.1) → k < b → strongOf k qs = 0
  | [], _, _ => rfl
  | (s, e, t) :: r, h, hk => by
    have h1 : b ≤ s ∧ s < e := h (s, e, t) (by simp)
    rw [strong_cons, strong_none (fun y hy => h y (by simp [hy])) hk]
    show (if (decide (s ≤ k) && decide (k < e)) = true then t else 0) + 0 = 0
    rw [if_neg (by simp only [Bool.and_eq_true, decide_eq_true_eq]; omega)]
    rfl
theorem wr_ne {k : Int} : ∀ {qs : List (Int × Int × Int)}, wr k qs ≠ [] → ∃ y ∈ qs, y.1 = k ∨ y.2.1 = k
  | [], h => absurd rfl h
  | (s, e, t) :: r, h => by
    by_cases h1 : s = k
    · exact ⟨(s, e, t), by simp, .inl h1⟩
    · by_cases h2 : e = k
      · exact ⟨(s, e, t), by simp, .inr h2⟩
      · have h : (if s = k then [t] else []) ++ (if e = k then [0] else []) ++ wr k r ≠ [] := h
        rw [if_neg h1, if_neg h2] at h
        obtain ⟨y, hy, z⟩ := wr_ne (qs := r) h
        exact ⟨y, by simp [hy], z⟩
theorem lastD_app {xs ys : List Int} {d : Int} (h : ys ≠ []) : lastD (xs ++ ys) d = lastD ys d := by
  unfold lastD
  rw [List.getLast?_append]
  cases q : ys.getLast? with
  | none => exact absurd (List.getLast?_eq_none_iff.mp q) h
  | some y => rfl
/-- nothing begins or ends between j and k: at k it is as at j but for what is written there -/
theorem strong_step {j k : Int} (hjk : j < k) : ∀ (qs : List (Int × Int × Int)), Rise qs → (∀ y ∈ qs, (y.1 ≤ j ∨ k ≤ y.1) ∧ (y.2.1 ≤ j ∨ k ≤ y.2.1)) → strongOf k qs = lastD (wr k qs) (strongOf j qs)
  | [], _, _ => rfl
  | (s, e, t) :: r, hr, hn => by
    obtain ⟨hse, hlo, hrr⟩ := hr
    have h1 : (s ≤ j ∨ k ≤ s) ∧ (e ≤ j ∨ k ≤ e) := hn (s, e, t) (by simp)
    have ih := strong_step hjk r hrr fun y hy => hn y (by simp [hy])
    rw [strong_cons, strong_cons, ih]
    show (if (decide (s ≤ k) && decide (k < e)) = true then t else 0) + _ = lastD ((if s = k then [t] else []) ++ (if e = k then [0] else []) ++ wr k r) ((if (decide (s ≤ j) && decide (j < e)) = true then t else 0) + strongOf j r)
    have cond : ∀ x : Int, ((decide (s ≤ x) && decide (x < e)) = true) ↔ (s ≤ x ∧ x < e) := fun x => by simp only [Bool.and_eq_true, decide_eq_true_eq]
    by_cases hw : wr k r = []
    · rw [hw, List.append_nil]
      have e0 : lastD [] (strongOf j r) = strongOf j r := rfl
      rw [e0]
      by_cases he : e = k
      · have z : strongOf j r = 0 := strong_none (b := e) hlo (by omega)
        rw [if_pos he, if_neg (by rw [cond]; omega), z, lastD_app (by simp)]
        rfl
      · rw [if_neg he, List.append_nil]
        by_cases hs : s = k
        · have z : strongOf j r = 0 := strong_none (b := e) hlo (by omega)
          rw [if_pos hs, if_pos (by rw [cond]; omega), z]
          show t + 0 = t
          omega
        · rw [if_neg hs]
          show _ = (if (decide (s ≤ j) && decide (j < e)) = true then t else 0) + strongOf j r
          by_cases hc : s ≤ j ∧ j < e
          · rw [if_pos ((cond k).mpr (by omega)), if_pos ((cond j).mpr hc)]
          · rw [if_neg (fun z => hc (by have := (cond k).mp z; omega)), if_neg (fun z => hc ((cond j).mp z))]
    · obtain ⟨y, hy, hk⟩ := wr_ne hw
      have h2 := hlo y hy
      rw [lastD_app hw, if_neg (by rw [cond]; omega), Int.zero_add]
      unfold lastD
      cases q : (wr k r).getLast? with
      | none => exact absurd (List.getLast?_eq_none_iff.mp q) hw
      | some y => rfl
theorem thick_step {L : Lw} (g : GoodL L) {j k : Int} (hjk : j < k) (hn : ∀ y ∈ partsOf L.le L.ps L.pl, (y.1 ≤ j ∨ k ≤ y.1) ∧ (y.2.1 ≤ j ∨ k ≤ y.2.1)) : thickL L k = lastD (wr k (partsOf L.le L.ps L.pl)) (thickL L j) := by
  have hp : ∀ p ∈ L.ps, 1 ≤ p.2 := fun p hp => (g.1.2.2 p hp).2.2.1
  rw [← parts_eq L.ps L.pl hp] at hn ⊢
  rw [← strong_L g, ← strong_L g]
  exact strong_step hjk _ (rise_law L.ps L.pl hp) hn
/-! ### keys that are numbers, no two alike -/
def IKN (kvs : List (Key × V)) : Prop := IK kvs ∧ (kvs.map (·.1)).Nodup
theorem put_keys (kvs : List (Key × V)) (k : Key) (v : V) (h : (kvs.map (·.1)).Nodup) : ((putK kvs k v).map (·.1)).Nodup := by
  unfold putK
  split
  · have e : (kvs.map (fun kv => if kv.1 = k then (kv.1, v) else kv)).map (·.1) = kvs.map (·.1) := by
      rw [List.map_map]
      refine List.map_congr_left fun x _ => ?_
      show (if x.1 = k then (x.1, v) else x).1 = x.1
      split <;> rfl
    rw [e]
    exact h
  · next hn =>
    rw [List.map_append]
    refine List.nodup_append.mpr ⟨h, by simp, fun x hx y hy e => ?_⟩
    simp only [List.map_cons, List.map_nil, List.mem_cons, List.not_mem_nil, or_false] at hy
    obtain ⟨z, hz, ez⟩ := List.mem_map.mp hx
    exact hn (List.any_eq_true.mpr ⟨z, hz, decide_eq_true (by rw [ez, e, hy])⟩)
theorem IKN.put {kvs : List (Key × V)} (h : IKN kvs) (i : Int) (v : V) : IKN (putK kvs (Sum.inl i) v) := ⟨h.1.put i v, put_keys _ _ _ h.2⟩
theorem keys_of {kvs : List (Key × V)} (h : IKN kvs) : ∃ ks : List Int, kvs.map (·.1) = ks.map Sum.inl ∧ ks.length = kvs.length ∧ ks.Nodup ∧ ∀ k, k ∈ ks ↔ ∃ v, valV kvs (Sum.inl k) = some v := by
  obtain ⟨ks, e, hl⟩ := h.1.keys
  refine ⟨ks, e, hl, ?_, fun k => ?_⟩
  · have := h.2
    rw [e] at this
    exact (List.pairwise_map.mp this).imp fun h e => h (congrArg Sum.inl e)
  · have m : k ∈ ks ↔ (Sum.inl k : Key) ∈ kvs.map (·.1) := by
      rw [e]
      constructor
      · exact fun h => List.mem_map.mpr ⟨k, h, rfl⟩
      · intro h
        obtain ⟨x, hx, ex⟩ := List.mem_map.mp h
        cases ex
        exact hx
    rw [m]
    constructor
    · intro hm
      obtain ⟨z, hz, ez⟩ := List.mem_map.mp hm
      cases hv : valV kvs (Sum.inl k) with
      | some v => exact ⟨v, rfl⟩
      | none =>
        have := valV_any (Sum.inl k : Key) kvs
        rw [hv] at this
        have h2 : (kvs.any fun kv => decide (kv.1 = Sum.inl k)) = true := List.any_eq_true.mpr ⟨z, hz, decide_eq_true ez⟩
        rw [h2] at this
        cases this
    · rintro ⟨v, hv⟩
      have := valV_any (Sum.inl k : Key) kvs
      rw [hv] at this
      obtain ⟨z, hz, ez⟩ := List.any_eq_true.mp this
      exact List.mem_map.mpr ⟨z, hz, of_decide_eq_true ez⟩
theorem sorted_strict {ys ks : List Int} (hp : ys.Perm ks) (hs : ys.Pairwise (· ≤ ·)) (hn : ks.Nodup) : ys.Pairwise (· < ·) := by
  have hn' : ys.Nodup := hp.nodup_iff.mpr hn
  exact (hs.and hn').imp fun ⟨h1, h2⟩ => by omega
/-- two lists that rise, with the same members, are one -/
theorem rise_eq : ∀ {xs ys : List Int}, xs.Pairwise (· < ·) → ys.Pairwise (· < ·) → (∀ k, k ∈ xs ↔ k ∈ ys) → xs = ys
  | [], [], _, _, _ => rfl
  | [], y :: r, _, _, h => absurd ((h y).mpr (by simp)) (by simp)
  | x :: r, [], _, _, h => absurd ((h x).mp (by simp)) (by simp)
  | x :: r, y :: s, hx, hy, h => by
    have hx' := List.pairwise_cons.mp hx
    have hy' := List.pairwise_cons.mp hy
    have e : x = y := by
      rcases List.mem_cons.mp ((h x).mp (by simp)) with e | e
      · exact e
      · rcases List.mem_cons.mp ((h y).mpr (by simp)) with e2 | e2
        · exact e2.symm
        · have h1 := hy'.1 x e
          have h2 := hx'.1 y e2
          omega
    subst e
    congr 1
    refine rise_eq hx'.2 hy'.2 fun k => ?_
    constructor
    · intro hk
      rcases List.mem_cons.mp ((h k).mp (by simp [hk])) with e | e
      · have := hx'.1 k hk
        omega
      · exact e
    · intro hk
      rcases List.mem_cons.mp ((h k).mpr (by simp [hk])) with e | e
      · have := hy'.1 k hk
        omega
      · exact e
/-! ### a dict of lists of pairs -/
theorem Tups.dk {H : Hp} {a : Addr} {kvs : List (Key × V)} {o : HO} (h : H a = some (.dK kvs)) : Tups H (upd H a o) := fun c ys e => by
  by_cases n : c = a
  · subst n
    rw [h] at e
    cases e
  · rw [upd_ne n]
    exact e
def DAtK (H0 H : Hp) (d : Addr) (kvs : List (Key × V)) (N : Nat) (ks : Int → Prop) (W : Int → List (Int × Int)) : Prop := H d = some (.dK kvs) ∧ IKN kvs ∧ kvs.length ≤ N ∧ (∀ k, ks k ↔ ∃ v, valV kvs (Sum.inl k) = some v) ∧ (∀ k, ¬ ks k → W k = []) ∧
  (∀ k v, valV kvs (Sum.inl k) = some v → ∃ q as, v = .ref q ∧ H0 q = none ∧ q ≠ d ∧ H q = some (.lst (as.map V.ref)) ∧ TupsAt H as ((W k).map stepV)) ∧ ∀ k k' v, valV kvs (Sum.inl k) = some v → valV kvs (Sum.inl k') = some v → k = k'
theorem DAtK.new {H0 H : Hp} {d : Addr} {kvs : List (Key × V)} {N : Nat} {ks : Int → Prop} {W : Int → List (Int × Int)} (h : DAtK H0 H d kvs N ks W) {z : Addr} {o : HO} (n : H z = none) : DAtK H0 (upd H z o) d kvs N ks W := by
  obtain ⟨h1, h2, h3, h4, h5, h6, h7⟩ := h
  refine ⟨?_, h2, h3, h4, h5, fun k v e => ?_, h7⟩
  · rw [upd_ne (ne_of_none h1 n)]
    exact h1
  · obtain ⟨q, as, e1, e2, e3, e4, e5⟩ := h6 k v e
    refine ⟨q, as, e1, e2, e3, ?_, e5.mono (Tups.new n)⟩
    rw [upd_ne (ne_of_none e4 n)]
    exact e4
/-- a new key, its list empty -/
theorem DAtK.put {H0 H : Hp} {d : Addr} {kvs : List (Key × V)} {N : Nat} {ks : Int → Prop} {W : Int → List (Int × Int)} (h : DAtK H0 H d kvs N ks W) {z : Addr} {k : Int} (ez : H z = some (.lst [])) (nz : H0 z = none) (zf : ∀ k v, valV kvs (Sum.inl k) = some v → v ≠ .ref z) (nk : valV kvs (Sum.inl k) = none) :
    DAtK H0 (upd H d (.dK (putK kvs (Sum.inl k) (.ref z)))) d (putK kvs (Sum.inl k) (.ref z)) (N + 1) (fun x => ks x ∨ x = k) W := by
  obtain ⟨h1, h2, h3, h4, h5, h6, h7⟩ := h
  have zd : z ≠ d := fun e => by
    rw [e, h1] at ez
    cases ez
  have vp : ∀ x : Int, valV (putK kvs (Sum.inl k) (.ref z)) (Sum.inl x) = if x = k then some (.ref z) else valV kvs (Sum.inl x) := fun x => by
    rw [valV_put]
    by_cases e : x = k
    · rw [if_pos e, if_pos (by rw [e])]
    · rw [if_neg e, if_neg (fun q => e (Sum.inl.inj q))]
  have wk : W k = [] := h5 k fun z => by
    obtain ⟨v, e⟩ := (h4 k).mp z
    rw [nk] at e
    cases e
  refine ⟨upd_same, h2.put k _, Nat.le_trans (length_putK _ _ _) (Nat.succ_le_succ h3), fun x => ?_, fun x n => h5 x fun y => n (.inl y), fun x v e => ?_, fun x y v e e' => ?_⟩
  · rw [vp]
    by_cases e : x = k
    · rw [if_pos e]
      exact ⟨fun _ => ⟨_, rfl⟩, fun _ => .inr e⟩
    · rw [if_neg e, ← h4]
      exact ⟨fun y => y.resolve_right e, .inl⟩
  · rw [vp] at e
    by_cases n : x = k
    · rw [if_pos n] at e
      cases e
      refine ⟨z, [], rfl, nz, zd, ?_, ?_⟩
      · rw [upd_ne zd]
        exact ez
      · rw [n, wk]
        exact TupsAt.nil
    · rw [if_neg n] at e
      obtain ⟨q, as, e1, e2, e3, e4, e5⟩ := h6 x v e
      refine ⟨q, as, e1, e2, e3, ?_, e5.mono (Tups.dk h1)⟩
      rw [upd_ne e3]
      exact e4
  · rw [vp] at e e'
    by_cases n : x = k
    · rw [if_pos n] at e
      cases e
      by_cases n' : y = k
      · rw [n, n']
      · rw [if_neg n'] at e'
        exact absurd rfl (zf y _ e')
    · rw [if_neg n] at e
      by_cases n' : y = k
      · rw [if_pos n'] at e'
        cases e'
        exact absurd rfl (zf x _ e)
      · rw [if_neg n'] at e'
        exact h7 x y v e e'
/-- a pair more in a key's list -/
theorem DAtK.app {H0 H : Hp} {d : Addr} {kvs : List (Key × V)} {N : Nat} {ks : Int → Prop} {W : Int → List (Int × Int)} (h : DAtK H0 H d kvs N ks W) {k : Int} {q c : Addr} {as : List Addr} {p : Int × Int} (eq : valV kvs (Sum.inl k) = some (.ref q)) (el : H q = some (.lst (as.map V.ref))) (et : TupsAt H as ((W k).map stepV)) (ec : H c = some (.tup (stepV p))) :
    DAtK H0 (upd H q (.lst (as.map V.ref ++ [.ref c]))) d kvs N ks (fun x => if x = k then W k ++ [p] else W x) := by
  obtain ⟨h1, h2, h3, h4, h5, h6, h7⟩ := h
  obtain ⟨q', as', e1, _, qd, _, _⟩ := h6 k _ eq
  cases e1
  refine ⟨?_, h2, h3, h4, fun x n => ?_, fun x v e => ?_, h7⟩
  · rw [upd_ne qd.symm]
    exact h1
  · show (if x = k then W k ++ [p] else W x) = []
    rw [if_neg (fun z => n ((h4 x).mpr (by rw [z]; exact ⟨_, eq⟩))), h5 x n]
  · obtain ⟨r, bs, e1, e2, e3, e4, e5⟩ := h6 x v e
    by_cases n : x = k
    · subst n
      have e6 := Option.some.inj (e.symm.trans eq)
      rw [e1] at e6
      cases e6
      refine ⟨q, as ++ [c], e1, e2, e3, ?_, ?_⟩
      · rw [upd_same, List.map_append]
        rfl
      · show TupsAt _ _ ((if x = x then W x ++ [p] else W x).map stepV)
        rw [if_pos rfl, List.map_append]
        exact (et.snoc ec).mono (Tups.ls el)
    · have rq : r ≠ q := fun z => n (h7 x k v e (by rw [e1, z]; exact eq))
      refine ⟨r, bs, e1, e2, e3, ?_, ?_⟩
      · rw [upd_ne rq]
        exact e4
      · show TupsAt _ _ ((if x = k then W k ++ [p] else W x).map stepV)
        rw [if_neg n]
        exact e5.mono (Tups.ls el)
theorem DAtK.congr {H0 H : Hp} {d : Addr} {kvs : List (Key × V)} {N M : Nat} {ks ks' : Int → Prop} {W W' : Int → List (Int × Int)} (h : DAtK H0 H d kvs N ks W) (hn : N ≤ M) (h1 : ∀ k, ks k ↔ ks' k) (h2 : ∀ k, W k = W' k) : DAtK H0 H d kvs M ks' W' := by
  have e1 : ks = ks' := funext fun k => propext (h1 k)
  have e2 : W = W' := funext h2
  subst e1 e2
  exact ⟨h.1, h.2.1, Nat.le_trans h.2.2.1 hn, h.2.2.2⟩
def Wall (k : Int) : Nat → List Lw → List (Int × Int)
  | _, [] => []
  | n, L :: r => (wr k (partsOf L.le L.ps L.pl)).map (fun t => ((n : Int), t)) ++ Wall k (n + 1) r
theorem wall_snoc (k : Int) (L : Lw) : ∀ (Ls : List Lw) (n : Nat), Wall k n (Ls ++ [L]) = Wall k n Ls ++ (wr k (partsOf L.le L.ps L.pl)).map fun t => (((n + Ls.length : Nat) : Int), t)
  | [], n => by
    show _ ++ [] = [] ++ _
    rw [List.append_nil]
    rfl
  | M :: r, n => by
    show _ ++ Wall k (n + 1) (r ++ [L]) = (_ ++ Wall k (n + 1) r) ++ _
    rw [wall_snoc k L r (n + 1), List.append_assoc, List.length_cons, show n + 1 + r.length = n + (r.length + 1) by omega]
theorem wr_snoc (k s e t : Int) : ∀ qs : List (Int × Int × Int), wr k (qs ++ [(s, e, t)]) = wr k qs ++ ((if s = k then [t] else []) ++ (if e = k then [0] else []))
  | [] => by
    show _ ++ _ ++ [] = [] ++ _
    rw [List.append_nil]
    rfl
  | (a, b, c) :: r => by
    show _ ++ _ ++ wr k (r ++ [(s, e, t)]) = _ ++ _ ++ wr k r ++ _
    rw [wr_snoc k s e t r, List.append_assoc _ (wr k r)]
theorem wr_len (k : Int) : ∀ qs : List (Int × Int × Int), (wr k qs).length ≤ 2 * qs.length
  | [] => Nat.le_refl _
  | (a, b, c) :: r => by
    have := wr_len k r
    show ((if a = k then [c] else []) ++ (if b = k then [0] else []) ++ wr k r).length ≤ 2 * (r.length + 1)
    rw [List.length_append, List.length_append]
    have h1 : (if a = k then [c] else []).length ≤ 1 := by split <;> simp
    have h2 : (if b = k then [(0 : Int)] else []).length ≤ 1 := by split <;> simp
    omega
theorem wall_len (k : Int) : ∀ (Ls : List Lw) (n : Nat), (∀ L ∈ Ls, GoodL L) → (Wall k n Ls).length ≤ 20 * Ls.length
  | [], _, _ => Nat.le_refl _
  | L :: r, n, g => by
    have h1 := wall_len k r (n + 1) fun M h => g M (by simp [h])
    have h2 := wr_len k (partsOf L.le L.ps L.pl)
    have h3 := part_len (le := L.le) L.ps L.pl
    have h4 := (g L (by simp)).1.2.1
    show ((wr k (partsOf L.le L.ps L.pl)).map (fun t => ((n : Int), t)) ++ Wall k (n + 1) r).length ≤ 20 * (r.length + 1)
    rw [List.length_append, List.length_map]
    omega
def Keys (Ls : List Lw) (k : Int) : Prop := k = 0 ∨ ∃ L ∈ Ls, ∃ y ∈ partsOf L.le L.ps L.pl, y.1 = k ∨ y.2.1 = k
def spChanges : Sp := fun vs H Q _ => ∃ (a : Addr) (Ls : List Lw), vs = [.ref a] ∧ StrandAt H a Ls ∧ Ls.length ≤ 60 ∧ (∀ L ∈ Ls, GoodL L) ∧
  ∀ (H' : Hp) (d : Addr) (kvs : List (Key × V)), Same H H' → H d = none → DAtK H H' d kvs 1300 (Keys Ls) (fun k => Wall k 0 Ls) → Q (.ref d) H'
theorem DAtK.same {H0 H H' : Hp} {d : Addr} {kvs : List (Key × V)} {N : Nat} {ks : Int → Prop} {W : Int → List (Int × Int)} (h : DAtK H0 H d kvs N ks W) (s : Same H H') : DAtK H0 H' d kvs N ks W := by
  obtain ⟨h1, h2, h3, h4, h5, h6, h7⟩ := h
  refine ⟨s _ _ h1, h2, h3, h4, h5, fun k v e => ?_, h7⟩
  obtain ⟨q, as, e1, e2, e3, e4, e5⟩ := h6 k v e
  exact ⟨q, as, e1, e2, e3, s _ _ e4, e5.mono (Tups.same s)⟩
theorem hu1 {u c : Nat} (h : u + 64 < c) : u + 1 < c := by omega
/-- what stands behind setdefault(k, []).append((n, t)); o: a list beside it -/
def Aft (H0 H : Hp) (d o : Addr) (xs : List V) (N : Nat) (ks : Int → Prop) (W : Int → List (Int × Int)) (k : Int) (p : Int × Int) (H6 : Hp) : Prop := ∃ kvs6, DAtK H0 H6 d kvs6 (N + 1) (fun x => ks x ∨ x = k) (fun x => if x = k then W k ++ [p] else W x) ∧ Same H0 H6 ∧ Tups H H6 ∧ H6 o = some (.lst xs) ∧ ∀ k v, valV kvs6 (Sum.inl k) = some v → v ≠ .ref o
theorem DAtK.found {H0 H : Hp} {d o : Addr} {xs : List V} {kvs : List (Key × V)} {N : Nat} {ks : Int → Prop} {W : Int → List (Int × Int)} (h : DAtK H0 H d kvs N ks W) (s : Same H0 H) (eo : H o = some (.lst xs)) (nv : ∀ k v, valV kvs (Sum.inl k) = some v → v ≠ .ref o) {Z : Addr} (nZ : H Z = none) {k : Int} {v : V} (hv : valV kvs (Sum.inl k) = some v) (p : Int × Int) :
    ∃ (q : Addr) (as : List Addr), v = .ref q ∧ upd H Z (.lst []) q = some (.lst (as.map V.ref)) ∧ as.length = (W k).length ∧ ∀ P, upd H Z (.lst []) P = none → Aft H0 H d o xs N ks W k p (upd (upd (upd H Z (.lst [])) P (.tup (stepV p))) q (.lst (as.map V.ref ++ [.ref P]))) := by
  have hZ := h.new (o := .lst []) nZ
  obtain ⟨q, as, rfl, n0, qd, el, et⟩ := hZ.2.2.2.2.2.1 k v hv
  refine ⟨q, as, rfl, el, ?_, fun P nP => ⟨kvs, ?_, ?_, ?_, ?_, nv⟩⟩
  · rw [et.1, List.length_map]
  · have hP := hZ.new (o := .tup (stepV p)) nP
    refine (hP.app hv ((upd_ne (ne_of_none el nP)).trans el) (et.mono (Tups.new nP)) upd_same).congr (Nat.le_succ _) (fun x => ⟨.inl, fun z => z.elim id fun z => ?_⟩) fun _ => rfl
    rw [z]
    exact (h.2.2.2.1 k).mpr ⟨_, hv⟩
  · exact same_mine (same_new (same_new s nZ) nP) n0
  · exact ((Tups.new nZ).trans (Tups.new nP)).trans (Tups.ls ((upd_ne (ne_of_none el nP)).trans el))
  · have oq : o ≠ q := fun z => nv k _ hv (by rw [z])
    have eZ : upd H Z (.lst []) o = some (.lst xs) := (upd_ne (ne_of_none eo nZ)).trans eo
    rw [upd_ne oq, upd_ne (ne_of_none eZ nP)]
    exact eZ
theorem DAtK.fresh {H0 H : Hp} {d o : Addr} {xs : List V} {kvs : List (Key × V)} {N : Nat} {ks : Int → Prop} {W : Int → List (Int × Int)} (h : DAtK H0 H d kvs N ks W) (s : Same H0 H) (nd : H0 d = none) (eo : H o = some (.lst xs)) (nv : ∀ k v, valV kvs (Sum.inl k) = some v → v ≠ .ref o) {Z : Addr} (nZ : H Z = none) {k : Int} (hn : valV kvs (Sum.inl k) = none) (p : Int × Int) :
    upd (upd H Z (.lst [])) d (.dK (putK kvs (Sum.inl k) (.ref Z))) Z = some (.lst []) ∧ ∀ P, upd (upd H Z (.lst [])) d (.dK (putK kvs (Sum.inl k) (.ref Z))) P = none → Aft H0 H d o xs N ks W k p (upd (upd (upd (upd H Z (.lst [])) d (.dK (putK kvs (Sum.inl k) (.ref Z)))) P (.tup (stepV p))) Z (.lst ([] ++ [.ref P]))) := by
  have hZ := h.new (o := .lst []) nZ
  have dZ : d ≠ Z := ne_of_none h.1 nZ
  have zf : ∀ k v, valV kvs (Sum.inl k) = some v → v ≠ .ref Z := fun k v e z => by
    obtain ⟨q, as, e1, _, _, e4, _⟩ := h.2.2.2.2.2.1 k v e
    rw [z] at e1
    cases e1
    rw [nZ] at e4
    cases e4
  have nZ0 : H0 Z = none := s.free nZ
  have hp := hZ.put (k := k) upd_same nZ0 zf hn
  have eZ : upd (upd H Z (.lst [])) d (.dK (putK kvs (Sum.inl k) (.ref Z))) Z = some (.lst []) := by
    rw [upd_ne dZ.symm]
    exact upd_same
  have vk : ∀ x : Int, valV (putK kvs (Sum.inl k) (.ref Z)) (Sum.inl x) = if x = k then some (.ref Z) else valV kvs (Sum.inl x) := fun x => by
    rw [valV_put]
    by_cases e : x = k
    · rw [if_pos e, if_pos (by rw [e])]
    · rw [if_neg e, if_neg (fun q => e (Sum.inl.inj q))]
  have wk : W k = [] := h.2.2.2.2.1 k fun z => by
    obtain ⟨v, e⟩ := (h.2.2.2.1 k).mp z
    rw [hn] at e
    cases e
  refine ⟨eZ, fun P nP => ⟨putK kvs (Sum.inl k) (.ref Z), ?_, ?_, ?_, ?_, ?_⟩⟩
  · have hP := hp.new (o := .tup (stepV p)) nP
    exact hP.app (as := []) (k := k) (by rw [vk, if_pos rfl]) ((upd_ne (ne_of_none eZ nP)).trans eZ) (by rw [wk]; exact TupsAt.nil) upd_same
  · exact same_mine (same_new (same_mine (same_new s nZ) nd) nP) nZ0
  · exact (((Tups.new nZ).trans (Tups.dk hZ.1)).trans (Tups.new nP)).trans (Tups.ls ((upd_ne (ne_of_none eZ nP)).trans eZ))
  · have e1 : upd H Z (.lst []) o = some (.lst xs) := (upd_ne (ne_of_none eo nZ)).trans eo
    have od : o ≠ d := fun z => by
      rw [z, h.1] at eo
      cases eo
    have e2 : upd (upd H Z (.lst [])) d (.dK (putK kvs (Sum.inl k) (.ref Z))) o = some (.lst xs) := (upd_ne od).trans e1
    rw [upd_ne (ne_of_none eo nZ), upd_ne (ne_of_none e2 nP)]
    exact e2
  · intro x v e z
    rw [vk] at e
    by_cases n : x = k
    · rw [if_pos n, z] at e
      cases e
      rw [nZ] at eo
      cases eo
    · rw [if_neg n] at e
      exact nv x v e z
/-! ### stretches: places, what is there -/
def Places (Ls : List Lw) (ys : List Int) : Prop := ys.Pairwise (· < ·) ∧ (∀ k, k ∈ ys ↔ Keys Ls k) ∧ ys.length ≤ 1300
def SegAt (H : Hp) (a : Addr) (Ls : List Lw) (s e : Int) : Prop := ∃ n t, H a = some (.tup [.int s, .int e, .ref n, .ref t]) ∧ H n = some (.tup ((numsFrom 0 (Ls.map fun L => thickL L s)).map V.int)) ∧ H t = some (.tup [.int (s0 Ls s), .int (s1 Ls s)])
theorem SegAt.mono {H H' : Hp} {a : Addr} {Ls : List Lw} {s e : Int} (h : SegAt H a Ls s e) (t : Tups H H') : SegAt H' a Ls s e := by
  obtain ⟨n, u, h1, h2, h3⟩ := h
  exact ⟨n, u, t _ _ h1, t _ _ h2, t _ _ h3⟩
def SegsAt (H : Hp) (as : List Addr) (Ls : List Lw) (ps : List (Int × Int)) : Prop := as.length = ps.length ∧ ∀ (i : Nat) (a : Addr), as[i]? = some a → ∃ s e, ps[i]? = some (s, e) ∧ SegAt H a Ls s e
theorem SegsAt.mono {H H' : Hp} {as : List Addr} {Ls : List Lw} {ps : List (Int × Int)} (h : SegsAt H as Ls ps) (t : Tups H H') : SegsAt H' as Ls ps := ⟨h.1, fun i a e => by
  obtain ⟨s, e', h1, h2⟩ := h.2 i a e
  exact ⟨s, e', h1, h2.mono t⟩⟩
theorem SegsAt.nil {H : Hp} {Ls : List Lw} : SegsAt H [] Ls [] := ⟨rfl, fun i a h => by simp at h⟩
theorem SegsAt.snoc {H : Hp} {as : List Addr} {Ls : List Lw} {ps : List (Int × Int)} {a : Addr} {s e : Int} (h : SegsAt H as Ls ps) (g : SegAt H a Ls s e) : SegsAt H (as ++ [a]) Ls (ps ++ [(s, e)]) := by
  refine ⟨by rw [List.length_append, List.length_append, h.1]; rfl, fun i b hb => ?_⟩
  by_cases hi : i < as.length
  · rw [List.getElem?_append_left hi] at hb
    obtain ⟨s', e', h1, h2⟩ := h.2 i b hb
    exact ⟨s', e', by rw [List.getElem?_append_left (by rw [← h.1]; exact hi)]; exact h1, h2⟩
  · rw [List.getElem?_append_right (by omega)] at hb
    have hz : i - as.length = 0 := by
      cases hk : i - as.length with
      | zero => rfl
      | succ n =>
        rw [hk] at hb
        simp at hb
    rw [hz] at hb
    have : a = b := Option.some.inj hb
    subst this
    refine ⟨s, e, ?_, g⟩
    rw [List.getElem?_append_right (by rw [← h.1]; omega), ← h.1, hz]
    rfl
abbrev pairs (ys : List Int) : List (Int × Int) := ys.zip (ys.drop 1)
def spStretches : Sp := fun vs H Q _ => ∃ (a : Addr) (Ls : List Lw), vs = [.ref a] ∧ StrandAt H a Ls ∧ Ls.length ≤ 60 ∧ (∀ L ∈ Ls, GoodL L) ∧
  ∀ (H' : Hp) (o : Addr) (as : List Addr) (ys : List Int), Same H H' → H o = none → H' o = some (.tup (as.map V.ref)) → SegsAt H' as Ls (pairs ys) → Places Ls ys → Q (.ref o) H'
/-- what is written, one behind the other -/
def wrt (xs : List Int) (ws : List (Int × Int)) : List Int := ws.foldl (fun xs p => xs.set p.1.toNat p.2) xs
theorem wrt_snoc (xs : List Int) (ws : List (Int × Int)) (p : Int × Int) : wrt xs (ws ++ [p]) = (wrt xs ws).set p.1.toNat p.2 := by
  unfold wrt
  rw [List.foldl_append]
  rfl
theorem wrt_len (xs : List Int) (ws : List (Int × Int)) : (wrt xs ws).length = xs.length := by
  unfold wrt
  induction ws generalizing xs with
  | nil => rfl
  | cons p r ih =>
    show (List.foldl _ (xs.set p.1.toNat p.2) r).length = _
    rw [ih, List.length_set]
theorem wrt_one (x : Int) (ys pre : List Int) : ∀ (ts : List Int) (x : Int), wrt (pre ++ x :: ys) (ts.map fun t => ((pre.length : Int), t)) = pre ++ lastD ts x :: ys
  | [], x => rfl
  | t :: r, x => by
    show wrt ((pre ++ x :: ys).set ((pre.length : Int)).toNat t) (r.map fun t => ((pre.length : Int), t)) = _
    have e : (pre ++ x :: ys).set ((pre.length : Int)).toNat t = pre ++ t :: ys := by
      rw [Int.toNat_natCast, List.set_append_right _ _ (Nat.le_refl _), Nat.sub_self]
      rfl
    rw [e, wrt_one x ys pre r t]
    congr 2
    unfold lastD
    cases r with
    | nil => rfl
    | cons u s =>
      rw [List.getLast?_cons_cons]
      have hne : (u :: s).getLast? = some ((u :: s).getLast (by simp)) := List.getLast?_eq_some_getLast (by simp)
      rw [hne]
      rfl
theorem wrt_app (xs : List Int) (u v : List (Int × Int)) : wrt xs (u ++ v) = wrt (wrt xs u) v := by
  unfold wrt
  rw [List.foldl_append]
theorem wrt_all (k j : Int) : ∀ (Ls : List Lw) (pre : List Int) (n : Nat), pre.length = n → (∀ L ∈ Ls, thickL L k = lastD (wr k (partsOf L.le L.ps L.pl)) (thickL L j)) → wrt (pre ++ Ls.map fun L => thickL L j) (Wall k n Ls) = pre ++ Ls.map fun L => thickL L k
  | [], pre, n, _, _ => rfl
  | L :: r, pre, n, hn, h => by
    show wrt (pre ++ thickL L j :: r.map fun L => thickL L j) ((wr k (partsOf L.le L.ps L.pl)).map (fun t => ((n : Int), t)) ++ Wall k (n + 1) r) = pre ++ thickL L k :: r.map fun L => thickL L k
    rw [wrt_app, ← hn, wrt_one 0, ← h L (by simp)]
    have ih := wrt_all k j r (pre ++ [thickL L k]) (pre.length + 1) (by rw [List.length_append]; rfl) fun M hM => h M (by simp [hM])
    rw [List.append_assoc, List.append_assoc] at ih
    exact ih
theorem keys_nonneg {Ls : List Lw} (g : ∀ L ∈ Ls, GoodL L) {k : Int} (h : Keys Ls k) : 0 ≤ k := by
  rcases h with h | ⟨L, hL, y, hy, h⟩
  · omega
  · have gL := g L hL
    have hp : ∀ p ∈ L.ps, 1 ≤ p.2 := fun p hp => (gL.1.2.2 p hp).2.2.1
    rw [← parts_eq L.ps L.pl hp] at hy
    have h1 := law_mem L.ps L.pl hp y hy
    have h2 := gL.2.2.2.1
    omega
theorem places_step {Ls : List Lw} (g : ∀ L ∈ Ls, GoodL L) {ys : List Int} (hp : Places Ls ys) {j k : Int} (hjk : j < k) (hn : ∀ y ∈ ys, y ≤ j ∨ k ≤ y) : ∀ L ∈ Ls, thickL L k = lastD (wr k (partsOf L.le L.ps L.pl)) (thickL L j) := fun L hL =>
  thick_step (g L hL) hjk fun y hy => ⟨hn _ ((hp.2.1 _).mpr (.inr ⟨L, hL, y, hy, .inl rfl⟩)), hn _ ((hp.2.1 _).mpr (.inr ⟨L, hL, y, hy, .inr rfl⟩))⟩
theorem thick_ahead {L : Lw} (g : GoodL L) : thickL L (-1) = 0 := by
  unfold thickL
  have := g.2.2.2.1
  rw [if_pos (by omega)]
theorem places_zero {Ls : List Lw} (g : ∀ L ∈ Ls, GoodL L) {ys : List Int} (hp : Places Ls ys) : ∃ r, ys = 0 :: r := by
  cases ys with
  | nil => exact absurd ((hp.2.1 0).mpr (.inl rfl)) (by simp)
  | cons y r =>
    have h1 := keys_nonneg g ((hp.2.1 y).mp (by simp))
    rcases List.mem_cons.mp ((hp.2.1 0).mpr (.inl rfl)) with e | e
    · exact ⟨r, by rw [← e]⟩
    · have h2 := (List.pairwise_cons.mp hp.1).1 0 e
      omega
/-- the place ahead of the i-th -/
def prevOf (ys : List Int) (i : Nat) : Int := if i = 0 then -1 else ys.getD (i - 1) 0
theorem prev_lt {Ls : List Lw} (g : ∀ L ∈ Ls, GoodL L) {ys : List Int} (hp : Places Ls ys) {i : Nat} {k : Int} (hk : ys[i]? = some k) : prevOf ys i < k ∧ ∀ y ∈ ys, y ≤ prevOf ys i ∨ k ≤ y := by
  have hi : i < ys.length := (List.getElem?_eq_some_iff.mp hk).1
  have ek : ys[i] = k := (List.getElem?_eq_some_iff.mp hk).2
  have srt := List.pairwise_iff_getElem.mp hp.1
  unfold prevOf
  by_cases h0 : i = 0
  · subst h0
    rw [if_pos rfl]
    have h1 := keys_nonneg g ((hp.2.1 k).mp (List.mem_of_getElem? hk))
    refine ⟨by omega, fun y hy => ?_⟩
    obtain ⟨m, hm, rfl⟩ := List.getElem_of_mem hy
    by_cases hm0 : m = 0
    · subst hm0
      right
      omega
    · have := srt 0 m hi hm (by omega)
      right
      omega
  · rw [if_neg h0, List.getD_eq_getElem?_getD, List.getElem?_eq_getElem (show i - 1 < ys.length by omega)]
    have h1 := srt (i - 1) i (by omega) hi (by omega)
    refine ⟨by simp only [Option.getD_some]; omega, fun y hy => ?_⟩
    simp only [Option.getD_some]
    obtain ⟨m, hm, rfl⟩ := List.getElem_of_mem hy
    by_cases h2 : m ≤ i - 1
    · left
      by_cases h3 : m = i - 1
      · subst h3
        exact Int.le_refl _
      · have := srt m (i - 1) hm (by omega) (by omega)
        omega
    · right
      by_cases h3 : m = i
      · subst h3
        omega
      · have := srt i m hi hm (by omega)
        omega
theorem prev_succ {ys : List Int} {i : Nat} {k : Int} (hk : ys[i]? = some k) : prevOf ys (i + 1) = k := by
  unfold prevOf
  rw [if_neg (by omega), Nat.add_sub_cancel, List.getD_eq_getElem?_getD, hk]
  rfl
theorem pairs_take {ys : List Int} {i : Nat} {s e : Int} (h1 : ys[i]? = some s) (h2 : (ys.drop 1)[i]? = some e) : (pairs ys).take (i + 1) = (pairs ys).take i ++ [(s, e)] := by
  rw [List.take_add_one]
  have : (pairs ys)[i]? = some (s, e) := by
    rw [List.getElem?_zip_eq_some]
    exact ⟨h1, h2⟩
  rw [this]
  rfl
theorem wall_num (k : Int) : ∀ (Ls : List Lw) (n : Nat) (p : Int × Int), p ∈ Wall k n Ls → ∃ m : Nat, m < n + Ls.length ∧ p.1 = m
  | [], _, p, h => by cases h
  | L :: r, n, p, h => by
    have h : p ∈ (wr k (partsOf L.le L.ps L.pl)).map (fun t => ((n : Int), t)) ++ Wall k (n + 1) r := h
    rcases List.mem_append.mp h with h | h
    · obtain ⟨t, _, rfl⟩ := List.mem_map.mp h
      exact ⟨n, by rw [List.length_cons]; omega, rfl⟩
    · obtain ⟨m, hm, e⟩ := wall_num k r (n + 1) p h
      exact ⟨m, by rw [List.length_cons]; omega, e⟩
theorem ixN_at {n j : Nat} (h : j < n) : ixN n (j : Int) = some j := by
  unfold ixN
  rw [if_pos (Int.natCast_nonneg j), if_pos (Int.ofNat_lt.mpr h), Int.toNat_natCast]
/-! ### a pot of three numbers: the great number at hand, the seed, how many were drawn -/
def PotC (H : Hp) (p : Addr) (T : Nat) : Prop := ∃ (c m : Int) (t : Nat), H p = some (.lst [.int c, .int m, .int (t : Int)]) ∧ 0 ≤ c ∧ 0 ≤ m ∧ m < 2 ^ 62 ∧ t ≤ T
theorem PotC.mono {H : Hp} {p : Addr} {T U : Nat} (h : PotC H p T) (e : T ≤ U) : PotC H p U := by
  obtain ⟨c, m, t, h1, h2, h3, h4, h5⟩ := h
  exact ⟨c, m, t, h1, h2, h3, h4, Nat.le_trans h5 e⟩
theorem PotC.new {H : Hp} {p a : Addr} {T : Nat} {o : HO} (h : PotC H p T) (n : H a = none) : PotC (upd H a o) p T := by
  obtain ⟨c, m, t, h1, h2⟩ := h
  exact ⟨c, m, t, by rw [upd_ne (ne_of_none h1 n)]; exact h1, h2⟩
theorem PotC.other {H : Hp} {p a : Addr} {T : Nat} {o : HO} (h : PotC H p T) (n : a ≠ p) : PotC (upd H a o) p T := by
  obtain ⟨c, m, t, h1, h2⟩ := h
  exact ⟨c, m, t, by rw [upd_ne n.symm]; exact h1, h2⟩
theorem PotC.notP {H : Hp} {p a : Addr} {T : Nat} {xs : List V} (h : PotC H p T) (e : H a = some (.tup xs)) : a ≠ p := by
  obtain ⟨c, m, t, h1, h2⟩ := h
  exact ne_of e h1 (by intro z; cases z)
theorem PotC.fresh {H : Hp} {p a : Addr} {T : Nat} (h : PotC H p T) (e : H a = none) : a ≠ p := by
  obtain ⟨c, m, t, h1, h2⟩ := h
  exact (ne_of_none h1 e).symm
theorem PotC.same {H H' : Hp} {p : Addr} {T : Nat} (h : PotC H p T) (e : Same H H') : PotC H' p T := by
  obtain ⟨c, m, t, h1, h2⟩ := h
  exact ⟨c, m, t, e _ _ h1, h2⟩
theorem Keep.tupsC {p : Addr} {H H' : Hp} {T : Nat} (k : Keep p p H H') (h : PotC H p T) : Tups H H' := fun a xs e => k a _ (h.notP e) (h.notP e) e
theorem Keep.freeC {p a : Addr} {H H' : Hp} {T : Nat} (k : Keep p p H H') (hp : PotC H' p T) (h : H' a = none) : H a = none := by
  have n := hp.fresh h
  cases q : H a with
  | none => rfl
  | some o =>
    rw [k a o n n q] at h
    cases h
theorem Keep.at {p a : Addr} {H H' : Hp} {o : HO} (k : Keep p p H H') (n : a ≠ p) (e : H a = some o) : H' a = some o := k a o n n e
def spBeginC (K : PySem.W.Frag) : Sp := fun vs H Q _ => ∃ (a : Addr) (ns : List Int) (i : Int), vs = [.ref a, .int i] ∧ SqL K H a (ns.map V.int) ∧ ns.length ≤ 63 ∧ 0 ≤ i ∧ i < 1000 ∧
  ∀ H' p, Same H H' → H p = none → PotC H' p 0 → Q (.ref p) H'
def spTakeC : Sp := fun vs H Q _ => ∃ (p : Addr) (T : Nat) (many : Int), vs = [.ref p, .int many] ∧ PotC H p T ∧ T < 2 ^ 40 ∧ CDivW 0 many ∧
  ∀ d H', 0 ≤ d → d < many → PotC H' p (T + 1) → Keep p p H H' → Q (.int d) H'
theorem wdiv {b : Int} (h : 0 < b) (h1 : b < 2 ^ 250) : CDivW 0 b := wide_div (b := 250) h (by
  have : (b.natAbs : Int) = b := by omega
  have h2 : (b.natAbs : Int) < ((2 ^ 250 : Nat) : Int) := by rw [this]; exact h1
  exact Int.ofNat_lt.mp h2) (by decide) (by decide)
theorem wmul {i j : Int} (h0 : 0 ≤ i) (h1 : i < 2 ^ 250) (h2 : 0 ≤ j) (h3 : j < 2 ^ 250) : CMulW i j := by
  refine wide_mul (a := 250) (b := 250) ?_ ?_ (by decide) (by decide) (by decide)
  · have e : (i.natAbs : Int) = i := by omega
    have h : (i.natAbs : Int) < ((2 ^ 250 : Nat) : Int) := by rw [e]; exact h1
    exact Int.ofNat_lt.mp h
  · have e : (j.natAbs : Int) = j := by omega
    have h : (j.natAbs : Int) < ((2 ^ 250 : Nat) : Int) := by rw [e]; exact h3
    exact Int.ofNat_lt.mp h
theorem Keep.from {p : Addr} {H H1 H2 : Hp} (k : Keep p p H1 H2) (s : Same H H1) (np : H p = none) : Same H H2 := fun b o e => k b o (ne_of_none e np) (ne_of_none e np) (s b o e)
theorem pairD {K : PySem.W.Frag} {H : Hp} {a : Addr} {i j : Int} (h : H a = some (.tup [.int i, .int j])) : Dp K H (.ref a) (.tuple [.int i, .int j]) := .tup (SqT.of h) (.cons (.int _) (.cons (.int _) .nil))
/-! ### sum of a tuple, list(range(n)) -/
section
variable {X : Cx}
theorem tup_total {prog : Program} {w : World} {A : Around} {E : Value → Shared → Prop} {s : Shared} {l : Addr} {xs : Array (Int × Tok)} {Q : Value → Shared → Prop} (hh : A.handled = none) (hl : s.heap.IsTuple l (intItems xs))
    (h : ∀ h' tk t', (∀ b o, s.heap.get? b = some o → h'.get? b = some o) → Q (.int (preSum (numAt xs) xs.size) t') { s with heap := h', toks := tk }) : wpAny (model prog w) A (call (.builtin "sum") [.ref l]) Q E s := by
  have lt : l < s.heap.objs.size := by
    obtain ⟨o, e, _⟩ := hl
    exact Heap.lt_size e
  have nn : (s.heap.push { cls := .type "tuple_iterator", data := .fields #[.ref l, .int 0 0] }).objs.size = s.heap.objs.size + 1 := Heap.size_push _ _
  refine call_sum_walkG (wpAny_pyIter_tuple hl ⟨_, _, _, _, _, _, numAt xs, rfl, Walks.tuple (A := A.in1) hh _ l (Nat.ne_of_lt lt) (intItems xs), ⟨⟨_, Heap.get?_push_size _ rfl, rfl, rfl⟩, ?_⟩, fun b hb => ?_, (fun _ _ => intItems_at), fun h' tk t' hk => ?_⟩)
  · obtain ⟨o, e, r⟩ := hl
    exact ⟨o, Heap.get?_push_of_some _ e, r⟩
  · show b < (s.heap.push { cls := .type "tuple_iterator", data := .fields #[.ref l, .int 0 0] }).objs.size
    rw [nn]
    simp only [List.mem_cons, List.not_mem_nil, or_false] at hb
    rcases hb with rfl | rfl
    · exact Nat.lt_succ_self _
    · exact Nat.lt_succ_of_lt lt
  · have z := h h' tk t' fun b o e => hk b o (fun hm => by
      simp only [List.mem_cons, List.not_mem_nil, or_false] at hm
      rw [hm] at e
      exact absurd (Heap.lt_size e) (Nat.lt_irrefl _)) (Heap.get?_push_of_some _ e)
    simpa [intItems] using z
theorem cr_sumT (hc : X.calm = true) : CallR X (.builtin "sum") (fun vs H Q => ∃ (a : Addr) (ns : List Int), vs = [V.ref a] ∧ SqT X.K H a (ns.map V.int) ∧ Q (.int ns.sum) H) := by
  intro pins s σ H vs us Q I r h
  obtain ⟨a, ns, rfl, hs, q⟩ := h
  obtain ⟨its, rv, hl, _⟩ := I.tuple hs
  rw [Vals.ref1 r]
  obtain ⟨xs, e⟩ := rv.ints.allInts.items
  have hn : numsOf (intItems xs).toList = ns := by rw [← e]; exact rv.ints.numsOf
  rw [nums_intItems] at hn
  rw [e] at hl
  refine tup_total (I.ok.hd hc) hl fun h' tk t' hk => ?_
  rw [preSum_eq, List.take_of_length_le (by simp), hn]
  exact ⟨.int _, H, I.kept hk, ⟨_, rfl⟩, q⟩
theorem cr_rangeN : CallR X (.type "range") (fun vs H Q => ∃ j, vs = [V.int j] ∧ ∀ p, H p = none → Q (.ref p) (upd H p (.rng 0 j))) := by
  intro pins s σ H vs us Q I r h
  obtain ⟨j, rfl, q⟩ := h
  obtain ⟨u, rfl, ⟨t, rfl⟩⟩ := vals1 r
  refine call_range_1 ⟨.ref s.heap.objs.size, upd H s.heap.objs.size (.rng 0 j), I.laid (t' := s.toks + 1 + 1) (fun b o e => Heap.get?_push_of_some _ e) (Nat.le_refl _) ?_, rfl, q _ (I.hok.fresh (Nat.le_refl _))⟩
  exact ⟨s.toks, t, s.toks + 1, Heap.get?_push_size _ rfl⟩
def upTo (n : Nat) : List Int := (List.range n).map fun (i : Nat) => (i : Int)
theorem vals_upTo : ∀ (n : Nat) (vs : List Value), vs.length = n → (∀ (j : Nat) (v : Value), vs[j]? = some v → ∃ t, v = .int ((j : Nat) : Int) t) → Vals ((upTo n).map V.int) vs := by
  intro n
  induction n with
  | zero =>
    intro vs hl _
    cases vs with
    | nil => exact .nil
    | cons x r => cases hl
  | succ n ih =>
    intro vs hl hv
    have hne : vs ≠ [] := fun e => by rw [e] at hl; cases hl
    have e := List.dropLast_concat_getLast hne
    have h1 := ih vs.dropLast (by rw [List.length_dropLast, hl]; rfl) (fun j v hj => hv j v (by
      rw [← e]
      rw [List.getElem?_append_left (List.getElem?_eq_some_iff.mp hj).1]
      exact hj))
    obtain ⟨t, et⟩ := hv n (vs.getLast hne) (by
      rw [List.getLast_eq_getElem]
      have : vs.length - 1 = n := by omega
      simp only [this]
      exact List.getElem?_eq_getElem (by omega))
    have e2 : upTo (n + 1) = upTo n ++ [(n : Int)] := by
      unfold upTo
      rw [List.range_succ, List.map_append]
      rfl
    rw [e2, List.map_append, ← e]
    exact Vals.append h1 (.cons ⟨t, et⟩ .nil)
theorem call_listR (hc : X.calm = true) : CallR X (.type "list") (fun vs H Q => ∃ (r : Addr) (n : Nat), vs = [.ref r] ∧ H r = some (.rng 0 (n : Int)) ∧ n ≤ 1000 ∧ ∀ l, H l = none → Q (.ref l) (upd H l (.lst ((upTo n).map V.int)))) := by
  intro pins s σ H xs us Q I r h
  obtain ⟨p, n, rfl, hp, hn, q⟩ := h
  obtain ⟨u, rfl, rx⟩ := vals1 r
  cases rx
  obtain ⟨t1, t2, t3, ho⟩ := I.hok p _ hp
  have hsz : Builtin.Range.rangeSize 0 (n : Int) 1 = (n : Int) := by
    rw [rangeSize_one]
    split <;> omega
  refine call_list_range (n := n) (I.ok.hd hc) ho ?_ hsz (by omega) fun h' tk acc' c' hk hS hacc => ?_
  · exact small_one (by decide) (by decide) (by omega) (by omega)
  · have hv : Vals ((upTo n).map V.int) acc'.toList := vals_upTo n acc'.toList (by rw [Array.length_toList]; exact hacc.1) fun j v hj => by
      obtain ⟨t, e⟩ := hacc.2 j v (by rw [← Array.getElem?_toList]; exact hj)
      exact ⟨t, by rw [e]; simp⟩
    refine ⟨.ref s.heap.objs.size, _, I.laid (t' := tk) hk (Nat.le_refl _) (show ObjOk X.prog X.w _ h' _ (.lst ((upTo n).map V.int)) from ⟨?_, acc'.toList, c', hv, by simpa using hS⟩), rfl, q _ (I.hok.fresh (Nat.le_refl _))⟩
    show ((upTo n).map V.int).length ≤ sizeLine
    unfold upTo
    rw [List.length_map, List.length_map, List.length_range]
    exact Nat.le_trans hn (by decide)
end
theorem dpInts {K : PySem.W.Frag} (H : Hp) : ∀ ns : List Int, DpAll K H (ns.map V.int) (ns.map PyData.int)
  | [] => .nil
  | n :: r => .cons (.int n) (dpInts H r)
theorem shInts (ns : List Int) : SeqAt.shaped (.list (ns.map PyData.int)) = true := by
  have h1 : PyData.canLayAll0 (ns.map PyData.int) = true := by
    induction ns with
    | nil => rfl
    | cons n r ih => exact (Bool.and_eq_true_iff.mpr ⟨rfl, ih⟩)
  have h2 : PyData.depthAll (ns.map PyData.int) = 0 := by
    clear h1
    induction ns with
    | nil => rfl
    | cons n r ih =>
      show max 0 (PyData.depthAll (r.map PyData.int)) = 0
      rw [ih]
      rfl
  refine Bool.and_eq_true_iff.mpr ⟨h1, decide_eq_true ?_⟩
  show PyData.depthAll (ns.map PyData.int) + 1 ≤ 64
  rw [h2]
  decide
/-! ### t += u of tuples; defs with defaults -/
theorem noI_tup : typeLookup (.type "tuple") (dunderI "add") = pure none := by
  rw [typeLookup_type, builtinLookup_eq_fast]
  kernel_rfl
section
variable {X : Cx}
theorem ip_catA : PIp X .Add (rCatA X.K) := by
  intro pins s σ H x y v u Q I rx ry h
  obtain ⟨a, b, xs, ys, rfl, rfl, ha, hb, hz, q0, q1, q2⟩ := h
  cases rx
  cases ry
  obtain ⟨vs, r1, p1, _⟩ := I.tuple ha
  obtain ⟨ws, r2, p2, _⟩ := I.tuple hb
  have hzz : vs.length + ws.length ≤ sizeLine := by rw [← r1.length, ← r2.length]; exact hz
  have e : vs.toArray ++ ws.toArray = (vs ++ ws).toArray := by simp
  obtain ⟨⟨cls, dd, data, sl⟩, ho, hc, n, hd⟩ := id p1
  obtain ⟨⟨cls2, dd2, data2, sl2⟩, ho2, hc2, n2, hd2⟩ := id p2
  simp only at hc hd hc2 hd2
  subst hc hd hc2 hd2
  have go : ∀ {S : PySem.Spec}, Meets (Builtin.«tuple.__add__» ⟨[.ref a, .ref b], []⟩) S → S X.A (wants (EP X pins σ Q) X.xe) s → wpAny (model X.prog X.w) X.A (inplaceOp .Add (.ref a) (.ref b)) (EP X pins σ Q) X.xe s := fun g hS =>
    wpAny_inplaceOp_concat ⟨_, ho, rfl⟩ ⟨_, ho2, rfl⟩ noI_tup noFill_tuple_add seq_tuple_add (call_meets PySem.F.slot_tuple_add ⟨_, ho, rfl⟩ PySem.F.entry_tuple_add (PySem.F.args_tuple_add_2 _ _) g hS)
  by_cases hx : vs = []
  · subst hx
    exact go (tuple_addW0 a b ([] : List Value).toArray ws.toArray n n2 dd dd2 sl sl2 (by simp)) ⟨ho, ho2, .ref b, H, I, rfl, q0 (r1.nil_iff.mp rfl)⟩
  · by_cases hy : ws = []
    · exact go (tuple_addW1 a b vs.toArray ws.toArray n n2 dd dd2 sl sl2 (by simpa using hx) (by simp [hy])) ⟨ho, ho2, .ref a, H, I, rfl, q1 (fun z => hx (r1.nil_iff.mpr z)) (r2.nil_iff.mp hy)⟩
    · refine go (tuple_addW2 a b vs.toArray ws.toArray n n2 dd dd2 sl sl2 (by simpa using hx) (by simpa using hy) (by rw [List.size_toArray, List.size_toArray]; exact hzz)) ⟨ho, ho2, ?_⟩
      rw [e]
      refine ⟨.ref s.heap.objs.size, _, I.laid (t' := s.toks) (o := .tup (xs ++ ys)) (fun b ob q => Heap.get?_push_of_some _ q) (Nat.le_refl _) ⟨by rw [List.length_append]; exact hz, _, r1.append r2, IsTup.new _ _⟩, rfl, q2 (fun z => hx (r1.nil_iff.mpr z)) (fun z => hy (r2.nil_iff.mpr z)) _ (I.hok.fresh (Nat.le_refl _))⟩
end
def BD (K : PySem.W.Frag) (fd : FuncData) (ps : List Str) (dvs : List V) : Prop := ∃ ds, Vals dvs ds ∧ Binds K fd ps ds
theorem okD {P : Program} {w : World} {K : PySem.W.Frag} {mg : Str → Option Value} {base : Heap} {x qual : Str} {params : Arguments} {body : List Stmt} {scope : Scope} {dvs : List V} {kws : List (Str × V)} {f : Addr} {fd : FuncData} {N ps : List Str} {k : Nat} {sp : Sp}
    (F : FunD K x qual params body scope dvs kws f fd) (S : FnScope N ps scope) (ln : ∀ vs H Q E, sp vs H Q E → vs.length = ps.length)
    (hb : ∀ (cdv : Value) (A : Around) (outer : List Env) (s : Shared) (H : Hp) (vs : List V) (Q : VK) (E : XK), Room k (A.deeper (envOfC qual scope s.heap.objs.size f cdv)) → sp vs H Q E →
      ∃ t, PSs (cxOf CX0 P w K mg base N qual scope f cdv A outer s H E).nox body t ∧ t { nx := fun _ H' => Q .non H', rt := Q } (start N vs) H) : FnOk P w K mg base CX0 (k + 1) f fd ps sp :=
  F.ok S ln fun cdv A outer s H vs Q E hr h => by
    obtain ⟨t, h1, h2⟩ := hb cdv A outer s H vs Q E hr h
    exact ⟨t, h1.nox, h2⟩
/-! ### the first place that is thinner than low -/
def IsFirst (Ls : List Lw) (low now m : Int) : Prop := now ≤ m ∧ thickS Ls m < low ∧ ∀ p, now ≤ p → p < m → low ≤ thickS Ls p
theorem first_eq {Ls : List Lw} {low now m n : Int} (h1 : IsFirst Ls low now m) (h2 : IsFirst Ls low now n) : m = n := by
  obtain ⟨a1, a2, a3⟩ := h1
  obtain ⟨b1, b2, b3⟩ := h2
  rcases Int.lt_trichotomy m n with h | h | h
  · have := b3 m a1 h
    omega
  · exact h
  · have := a3 n b1 h
    omega
theorem thick_nonneg : ∀ (ps : List (Int × Int)) (k : Int), (∀ p ∈ ps, 0 ≤ p.1) → 0 ≤ thickAt ps k
  | [], _, _ => Int.le_refl _
  | (t, g) :: r, k, h => by
    show 0 ≤ if k < g then t else thickAt r (k - g)
    split
    · exact h (t, g) (by simp)
    · exact thick_nonneg r _ fun p hp => h p (by simp [hp])
theorem thick_over {L : Lw} (g : GoodL L) {p : Int} (h : lastOf L ≤ p) : thickL L p = 0 := by
  have h1 := thick_runs g p
  have h2 : 0 ≤ thickL L p := by
    unfold thickL
    split
    · exact Int.le_refl _
    · cases L.le with
      | none => exact thick_nonneg _ _ fun q hq => Int.le_trans (by decide) (g.1.2.2 q hq).1
      | some n =>
        show 0 ≤ if n ≤ p then 0 else _
        split
        · exact Int.le_refl _
        · exact thick_nonneg _ _ fun q hq => Int.le_trans (by decide) (g.1.2.2 q hq).1
  have h3 : ¬ 0 < thickL L p := fun z => by
    have := h1.mp z
    omega
  omega
theorem thickS_over {Ls : List Lw} (g : ∀ L ∈ Ls, GoodL L) {p : Int} (h : ∀ L ∈ Ls, lastOf L ≤ p) : thickS Ls p = 0 := by
  unfold thickS
  induction Ls with
  | nil => rfl
  | cons L r ih =>
    rw [List.map_cons, List.sum_cons, thick_over (g L (by simp)) (h L (by simp)), ih (fun M hM => g M (by simp [hM])) (fun M hM => h M (by simp [hM]))]
    rfl
theorem thickS_congr {Ls : List Lw} {p q : Int} (h : ∀ L ∈ Ls, thickL L p = thickL L q) : thickS Ls p = thickS Ls q := by
  unfold thickS
  rw [List.map_congr_left h]
theorem wr_not {k : Int} {qs : List (Int × Int × Int)} (h : ∀ y ∈ qs, y.1 ≠ k ∧ y.2.1 ≠ k) : wr k qs = [] := by
  cases hw : wr k qs with
  | nil => rfl
  | cons t r =>
    obtain ⟨y, hy, e⟩ := wr_ne (k := k) (qs := qs) (by rw [hw]; simp)
    have := h y hy
    rcases e with e | e
    · exact absurd e this.1
    · exact absurd e this.2
/-- where nothing begins or ends behind s, up to p, it is as at s -/
theorem thick_still {L : Lw} (g : GoodL L) {s p : Int} (hsp : s ≤ p) (hn : ∀ y ∈ partsOf L.le L.ps L.pl, (y.1 ≤ s ∨ p < y.1) ∧ (y.2.1 ≤ s ∨ p < y.2.1)) : thickL L p = thickL L s := by
  by_cases e : s = p
  · rw [e]
  · have h1 := thick_step g (j := s) (k := p) (by omega) fun y hy => ⟨(hn y hy).1.imp id Int.le_of_lt, (hn y hy).2.imp id Int.le_of_lt⟩
    rw [h1, wr_not fun y hy => ⟨fun z => by have := (hn y hy).1; omega, fun z => by have := (hn y hy).2; omega⟩]
    rfl
theorem pairs_get {ys : List Int} {i : Nat} {s e : Int} (h : (pairs ys)[i]? = some (s, e)) : ys[i]? = some s ∧ ys[i + 1]? = some e := by
  rw [List.getElem?_zip_eq_some] at h
  refine ⟨h.1, ?_⟩
  have := h.2
  rw [List.getElem?_drop] at this
  rw [Nat.add_comm]
  exact this
theorem places_still {Ls : List Lw} (g : ∀ L ∈ Ls, GoodL L) {ys : List Int} (hp : Places Ls ys) {i : Nat} {s e p : Int} (h : (pairs ys)[i]? = some (s, e)) (h1 : s ≤ p) (h2 : p < e) : thickS Ls p = thickS Ls s := by
  obtain ⟨e1, e2⟩ := pairs_get h
  obtain ⟨i1, g1⟩ := List.getElem?_eq_some_iff.mp e1
  obtain ⟨i2, g2⟩ := List.getElem?_eq_some_iff.mp e2
  have srt := List.pairwise_iff_getElem.mp hp.1
  have ok : ∀ y, Keys Ls y → y ≤ s ∨ p < y := fun y hy => by
    obtain ⟨m, hm, rfl⟩ := List.getElem_of_mem ((hp.2.1 y).mpr hy)
    by_cases hmi : m ≤ i
    · left
      by_cases hm2 : m = i
      · subst hm2
        omega
      · have := srt m i hm i1 (by omega)
        omega
    · right
      by_cases hm2 : m = i + 1
      · subst hm2
        omega
      · have := srt (i + 1) m i2 hm (by omega)
        omega
  exact thickS_congr fun L hL => thick_still (g L hL) h1 fun y hy => ⟨ok _ (.inr ⟨L, hL, y, hy, .inl rfl⟩), ok _ (.inr ⟨L, hL, y, hy, .inr rfl⟩)⟩
theorem end_key {Ls : List Lw} (g : ∀ L ∈ Ls, GoodL L) {m : Int} (h : IsEnd Ls m) : Keys Ls m := by
  cases hL : Ls with
  | nil => exact .inl (h.1 hL)
  | cons M r =>
    obtain ⟨L, hm, e⟩ := h.2.1 (by rw [hL]; simp)
    have gL := g L hm
    have hp : ∀ p ∈ L.ps, 1 ≤ p.2 := fun p hp => (gL.1.2.2 p hp).2.2.1
    obtain ⟨y, hy, ey⟩ := parts_has (le := L.le) L.ps L.pl hp (last_gt gL)
    rw [← hL]
    exact .inr ⟨L, hm, y, hy, .inr (by rw [ey, e]; rfl)⟩
theorem key_le {ys : List Int} (h : ys.Pairwise (· < ·)) {k : Int} (hk : k ∈ ys) {i : Nat} {e : Int} (he : ys[i]? = some e) (hi : i + 1 = ys.length) : k ≤ e := by
  obtain ⟨i1, g1⟩ := List.getElem?_eq_some_iff.mp he
  obtain ⟨m, hm, rfl⟩ := List.getElem_of_mem hk
  by_cases hmi : m = i
  · subst hmi
    omega
  · have := List.pairwise_iff_getElem.mp h m i hm i1 (by omega)
    omega
def spLasts : Sp := fun vs H Q _ => ∃ (a : Addr) (Ls : List Lw) (low now : Int), vs = [.ref a, .int low, .int now] ∧ StrandAt H a Ls ∧ Ls.length ≤ 60 ∧ (∀ L ∈ Ls, GoodL L) ∧ 1 ≤ low ∧ 0 ≤ now ∧ ∀ H' m, Same H H' → IsFirst Ls low now m → Q (.int m) H'
/-! ### rows drawn late -/
abbrev Wi := Int × List (Int × Int)
def RowAt (H : Hp) (as : List Addr) (Ws : List Wi) : Prop := as.length = Ws.length ∧ ∀ (i : Nat) (a : Addr), as[i]? = some a → ∃ W, Ws[i]? = some W ∧ WispAt H a W.1 W.2
theorem RowAt.mono {H H' : Hp} {as : List Addr} {Ws : List Wi} (h : RowAt H as Ws) (t : Tups H H') : RowAt H' as Ws := ⟨h.1, fun i a e => by
  obtain ⟨W, h1, h2⟩ := h.2 i a e
  exact ⟨W, h1, h2.mono t⟩⟩
theorem RowAt.take {H : Hp} {as : List Addr} {Ws : List Wi} (h : RowAt H as Ws) (n : Nat) : RowAt H (as.take n) (Ws.take n) := by
  refine ⟨by rw [List.length_take, List.length_take, h.1], fun i a e => ?_⟩
  rw [List.getElem?_take] at e
  split at e
  · next hi =>
    obtain ⟨W, h1, h2⟩ := h.2 i a e
    exact ⟨W, by rw [List.getElem?_take, if_pos hi]; exact h1, h2⟩
  · cases e
def GoodW (W : Wi) : Prop := Good W.2 ∧ 0 ≤ W.1 ∧ W.1 ≤ 1 ∧ longs W.2 < 2 ^ 110
def laidOf (W : Wi) (m : Int) : Lw := ⟨W.1, W.2, m, none⟩
def laidAll : List Wi → List Int → List Lw
  | W :: r, m :: s => laidOf W m :: laidAll r s
  | _, _ => []
theorem laidAll_len : ∀ (Ws : List Wi) (ms : List Int), Ws.length = ms.length → (laidAll Ws ms).length = Ws.length
  | [], [], _ => rfl
  | W :: r, m :: s, h => congrArg (· + 1) (laidAll_len r s (Nat.succ.inj h))
  | [], _ :: _, h => by cases h
  | _ :: _, [], h => by cases h
theorem laidAll_get : ∀ {Ws : List Wi} {ms : List Int} {i : Nat} {W : Wi} {m : Int}, Ws[i]? = some W → ms[i]? = some m → (laidAll Ws ms)[i]? = some (laidOf W m)
  | W :: r, m :: s, 0, _, _, h1, h2 => by
    cases h1
    cases h2
    rfl
  | W :: r, m :: s, i + 1, _, _, h1, h2 => laidAll_get (Ws := r) (ms := s) (i := i) h1 h2
  | [], _, i, _, _, h1, _ => by simp at h1
  | _ :: _, [], i, _, _, _, h2 => by simp at h2
theorem laidAll_mem : ∀ {Ws : List Wi} {ms : List Int} {L : Lw}, L ∈ laidAll Ws ms → ∃ W ∈ Ws, ∃ m ∈ ms, L = laidOf W m
  | W :: r, m :: s, L, h => by
    rcases List.mem_cons.mp h with rfl | h
    · exact ⟨W, by simp, m, by simp, rfl⟩
    · obtain ⟨V, hV, n, hn, e⟩ := laidAll_mem (Ws := r) (ms := s) h
      exact ⟨V, by simp [hV], n, by simp [hn], e⟩
  | [], _, L, h => by simp [laidAll] at h
  | _ :: _, [], L, h => by simp [laidAll] at h
theorem good_laid {W : Wi} {m : Int} (g : GoodW W) (h0 : 0 ≤ m) (h1 : m < 2 ^ 140) : GoodL (laidOf W m) := ⟨g.1, g.2.1, g.2.2.1, h0, h1, fun n e => by cases e⟩
theorem last_laid (W : Wi) (m : Int) : lastOf (laidOf W m) = m + longs W.2 := rfl
theorem first_le {Ls : List Lw} (g : ∀ L ∈ Ls, GoodL L) {low now m B : Int} (h : IsFirst Ls low now m) (l1 : 1 ≤ low) (hn : now ≤ B) (hB : ∀ L ∈ Ls, lastOf L ≤ B) : m ≤ B := by
  rcases Int.lt_or_le B m with hb | hb
  · have h1 := h.2.2 B hn hb
    rw [thickS_over g hB] at h1
    omega
  · exact hb
/-- each next one at the first place that is too thin without it -/
def LateP (Ls : List Lw) (Ws : List Wi) (low now : Int) (ms : List Int) : Prop := ms.length = Ws.length ∧ ∀ (i : Nat) (m : Int), ms[i]? = some m → IsFirst (Ls ++ laidAll (Ws.take i) (ms.take i)) low now m
theorem late_eq {Ls : List Lw} {Ws : List Wi} {low now : Int} {ms ns : List Int} (h1 : LateP Ls Ws low now ms) (h2 : LateP Ls Ws low now ns) : ms = ns := by
  have key : ∀ i, ms.take i = ns.take i := by
    intro i
    induction i with
    | zero => rfl
    | succ i ih =>
      rw [List.take_add_one, List.take_add_one, ih]
      congr 1
      by_cases hi : i < ms.length
      · have hi2 : i < ns.length := by rw [h2.1, ← h1.1]; exact hi
        have e1 : ms[i]? = some ms[i] := List.getElem?_eq_getElem hi
        have e2 : ns[i]? = some ns[i] := List.getElem?_eq_getElem hi2
        have f1 := h1.2 i _ e1
        have f2 := h2.2 i _ e2
        rw [ih] at f1
        rw [e1, e2, first_eq f1 f2]
      · rw [List.getElem?_eq_none (by omega), List.getElem?_eq_none (by rw [h2.1, ← h1.1]; omega)]
  have := key ms.length
  rw [List.take_length, List.take_of_length_le (by rw [h1.1, h2.1]; exact Nat.le_refl _)] at this
  exact this
def spLaidOut : Sp := fun vs H Q _ => ∃ (a b : Addr) (as : List Addr) (Ws : List Wi) (ms : List Int), vs = [.ref a, .ref b] ∧ H a = some (.tup (as.map V.ref)) ∧ RowAt H as Ws ∧ H b = some (.tup (ms.map V.int)) ∧ Ws.length = ms.length ∧ Ws.length ≤ 60 ∧
  ∀ H' o, Same H H' → H o = none → StrandAt H' o (laidAll Ws ms) → Q (.ref o) H'
def SX (H : Hp) (x : V) (Ls : List Lw) : Prop := (x = .non ∧ Ls = []) ∨ ∃ c, x = .ref c ∧ StrandAt H c Ls
theorem SX.mono {H H' : Hp} {x : V} {Ls : List Lw} (h : SX H x Ls) (t : Tups H H') : SX H' x Ls := by
  rcases h with h | ⟨c, h1, h2⟩
  · exact .inl h
  · exact .inr ⟨c, h1, h2.mono t⟩
def spStrandWith : Sp := fun vs H Q _ => ∃ (a b : Addr) (x : V) (as : List Addr) (Ws : List Wi) (ms : List Int) (Ls : List Lw), vs = [.ref a, .ref b, x] ∧ H a = some (.tup (as.map V.ref)) ∧ RowAt H as Ws ∧ H b = some (.tup (ms.map V.int)) ∧ Ws.length = ms.length ∧ SX H x Ls ∧ Ls.length + Ws.length ≤ 60 ∧
  ∀ H' o, Same H H' → StrandAt H' o (Ls ++ laidAll Ws ms) → Q (.ref o) H'
/-- what a row is drawn from -/
structure From (Ls : List Lw) (Ws : List Wi) (low now : Int) : Prop where
  few : Ls.length + Ws.length ≤ 60
  gl : ∀ L ∈ Ls, GoodL L
  gw : ∀ W ∈ Ws, GoodW W
  l1 : 1 ≤ low
  n0 : 0 ≤ now
  n1 : now ≤ 2 ^ 115
  b : ∀ L ∈ Ls, lastOf L ≤ 2 ^ 115
def spDrawn : Sp := fun vs H Q _ => ∃ (a : Addr) (x : V) (low now : Int) (as : List Addr) (Ws : List Wi) (Ls : List Lw), vs = [.ref a, .int low, x, .int now] ∧ H a = some (.tup (as.map V.ref)) ∧ RowAt H as Ws ∧ SX H x Ls ∧ From Ls Ws low now ∧
  ∀ H' o ms, Same H H' → H' o = some (.tup (ms.map V.int)) → LateP Ls Ws low now ms → (∀ m ∈ ms, 0 ≤ m ∧ m < 2 ^ 125) → Q (.ref o) H'
def spLasting : Sp := fun vs H Q _ => ∃ (a : Addr) (x : V) (low now : Int) (as : List Addr) (Ws : List Wi) (Ls : List Lw), vs = [.ref a, .int low, x, .int now] ∧ H a = some (.tup (as.map V.ref)) ∧ RowAt H as Ws ∧ SX H x Ls ∧ From Ls Ws low now ∧
  ∀ H' ms m, Same H H' → LateP Ls Ws low now ms → IsFirst (Ls ++ laidAll Ws ms) low now m → Q (.int m) H'
/-- the places so far, their bound -/
def SoFar (Ls : List Lw) (Ws : List Wi) (low now : Int) (i : Nat) (ms : List Int) : Prop := ms.length = i ∧ (∀ (j : Nat) (m : Int), ms[j]? = some m → IsFirst (Ls ++ laidAll (Ws.take j) (ms.take j)) low now m) ∧ ∀ m ∈ ms, 0 ≤ m ∧ m ≤ 2 ^ 115 + (i : Int) * 2 ^ 110
theorem so_far_good {Ls : List Lw} {Ws : List Wi} {low now : Int} (F : From Ls Ws low now) {i : Nat} {ms : List Int} (h : SoFar Ls Ws low now i ms) (hi : i ≤ Ws.length) :
    (∀ L ∈ Ls ++ laidAll (Ws.take i) ms, GoodL L) ∧ (Ls ++ laidAll (Ws.take i) ms).length ≤ 60 ∧ ∀ L ∈ Ls ++ laidAll (Ws.take i) ms, lastOf L ≤ 2 ^ 115 + ((i + 1 : Nat) : Int) * 2 ^ 110 := by
  have hi60 : (i : Int) ≤ 60 := by
    have := F.few
    omega
  have e1 : ((i + 1 : Nat) : Int) * 2 ^ 110 = (i : Int) * 2 ^ 110 + 2 ^ 110 := by
    rw [Int.natCast_add, Int.add_mul]
    rfl
  have e2 : (i : Int) * 2 ^ 110 ≤ 60 * 2 ^ 110 := Int.mul_le_mul_of_nonneg_right hi60 (by decide)
  have e3 : 0 ≤ (i : Int) * 2 ^ 110 := Int.mul_nonneg (by omega) (by decide)
  refine ⟨fun L hL => ?_, ?_, fun L hL => ?_⟩
  · rcases List.mem_append.mp hL with hL | hL
    · exact F.gl L hL
    · obtain ⟨W, hW, m, hm, rfl⟩ := laidAll_mem hL
      have := h.2.2 m hm
      exact good_laid (F.gw W (List.mem_of_mem_take hW)) this.1 (by omega)
  · rw [List.length_append, laidAll_len _ _ (by rw [List.length_take, h.1]; omega), List.length_take]
    have := F.few
    omega
  · rcases List.mem_append.mp hL with hL | hL
    · have := F.b L hL
      omega
    · obtain ⟨W, hW, m, hm, rfl⟩ := laidAll_mem hL
      have h1 := h.2.2 m hm
      have h2 := (F.gw W (List.mem_of_mem_take hW)).2.2.2
      rw [last_laid]
      omega
/-! ### what the law draws -/
def spOfB : Sp := fun vs H Q _ => ∃ (p : Addr) (T : Nat) (a : Addr) (xs : List V), vs = [.ref p, .ref a] ∧ PotC H p T ∧ T < 2 ^ 39 ∧ H a = some (.lst xs) ∧ a ≠ p ∧ 1 ≤ xs.length ∧ xs.length ≤ 1000 ∧
  ∀ H' (j : Nat) x, xs[j]? = some x → PotC H' p (T + 1) → Keep p p H H' → Q x H'
def spDWisp : Sp := fun vs H Q _ => ∃ (p : Addr) (T : Nat) (sty : Int), vs = [.ref p, .int sty] ∧ PotC H p T ∧ T < 2 ^ 37 ∧ 0 ≤ sty ∧ sty < 3 ∧
  ∀ H' a W, WispAt H' a W.1 W.2 → GoodW W → H a = none → PotC H' p (T + 100) → Keep p p H H' → Q (.ref a) H'
def spLeast : Sp := fun vs H Q _ => ∃ (p : Addr) (T : Nat) (sty : Int), vs = [.ref p, .int sty] ∧ PotC H p T ∧ T < 2 ^ 37 ∧ ∀ H' n, 1 ≤ n → n < 2 ^ 140 → PotC H' p (T + 2) → Keep p p H H' → Q (.int n) H'
def spStrongB : Sp := fun vs H Q _ => ∃ (a : Addr) (s : Int) (ps : List (Int × Int)) (k : Int), vs = [.ref a, .int k] ∧ WispAt H a s ps ∧ Q (.int (thickAt ps k)) H
def spThere : Sp := fun vs H Q _ => ∃ (a : Addr) (Ls : List Lw) (p : Int), vs = [.ref a, .int p] ∧ StrandAt H a Ls ∧ Q (.int (thickS Ls p)) H
theorem longs_le {ps : List (Int × Int)} {B : Int} (h : ∀ p ∈ ps, p.2 ≤ B) : longs ps ≤ ps.length * B := by
  induction ps with
  | nil => rw [show longs [] = 0 from rfl]; simp
  | cons p r ih =>
    have h1 := h p (by simp)
    have h2 := ih fun x hx => h x (by simp [hx])
    rw [longs_cons, List.length_cons, Int.natCast_add, Int.add_mul]
    simp only [Int.natCast_one, Int.one_mul]
    omega
/-! ### from border to border -/
def LKey (L : Lw) (k : Int) : Prop := k = L.pl ∨ L.le = some k ∨ ∃ j, j < L.ps.length ∧ k = L.pl + longs (L.ps.take (j + 1))
def BKey (Ls : List Lw) (now k : Int) : Prop := k = now ∨ ∃ L ∈ Ls, LKey L k
theorem clip_is (le : Option Int) (e : Int) : clip le e = e ∨ le = some (clip le e) := by
  unfold clip
  cases le with
  | none => exact .inl rfl
  | some n =>
    dsimp only
    split
    · exact .inr rfl
    · exact .inl rfl
theorem part_key {le : Option Int} : ∀ (ps : List (Int × Int)) (st : Int), ∀ y ∈ lawParts le ps st, (y.1 = st ∨ ∃ j, j < ps.length ∧ y.1 = st + longs (ps.take (j + 1))) ∧ (le = some y.2.1 ∨ ∃ j, j < ps.length ∧ y.2.1 = st + longs (ps.take (j + 1)))
  | [], _, y, h => by cases h
  | (t, g) :: r, st, y, h => by
    have h : y ∈ (if st < clip le (st + g) then [(st, clip le (st + g), t)] else []) ++ lawParts le r (st + g) := h
    have l1 : longs (((t, g) :: r).take 1) = g := by
      show longs [(t, g)] = g
      rw [longs_cons]
      show g + 0 = g
      omega
    have sh : ∀ j, st + g + longs (r.take (j + 1)) = st + longs (((t, g) :: r).take (j + 1 + 1)) := fun j => by
      show _ = st + longs ((t, g) :: r.take (j + 1))
      rw [longs_cons]
      show _ = st + (g + _)
      omega
    rcases List.mem_append.mp h with h | h
    · split at h
      · simp only [List.mem_cons, List.not_mem_nil, or_false] at h
        subst h
        refine ⟨.inl rfl, ?_⟩
        rcases clip_is le (st + g) with e | e
        · exact .inr ⟨0, by simp, by show clip le (st + g) = _; rw [e, l1]⟩
        · exact .inl e
      · cases h
    · obtain ⟨h1, h2⟩ := part_key r (st + g) y h
      refine ⟨?_, ?_⟩
      · rcases h1 with e | ⟨j, hj, e⟩
        · exact .inr ⟨0, by simp, by rw [e, l1]⟩
        · exact .inr ⟨j + 1, by rw [List.length_cons]; omega, by rw [e, sh]⟩
      · rcases h2 with e | ⟨j, hj, e⟩
        · exact .inl e
        · exact .inr ⟨j + 1, by rw [List.length_cons]; omega, by rw [e, sh]⟩
theorem part_lkey {L : Lw} (g : GoodL L) {y : Int × Int × Int} (h : y ∈ partsOf L.le L.ps L.pl) : LKey L y.1 ∧ LKey L y.2.1 := by
  rw [← parts_eq L.ps L.pl fun p hp => (g.1.2.2 p hp).2.2.1] at h
  obtain ⟨h1, h2⟩ := part_key L.ps L.pl y h
  refine ⟨?_, ?_⟩
  · rcases h1 with e | e
    · exact .inl e
    · exact .inr (.inr e)
  · rcases h2 with e | e
    · exact .inr (.inl e)
    · exact .inr (.inr e)
theorem near {ns : List Int} {p : Int} (h : ∃ a ∈ ns, a ≤ p) : ∃ b ∈ ns, b ≤ p ∧ ∀ k ∈ ns, k ≤ b ∨ p < k := by
  induction ns with
  | nil =>
    obtain ⟨a, ha, _⟩ := h
    cases ha
  | cons x r ih =>
    by_cases hr : ∃ a ∈ r, a ≤ p
    · obtain ⟨b, hb, h1, h2⟩ := ih hr
      by_cases hx : x ≤ p ∧ b < x
      · refine ⟨x, by simp, hx.1, fun k hk => ?_⟩
        rcases List.mem_cons.mp hk with rfl | hk
        · exact .inl (Int.le_refl _)
        · have := h2 k hk
          omega
      · refine ⟨b, by simp [hb], h1, fun k hk => ?_⟩
        rcases List.mem_cons.mp hk with rfl | hk
        · omega
        · exact h2 k hk
    · obtain ⟨a, ha, h1⟩ := h
      have : a = x := by
        rcases List.mem_cons.mp ha with e | e
        · exact e
        · exact absurd ⟨a, e, h1⟩ hr
      subst this
      refine ⟨a, by simp, h1, fun k hk => ?_⟩
      rcases List.mem_cons.mp hk with rfl | hk
      · exact .inl (Int.le_refl _)
      · right
        rcases Int.lt_or_le p k with z | z
        · exact z
        · exact absurd ⟨k, hk, z⟩ hr
def Borders (Ls : List Lw) (now : Int) (ns : List Int) : Prop := ns.Pairwise (· < ·) ∧ (∀ k, k ∈ ns ↔ BKey Ls now k ∧ now ≤ k) ∧ ns.length ≤ 1000
theorem border_first {Ls : List Lw} (g : ∀ L ∈ Ls, GoodL L) {now low m : Int} {ns : List Int} (hb : Borders Ls now ns) {i : Nat} (hi : ns[i]? = some m) (ht : thickS Ls m < low) (ha : ∀ (j : Nat) (k : Int), j < i → ns[j]? = some k → low ≤ thickS Ls k) : IsFirst Ls low now m := by
  have mem := List.mem_of_getElem? hi
  refine ⟨((hb.2.1 m).mp mem).2, ht, fun p p1 p2 => ?_⟩
  obtain ⟨b, hbm, b1, b2⟩ := near (ns := ns) (p := p) ⟨now, (hb.2.1 now).mpr ⟨.inl rfl, Int.le_refl _⟩, p1⟩
  have bn := ((hb.2.1 b).mp hbm).2
  have still : thickS Ls p = thickS Ls b := thickS_congr fun L hL => thick_still (g L hL) b1 fun y hy => by
    have ok : ∀ k, LKey L k → k ≤ b ∨ p < k := fun k hk => by
      by_cases hn : now ≤ k
      · exact b2 k ((hb.2.1 k).mpr ⟨.inr ⟨L, hL, hk⟩, hn⟩)
      · left
        omega
    obtain ⟨h1, h2⟩ := part_lkey (g L hL) hy
    exact ⟨ok _ h1, ok _ h2⟩
  rw [still]
  obtain ⟨j, hj, ej⟩ := List.getElem_of_mem hbm
  obtain ⟨i1, ei⟩ := List.getElem?_eq_some_iff.mp hi
  refine ha j b ?_ (by rw [← ej]; exact List.getElem?_eq_getElem hj)
  rcases Nat.lt_or_ge j i with z | z
  · exact z
  · by_cases e : j = i
    · subst e
      omega
    · have := List.pairwise_iff_getElem.mp hb.1 i j i1 hj (by omega)
      omega
theorem border_some {Ls : List Lw} (g : ∀ L ∈ Ls, GoodL L) {now low : Int} (l1 : 1 ≤ low) {ns : List Int} (hb : Borders Ls now ns) (ha : ∀ (j : Nat) (k : Int), j < ns.length → ns[j]? = some k → low ≤ thickS Ls k) : False := by
  have hnow := (hb.2.1 now).mpr ⟨.inl rfl, Int.le_refl _⟩
  have hl : 0 < ns.length := List.length_pos_of_mem hnow
  have hz : ns[ns.length - 1]? = some ns[ns.length - 1] := List.getElem?_eq_getElem (by omega)
  have le : ∀ k ∈ ns, k ≤ ns[ns.length - 1] := fun k hk => key_le hb.1 hk hz (by omega)
  have h1 := ha _ _ (by omega) hz
  rw [thickS_over g fun L hL => ?_] at h1
  · omega
  · have gl := g L hL
    have hlen := gl.1.1
    have hk : LKey L (L.pl + longs L.ps) := .inr (.inr ⟨L.ps.length - 1, by omega, by rw [show L.ps.length - 1 + 1 = L.ps.length by omega, List.take_length]⟩)
    have h2 : lastOf L ≤ L.pl + longs L.ps := clip_le
    have h3 : L.pl + longs L.ps ≤ ns[ns.length - 1] := by
      by_cases hn : now ≤ L.pl + longs L.ps
      · exact le _ ((hb.2.1 _).mpr ⟨.inr ⟨L, hL, hk⟩, hn⟩)
      · have := le now hnow
        omega
    omega
def spBorders : Sp := fun vs H Q _ => ∃ (a : Addr) (Ls : List Lw) (now : Int), vs = [.ref a, .int now] ∧ StrandAt H a Ls ∧ Ls.length ≤ 60 ∧ (∀ L ∈ Ls, GoodL L) ∧ ∀ H' o ns, Same H H' → H o = none → H' o = some (.lst (ns.map V.int)) → Borders Ls now ns → Q (.ref o) H'
def spFirstThin : Sp := fun vs H Q _ => ∃ (a : Addr) (Ls : List Lw) (low now : Int), vs = [.ref a, .int low, .int now] ∧ StrandAt H a Ls ∧ Ls.length ≤ 60 ∧ (∀ L ∈ Ls, GoodL L) ∧ 1 ≤ low ∧ ∀ H' m, Same H H' → IsFirst Ls low now m → Q (.int m) H'
theorem laid_ahead {W : Wi} {m p : Int} (h : p < m) : thickL (laidOf W m) p = 0 := by
  unfold thickL
  rw [if_pos (show p < (laidOf W m).pl from h)]
theorem laidAll_snoc : ∀ (Ws : List Wi) (ms : List Int) (W : Wi) (m : Int), Ws.length = ms.length → laidAll (Ws ++ [W]) (ms ++ [m]) = laidAll Ws ms ++ [laidOf W m]
  | [], [], W, m, _ => rfl
  | V :: r, n :: s, W, m, h => congrArg (laidOf V n :: ·) (laidAll_snoc r s W m (Nat.succ.inj h))
  | [], _ :: _, _, _, h => by cases h
  | _ :: _, [], _, _, h => by cases h
theorem thickS_app (As Bs : List Lw) (p : Int) : thickS (As ++ Bs) p = thickS As p + thickS Bs p := by
  unfold thickS
  rw [List.map_append, List.sum_append]
theorem thickS_one (L : Lw) (p : Int) : thickS [L] p = thickL L p := by
  unfold thickS
  simp
def spLate : Sp := fun vs H Q _ => ∃ (a c : Addr) (low now : Int) (as : List Addr) (Ws : List Wi) (Ls : List Lw), vs = [.ref a, .int low, .ref c, .int now] ∧ H a = some (.tup (as.map V.ref)) ∧ RowAt H as Ws ∧ StrandAt H c Ls ∧ From Ls Ws low now ∧
  ∀ H' o t d ms, Same H H' → H' o = some (.tup [.ref t, .ref d]) → H' t = some (.tup (ms.map V.int)) → StrandAt H' d (Ls ++ laidAll Ws ms) → LateP Ls Ws low now ms → (∀ m ∈ ms, 0 ≤ m ∧ m < 2 ^ 125) → Q (.ref o) H'
def DSet (H : Hp) (d : Addr) (n : Nat) (S : Int → Prop) : Prop := ∃ kvs : List (Key × V), H d = some (.dK kvs) ∧ IKN kvs ∧ kvs.length ≤ n ∧ ∀ k, (∃ v, valV kvs (Sum.inl k) = some v) ↔ S k
theorem DSet.put {H : Hp} {d : Addr} {n : Nat} {S S' : Int → Prop} (h : DSet H d n S) (k : Int) (hs : ∀ x, S' x ↔ S x ∨ x = k) : ∃ kvs : List (Key × V), H d = some (.dK kvs) ∧ kvs.length ≤ n ∧ DSet (upd H d (.dK (putK kvs (Sum.inl k) (.bl true)))) d (n + 1) S' := by
  obtain ⟨kvs, h1, h2, h3, h4⟩ := h
  refine ⟨kvs, h1, h3, _, upd_same, h2.put k _, Nat.le_trans (length_putK _ _ _) (Nat.succ_le_succ h3), fun x => ?_⟩
  rw [hs, ← h4, valV_put]
  by_cases e : x = k
  · rw [if_pos (by rw [e])]
    exact ⟨fun _ => .inr e, fun _ => ⟨_, rfl⟩⟩
  · rw [if_neg (fun z => e (Sum.inl.inj z))]
    exact ⟨.inl, fun z => z.resolve_right e⟩
theorem DSet.congr {H : Hp} {d : Addr} {n m : Nat} {S S' : Int → Prop} (h : DSet H d n S) (hn : n ≤ m) (hs : ∀ x, S' x ↔ S x) : DSet H d m S' := by
  obtain ⟨kvs, h1, h2, h3, h4⟩ := h
  exact ⟨kvs, h1, h2, Nat.le_trans h3 hn, fun x => by rw [hs, h4]⟩
/-! ### the law of rows drawn late -/
def spLaidSome : Sp := fun vs H Q _ => ∃ (p : Addr) (T : Nat) (sty : Int) (gr : Bool), vs = [.ref p, .int sty, .bl gr] ∧ PotC H p T ∧ T < 2 ^ 36 ∧ 0 ≤ sty ∧ sty < 3 ∧
  ∀ H' c Ls, StrandAt H' c Ls → Ls.length ≤ 30 → (∀ L ∈ Ls, GoodL L) → (∀ L ∈ Ls, lastOf L ≤ 2 ^ 115) → PotC H' p (T + 4000) → Keep p p H H' → Q (.ref c) H'
/-- a list of the places and the place at last -/
def AnsAt (H : Hp) (o : Addr) (ms : List Int) (m : Int) : Prop := ∃ t, H o = some (.lst [.ref t, .int m]) ∧ H t = some (.tup (ms.map V.int))
def spDue22 : Sp := fun vs H Q _ => ∃ (a c : Addr) (low now : Int) (as : List Addr) (Ws : List Wi) (Ls : List Lw), vs = [.ref a, .int low, .ref c, .int now] ∧ H a = some (.tup (as.map V.ref)) ∧ RowAt H as Ws ∧ StrandAt H c Ls ∧ From Ls Ws low now ∧
  ∀ H' o ms m, Same H H' → H o = none → AnsAt H' o ms m → LateP Ls Ws low now ms → IsFirst (Ls ++ laidAll Ws ms) low now m → Q (.ref o) H'
def WayOk (way : Int) (Ls : List Lw) (now : Int) : Prop := (way = 0 ∧ Ls = [] ∧ now = 0) ∨ (way = 1 ∧ now = 0) ∨ way = 2 ∨ (way = 3 ∧ Ls = [])
def spTold22 : Sp := fun vs H Q _ => ∃ (a c : Addr) (low now way : Int) (as : List Addr) (Ws : List Wi) (Ls : List Lw), vs = [.ref a, .int low, .ref c, .int now, .int way] ∧ H a = some (.tup (as.map V.ref)) ∧ RowAt H as Ws ∧ StrandAt H c Ls ∧ From Ls Ws low now ∧ WayOk way Ls now ∧
  ∀ H' o ms m, Same H H' → AnsAt H' o ms m → LateP Ls Ws low now ms → IsFirst (Ls ++ laidAll Ws ms) low now m → Q (.ref o) H'
def spSame22 : Sp := fun vs H Q _ => ∃ (o o2 : Addr) (ms : List Int) (m : Int), vs = [.ref o, .ref o2] ∧ AnsAt H o ms m ∧ AnsAt H o2 ms m ∧ ms.length ≤ 60 ∧ ∀ H', Same H H' → Q (.bl true) H'
theorem AnsAt.same {H H' : Hp} {o : Addr} {ms : List Int} {m : Int} (h : AnsAt H o ms m) (s : Same H H') : AnsAt H' o ms m := by
  obtain ⟨t, h1, h2⟩ := h
  exact ⟨t, s _ _ h1, s _ _ h2⟩
theorem ints_d1' (ns : List Int) : (PyData.tuple (ns.map PyData.int)).depth ≤ 1 := by
  show PyData.depthAll (ns.map PyData.int) + 1 ≤ 1
  have : PyData.depthAll (ns.map PyData.int) ≤ 0 := depth_all fun x hx => by
    obtain ⟨n, _, rfl⟩ := List.mem_map.mp hx
    exact Nat.le_refl _
  omega
def LotAt (p R : Addr) (low : Int) (H : Hp) (e : Addr) : Prop := ∃ (r c o : Addr) (now way : Int) (as : List Addr) (Ws : List Wi) (Ls : List Lw) (ms : List Int) (m : Int), H e = some (.tup [.ref r, .ref c, .int now, .int way, .ref o]) ∧ H r = some (.tup (as.map V.ref)) ∧ RowAt H as Ws ∧ StrandAt H c Ls ∧ From Ls Ws low now ∧ WayOk way Ls now ∧ AnsAt H o ms m ∧ LateP Ls Ws low now ms ∧ IsFirst (Ls ++ laidAll Ws ms) low now m ∧ o ≠ p ∧ o ≠ R
theorem LotAt.go {p R : Addr} {low : Int} {H H' : Hp} {e : Addr} (h : LotAt p R low H e) (t : Tups H H') (k : ∀ o xs, o ≠ p → o ≠ R → H o = some (.lst xs) → H' o = some (.lst xs)) : LotAt p R low H' e := by
  obtain ⟨r, c, o, now, way, as, Ws, Ls, ms, m, h1, h2, h3, h4, h5, h6, ⟨u, h7, h7'⟩, h8, h9, h10, h11⟩ := h
  exact ⟨r, c, o, now, way, as, Ws, Ls, ms, m, t _ _ h1, t _ _ h2, h3.mono t, h4.mono t, h5, h6, ⟨u, k _ _ h10 h11 h7, t _ _ h7'⟩, h8, h9, h10, h11⟩
theorem LotAt.same {p R : Addr} {low : Int} {H H' : Hp} {e : Addr} (h : LotAt p R low H e) (s : Same H H') : LotAt p R low H' e := h.go (Tups.same s) fun o xs _ _ e => s _ _ e
theorem LotAt.keep {p R : Addr} {low : Int} {H H' : Hp} {e : Addr} {T : Nat} (h : LotAt p R low H e) (k : Keep p p H H') (hp : PotC H p T) : LotAt p R low H' e := h.go (k.tupsC hp) fun o xs n1 _ e => k.at n1 e
theorem LotAt.put {p R : Addr} {low : Int} {H : Hp} {e : Addr} {xs : List V} {v : HO} (h : LotAt p R low H e) (eR : H R = some (.lst xs)) : LotAt p R low (upd H R v) e := h.go (Tups.ls eR) fun o ys _ n2 e => (upd_ne n2).trans e
theorem RowAt.snoc {H : Hp} {as : List Addr} {Ws : List Wi} {a : Addr} {W : Wi} (h : RowAt H as Ws) (w : WispAt H a W.1 W.2) : RowAt H (as ++ [a]) (Ws ++ [W]) := by
  refine ⟨by rw [List.length_append, List.length_append, h.1]; rfl, fun i b hb => ?_⟩
  by_cases hi : i < as.length
  · rw [List.getElem?_append_left hi] at hb
    obtain ⟨V, h1, h2⟩ := h.2 i b hb
    exact ⟨V, by rw [List.getElem?_append_left (by rw [← h.1]; exact hi)]; exact h1, h2⟩
  · rw [List.getElem?_append_right (by omega)] at hb
    have hz : i - as.length = 0 := by
      cases hk : i - as.length with
      | zero => rfl
      | succ n =>
        rw [hk] at hb
        simp at hb
    rw [hz] at hb
    have : a = b := Option.some.inj hb
    subst this
    exact ⟨W, by rw [List.getElem?_append_right (by rw [← h.1]; omega), ← h.1, hz]; rfl, w⟩
theorem RowAt.nil {H : Hp} : RowAt H [] [] := ⟨rfl, fun i a e => by simp at e⟩
theorem From.empty {Ls : List Lw} {Ws : List Wi} {low now : Int} (h : From Ls Ws low now) : From [] Ws low now := ⟨by have := h.few; show 0 + Ws.length ≤ 60; omega, (fun L hL => by cases hL), h.gw, h.l1, h.n0, h.n1, fun L hL => by cases hL⟩
theorem From.zero {Ls : List Lw} {Ws : List Wi} {low now : Int} (h : From Ls Ws low now) : From Ls Ws low 0 := ⟨h.few, h.gl, h.gw, h.l1, Int.le_refl _, by decide, h.b⟩
def GoneAt (Ws : List Wi) (low : Int) (H : Hp) (t : Addr) : Prop := ∃ (way begun : Int) (c : Addr) (Ls : List Lw), H t = some (.tup [.int way, .ref c, .int begun]) ∧ StrandAt H c Ls ∧ WayOk way Ls begun ∧ From Ls Ws low begun
theorem GoneAt.mono {Ws : List Wi} {low : Int} {H H' : Hp} {t : Addr} (h : GoneAt Ws low H t) (u : Tups H H') : GoneAt Ws low H' t := by
  obtain ⟨way, begun, c, Ls, h1, h2, h3⟩ := h
  exact ⟨way, begun, c, Ls, u _ _ h1, h2.mono u, h3⟩
/-! ### sorted(set(xs)), xs a list of whole numbers -/
abbrev noneYet (w : World) : Obj := { cls := .type "set", dict := none, data := .set #[] 0 (.fresh 0 0 (!w.params.followText "set-order")) }
section
variable {P : Program} {w : World} {A : Around} {E : Value → Shared → Prop} {s : Shared}
set_option maxRecDepth 100000 in
set_option maxHeartbeats 3200000 in
theorem setOfList {x : Addr} {vals : Array Value} (ks : List Int) {Q : Value → Shared → Prop} (nh : A.handled = none) (hx : s.heap.IsList x vals) (hv : IntsAre vals.toList ks) (few : ks.length + 1 < scanBound)
    (fin : ∀ (g : Heap) (tk c : Nat), SetR w g s.heap.objs.size (fun j => decide (j ∈ ks)) c → c ≤ ks.length → (∀ b o, s.heap.get? b = some o → g.get? b = some o) → Q (.ref s.heap.objs.size) { s with heap := g, toks := tk }) :
    wpAny (model P w) A (call (.type "set") [.ref x]) Q E s := by
  have vsz : vals.size = ks.length := (Array.length_toList (xs := vals)).symm.trans (IntsAre.length hv)
  obtain ⟨mc, mt, mro⟩ := F.called_set.mro
  have md := F.called_set.made
  have sb := F.called_set.sub
  refine wpAny_call (codeAny_of_tree ?_)
  show wpAny _ _ (callAny (.type "set") _) _ _ _
  refine wpAny_pure ⟨Code.quiet_builtin _ (by decide +kernel), codeAny_builtin F.entry_type_call ?_⟩
  rw [Around.under_plain (weight_type_call_type "set" [.ref x] []) rfl]
  have f1 := F.called_set.notType
  have f2 := F.called_set.canCreate
  have f3 := F.typeCall_set_1 (.ref x)
  repeat (any_goals (first | assumption | wp_step))
  refine codeAny_mono (code_set_led1 (.ref x) (E := E) (Q₁ := fun ob t => ob = .ref s.heap.objs.size ∧ t = { s with heap := s.heap.push (noneYet w) }) ⟨rfl, rfl⟩) fun r t hr => ?_
  rcases r with e | fl
  · exact hr
  cases fl with
  | ret ob =>
    obtain ⟨rfl, rfl⟩ := hr
    have g0 : (s.heap.push (noneYet w)).get? s.heap.objs.size = some (noneYet w) := Heap.get?_push_size _ rfl
    have ty : Shared.TypeIs { s with heap := s.heap.push (noneYet w) } (.ref s.heap.objs.size) "set" := ⟨_, g0, rfl⟩
    have i1 := F.called_set.init.lookup
    have i2 := F.called_set.init.bind (.ref s.heap.objs.size)
    repeat (any_goals (first | assumption | wp_step))
    refine codeAny_mono (codeAny_call_builtin (R := wants (fun r t => r = .none ∧ ∃ g tk c, t = { s with heap := g, toks := tk } ∧ SetR w g s.heap.objs.size (fun j => decide (j ∈ ks)) c ∧ c ≤ ks.length ∧
        (∀ b o, s.heap.get? b = some o → g.get? b = some o)) E) F.called_set.init.plain F.entry_set_init (check_set_init_1 ty ?_)) fun r2 t2 hr2 => ?_
    · obtain ⟨ob, gx, cx, nx, dx⟩ := hx
      obtain ⟨bc, bd, bt, bs⟩ := ob
      simp only at cx dx
      subst cx; subst dx
      have gx' : (s.heap.push (noneYet w)).get? x = some { cls := .type "list", dict := bd, data := .seq vals nx, slots := bs } := Heap.get?_push_of_some _ gx
      have n1 := F.sub_list_set
      have n2 := F.sub_list_frozenset
      have n3 : (Value.type "list" == Value.type "dict") = false := by decide
      have hx1 : (s.heap.push (noneYet w)).IsList x vals := ⟨_, gx', rfl, nx, rfl⟩
      unfold Builtin.«set.__init__» noKeywords Builtin.Frozenset.updateFrom
      generalize hq : pyIter = PI
      wp_walk
      subst hq
      refine wpAny_pyIter_list hx1 (wpAny_bind (wpAny_runValue ?_))
      have lx : x < s.heap.objs.size := Heap.lt_size gx
      have nh3 : A.in1.in1.in1.handled = none := by simp [nh]
      have sz : (s.heap.push (noneYet w)).objs.size = s.heap.objs.size + 1 := Heap.size_push ..
      have ne1 : x ≠ (s.heap.push (noneYet w)).objs.size := by
        rw [sz]
        exact Nat.ne_of_lt (Nat.lt_succ_of_lt lx)
      have out : s.heap.objs.size ∉ [(s.heap.push (noneYet w)).objs.size, x] := by
        rw [sz]
        intro z
        rcases List.mem_cons.mp z with z | z
        · exact absurd z (Nat.ne_of_lt (Nat.lt_succ_self _))
        · exact absurd (List.mem_singleton.mp z) (Nat.ne_of_gt lx)
      have at' : ∀ (i : Nat) (v : Value), vals[i]? = some v → ∃ k t, ks[i]? = some k ∧ v = .int k t := fun i v h => by
        have li : i < ks.length := vsz ▸ (Array.getElem?_eq_some_iff.mp h).1
        obtain ⟨t, e⟩ := IntsAre.int_at hv i v (by rw [Array.getElem?_toList]; exact h)
        exact ⟨ks[i], t, List.getElem?_eq_getElem li, by rw [e, List.getD_eq_getElem?_getD, List.getElem?_eq_getElem li] <;> rfl⟩
      refine set_update_ints ((Walks.list nh3 _ x ne1 vals).toS) s.heap.objs.size out ks vsz few at' (vals.size - 0) 0 _ (by omega) (Nat.zero_le _)
        ⟨⟨_, Heap.get?_push_size _ rfl, rfl, rfl⟩, (hx1.push _)⟩ ⟨0, Nat.le_refl 0, setR_new_at (Heap.get?_push_of_some _ g0)⟩ fun t' c' mv lc r' => ?_
      obtain ⟨g, gs, dr, tk, os⟩ := t'
      have e1 : gs = s.gens := mv.gens
      have e2 : dr = s.drawn := mv.drawn
      have e3 : os = s.os := mv.os
      subst e1; subst e2; subst e3
      show wpAny _ _ _ _ _ _
      refine wpAny_pure ?_
      show wpAny _ _ (ret Value.none) _ _ _
      refine wpAny_pure ⟨rfl, g, tk, c', rfl, r', vsz ▸ lc, fun b o e => ?_⟩
      have lb : b < s.heap.objs.size := Heap.lt_size e
      refine mv.heap b o (fun z => ?_) (Heap.get?_push_of_some _ (Heap.get?_push_of_some _ e))
      rcases List.mem_cons.mp z with z | z
      · exact absurd z (Nat.ne_of_lt lb)
      · have z := List.mem_singleton.mp z
        rw [sz] at z
        exact absurd z (Nat.ne_of_lt (Nat.lt_succ_of_lt lb))
    · rcases r2 with e | fl2
      · exact hr2
      cases fl2 with
      | ret r =>
        obtain ⟨rfl, g, tk, c', rfl, r', lc, kp⟩ := hr2
        repeat (any_goals (first | assumption | wp_step))
        exact fin _ _ _ r' lc kp
      | _ => exact hr2.elim
  | _ => exact hr.elim
theorem setInOrder {a : Addr} {S : Int → Bool} {n : Nat} {Q : Value → Shared → Prop} (R : SetR w s.heap a S n) (nh : A.handled = none) (few : n ≤ sizeLine)
    (fin : ∀ t p (out : Array Value) (c : Nat) (ks : List Int), (∀ b o, s.heap.get? b = some o → t.heap.get? b = some o) → t.gens = s.gens → t.os = s.os → s.heap.objs.size ≤ p →
      t.heap.get? p = some (seqObj "list" out c) → IntsAre out.toList ks → ks.Pairwise (· < ·) → (∀ k, k ∈ ks ↔ S k = true) → ks.length = n → Q (.ref p) t) :
    wpAny (model P w) A (call (.builtin "sorted") [.ref a]) Q E s := by
  obtain ⟨o, es, ep, tb, ho, ex, da, gd, nd, mm, bo, ft, en, ri, ld⟩ := R
  refine Calls.call_function_entry kind_sorted plain_sorted entry_sorted (args_sorted1 _) ?_
  unfold Builtin.«sorted»
  refine wpAny_bind (m := checkCount "sorted" 1 1 _) (wpAny_pure ?_)
  refine wpAny_bind (collect_set (A := A.in1) nh ⟨o, ho, ex.1, da⟩ ft bo ri ld fun s1 vs k1 z1 g1 o1 pm => ?_)
  have lv : vs.length = n := by
    rw [pm.length_eq, List.length_map, Array.length_toList]
    exact en
  have iv : IntsAre vs (vs.map Builtin.Re.reRawOf) := ints_of vs fun v hv => by
    obtain ⟨e, he, rfl⟩ := List.mem_map.mp (pm.mem_iff.mp hv)
    obtain ⟨k, tk, q, _⟩ := gd e he
    exact ⟨k, tk, q⟩
  have pk : (vs.map Builtin.Re.reRawOf).Perm (es.toList.map keyOf) := (List.map_map (l := es.toList) ▸ pm.map Builtin.Re.reRawOf :)
  refine wpAny_bind (wpAny_newList ?_ (by rw [lv]; exact few))
  have at1 : (s1.heap.push (seqObj "list" vs.toArray 0)).get? s1.heap.objs.size = some (seqObj "list" vs.toArray 0) := Heap.get?_push_size _ rfl
  refine wpAny_bind (wpAny_holding (wpAny_call_entry slot_list_sort ⟨_, at1, rfl⟩ entry_list_sort (list_sort_treeAny at1 iv (by rw [lv]; exact few) fun out ks a1 a2 a3 => ⟨_, rfl, ?_⟩) (args_list_sort _)))
  obtain ⟨c, hc⟩ := sortedHeap_at (vs := vs) (out := out) at1
  have pn := a2.trans pk
  refine wpAny_pure ⟨_, rfl, fin _ s1.heap.objs.size out c ks (fun b u e => ?_) g1 o1 z1 hc a1 (lt_of_le_nodup ks a3 (pn.nodup_iff.mpr nd)) (fun k => by rw [pn.mem_iff, ← mm k]) (by rw [pn.length_eq, List.length_map, Array.length_toList]; exact en)⟩
  have q := k1 b u e
  have lb := Heap.lt_size q
  show (sortedHeap (s1.heap.push (seqObj "list" vs.toArray 0)) s1.heap.objs.size vs out).get? b = some u
  rw [sortedHeap_old (Nat.ne_of_lt lb) (by rw [size_push']; exact Nat.lt_succ_of_lt lb)]
  exact Heap.get?_push_of_some _ q
end
section
variable {X : Cx}
def tInOrder (K : PySem.W.Frag) (ta : TE) : TE := fun σ H Q => ta σ H fun x H1 => ∃ (l : Addr) (ns : List Int), x = V.ref l ∧ SqL K H1 l (ns.map V.int) ∧ ns.length < 4000 ∧
  ∀ (ks : List Int) (p : Addr), ks.Pairwise (· < ·) → (∀ k, k ∈ ks ↔ k ∈ ns) → ks.length ≤ ns.length → H1 p = none → Q (.ref p) (upd H1 p (.lst (ks.map V.int)))
theorem pe_inOrder {a : Expr} {ta : TE} {p p2 q pos : Pos} (hc : X.calm = true) (g1 : Gl X "sorted") (m1 : X.mg "sorted" = none) (g2 : Gl X "set") (m2 : X.mg "set" = none) (ha : PE X a ta)
    (na : starEach [a] X.env = (false, eval a X.env) :: starEach [] X.env := by rfl) : PE X (.Call (.Name "sorted" p) [.Call (.Name "set" p2) [a] [] q] [] pos) (tInOrder X.K ta) := by
  refine ⟨fun pins s σ H Q I h => ?_⟩
  refine Call_ (ld_blt I g1 m1 boot_sorted ?_)
  refine callWith_builtin1 (args_cons ?_ rfl) rfl rfl
  refine Call_ (ld_blt I g2 m2 PyProof.Rows.boot_set ?_)
  refine callWith_type1 (args_cons (thn (ha.run pins s σ H _ I h) fun v s1 ⟨x, H1, I1, r1, q1⟩ => args_nil ?_) na) na rfl
  obtain ⟨l, ns, rfl, hq, few, q1⟩ := q1
  cases r1
  obtain ⟨its, r, pl, hz⟩ := I1.list hq
  refine setOfList ns (I1.ok.hd hc) pl.isList (by simpa using r.ints) (by unfold scanBound; omega) fun g tk c R lc kp => args_nil ?_
  have I2 : Inv X pins σ H1 { s1 with heap := g, toks := tk } := I1.kept kp
  refine setInOrder R (I1.ok.hd hc) (by rw [sizeLine_eq]; omega) fun t p2 out c2 ks k eg eo lp hp ik pw mm lk => ?_
  have fr : H1 p2 = none := I2.hok.fresh lp
  have hl : (ks.map V.int).length ≤ sizeLine := by
    rw [List.length_map, sizeLine_eq]
    omega
  have J : Inv X pins σ (upd H1 p2 (.lst (ks.map V.int))) { ({ s1 with heap := g, toks := tk } : Shared) with heap := t.heap, gens := t.gens, drawn := t.drawn, toks := t.toks } :=
    I2.call (ch := []) (Un.laid k lp fr) (I2.hok.laid k lp ⟨hl, out.toList, c2, vals_of_ints ik, hp⟩) (by rw [eg]; exact I2.bare) (fun _ z => nomatch z)
  have e : t = { s1 with heap := t.heap, gens := t.gens, drawn := t.drawn, toks := t.toks } := by
    cases t
    cases s1
    cases eo
    rfl
  rw [e]
  exact ⟨.ref p2, _, J, rfl, q1 ks p2 pw (fun k => by rw [mm k]; exact decide_eq_true_iff) (by rw [lk]; exact lc) fr⟩
end
/-! ### a pot: the great numbers at hand, the seed, how many were drawn -/
def PotD (H : Hp) (p l : Addr) (T : Nat) : Prop := ∃ (ns : List Int) (m : Int) (t : Nat), H p = some (.lst [.ref l, .int m, .int (t : Int)]) ∧ H l = some (.lst (ns.map V.int)) ∧ (∀ n ∈ ns, 0 ≤ n) ∧ 0 ≤ m ∧ m < 2 ^ 62 ∧ t ≤ T ∧ ns.length ≤ 63
theorem PotD.ne {H : Hp} {p l : Addr} {T : Nat} (h : PotD H p l T) : p ≠ l := by
  obtain ⟨ns, m, t, h1, h2, _⟩ := h
  intro e
  rw [e, h2] at h1
  cases ns with
  | nil => exact absurd h1 (by intro z; cases z)
  | cons n r => exact absurd h1 (by intro z; cases z)
theorem PotD.mono {H : Hp} {p l : Addr} {T U : Nat} (h : PotD H p l T) (e : T ≤ U) : PotD H p l U := by
  obtain ⟨ns, m, t, h1, h2, h3, h4, h5, h6, h7⟩ := h
  exact ⟨ns, m, t, h1, h2, h3, h4, h5, Nat.le_trans h6 e, h7⟩
theorem PotD.new {H : Hp} {p l a : Addr} {T : Nat} {o : HO} (h : PotD H p l T) (n : H a = none) : PotD (upd H a o) p l T := by
  obtain ⟨ns, m, t, h1, h2, h3⟩ := h
  exact ⟨ns, m, t, by rw [upd_ne (ne_of_none h1 n)]; exact h1, by rw [upd_ne (ne_of_none h2 n)]; exact h2, h3⟩
theorem PotD.other {H : Hp} {p l a : Addr} {T : Nat} {o : HO} (h : PotD H p l T) (n1 : a ≠ p) (n2 : a ≠ l) : PotD (upd H a o) p l T := by
  obtain ⟨ns, m, t, h1, h2, h3⟩ := h
  exact ⟨ns, m, t, by rw [upd_ne n1.symm]; exact h1, by rw [upd_ne n2.symm]; exact h2, h3⟩
theorem PotD.same {H H' : Hp} {p l : Addr} {T : Nat} (h : PotD H p l T) (e : Same H H') : PotD H' p l T := by
  obtain ⟨ns, m, t, h1, h2, h3⟩ := h
  exact ⟨ns, m, t, e _ _ h1, e _ _ h2, h3⟩
theorem PotD.notP {H : Hp} {p l a : Addr} {T : Nat} {xs : List V} (h : PotD H p l T) (e : H a = some (.tup xs)) : a ≠ p ∧ a ≠ l := by
  obtain ⟨ns, m, t, h1, h2, h3⟩ := h
  exact ⟨ne_of e h1 (by intro z; cases z), ne_of e h2 (by intro z; cases z)⟩
theorem PotD.fresh {H : Hp} {p l a : Addr} {T : Nat} (h : PotD H p l T) (e : H a = none) : a ≠ p ∧ a ≠ l := by
  obtain ⟨ns, m, t, h1, h2, h3⟩ := h
  exact ⟨(ne_of_none h1 e).symm, (ne_of_none h2 e).symm⟩
theorem Keep.tupsD {p l : Addr} {H H' : Hp} {T : Nat} (k : Keep p l H H') (h : PotD H p l T) : Tups H H' := fun a xs e => k a _ (h.notP e).1 (h.notP e).2 e
theorem Keep.freeD {p l a : Addr} {H H' : Hp} {T : Nat} (k : Keep p l H H') (hp : PotD H' p l T) (h : H' a = none) : H a = none := by
  obtain ⟨n1, n2⟩ := hp.fresh h
  cases q : H a with
  | none => rfl
  | some o =>
    rw [k a o n1 n2 q] at h
    cases h
theorem Keep.atD {p l a : Addr} {H H' : Hp} {o : HO} (k : Keep p l H H') (n : a ≠ p ∧ a ≠ l) (e : H a = some o) : H' a = some o := k a o n.1 n.2 e
theorem Keep.sameD {p l : Addr} {H H1 H2 : Hp} (k : Keep p l H H1) (s : Same H1 H2) : Keep p l H H2 := fun a o n1 n2 e => s a o (k a o n1 n2 e)
def spBeginD (K : PySem.W.Frag) : Sp := fun vs H Q _ => ∃ (a : Addr) (ns : List Int), vs = [.ref a] ∧ SqL K H a (ns.map V.int) ∧ ns.length ≤ 63 ∧
  ∀ H' p l, Same H H' → H p = none → H l = none → PotD H' p l 0 → Q (.ref p) H'
def spTakeD : Sp := fun vs H Q _ => ∃ (p l : Addr) (T : Nat) (many : Int), vs = [.ref p, .int many] ∧ PotD H p l T ∧ T < 2 ^ 40 ∧ CDivW 0 many ∧
  ∀ d H', 0 ≤ d → d < many → PotD H' p l (T + 1) → Keep p l H H' → Q (.int d) H'
def spOfD : Sp := fun vs H Q _ => ∃ (p l : Addr) (T : Nat) (a : Addr) (xs : List V), vs = [.ref p, .ref a] ∧ PotD H p l T ∧ T < 2 ^ 39 ∧ H a = some (.lst xs) ∧ a ≠ p ∧ a ≠ l ∧ 1 ≤ xs.length ∧ xs.length ≤ 1000 ∧
  ∀ H' (j : Nat) x, xs[j]? = some x → PotD H' p l (T + 1) → Keep p l H H' → Q x H'
/-- the wisps drawn here -/
def GoodP (ps : List (Int × Int)) : Prop := 1 ≤ ps.length ∧ ps.length ≤ 8 ∧ ∀ p ∈ ps, 1 ≤ p.1 ∧ p.1 < 2 ^ 130 ∧ 1 ≤ p.2 ∧ p.2 < 2 ^ 126
theorem GoodP.good {ps : List (Int × Int)} (h : GoodP ps) : Good ps := ⟨h.1, Nat.le_trans h.2.1 (by decide), fun p hp => by
  obtain ⟨h1, h2, h3, h4⟩ := h.2.2 p hp
  exact ⟨h1, by omega, h3, by omega⟩⟩
def spOneWisp : Sp := fun vs H Q _ => ∃ (p l : Addr) (T : Nat) (unit span most : Int), vs = [.ref p, .int unit, .int span, .int most] ∧ PotD H p l T ∧ T < 2 ^ 38 ∧ 1 ≤ unit ∧ unit ≤ 10 ^ 37 + 7 ∧ 1 ≤ span ∧ span ≤ 10 ^ 37 + 1 ∧ 1 ≤ most ∧ most ≤ 8 ∧
  ∀ H' a s ps, PotD H' p l (T + 50) → Keep p l H H' → WispAt H' a s ps → 0 ≤ s → s ≤ 1 → GoodP ps → Falls ps → H a = none → Q (.ref a) H'
def GoodD (B : Int) (L : Lw) : Prop := GoodP L.ps ∧ 0 ≤ L.so ∧ L.so ≤ 1 ∧ 0 ≤ L.pl ∧ L.pl < 2 ^ 127 ∧ Falls L.ps ∧ ∀ n, L.le = some n → L.pl < n ∧ n < B
theorem GoodD.good {B : Int} {L : Lw} (h : GoodD B L) (hB : B ≤ 2 ^ 140) : GoodL L := ⟨h.1.good, h.2.1, h.2.2.1, h.2.2.2.1, by have := h.2.2.2.2.1; omega, fun n e => by
  obtain ⟨h1, h2⟩ := h.2.2.2.2.2.2 n e
  exact ⟨h1, by omega⟩⟩
def spLaidOnes : Sp := fun vs H Q _ => ∃ (p l : Addr) (T : Nat) (many most : Int), vs = [.ref p, .int many, .int most] ∧ PotD H p l T ∧ T < 2 ^ 37 ∧ 0 ≤ many ∧ many ≤ 60 ∧ 1 ≤ most ∧ most ≤ 8 ∧
  ∀ H' a Ls, PotD H' p l (T + 4000) → Keep p l H H' → StrandAt H' a Ls → (Ls.length : Int) = many → (∀ L ∈ Ls, GoodD (2 ^ 131) L) → H a = none → Q (.ref a) H'
def Edges (Ls : List Lw) (ns : List Int) : Prop := ns.Pairwise (· < ·) ∧ (∀ k, k ∈ ns ↔ BKey Ls 0 k) ∧ ns.length ≤ 900
def spEdges : Sp := fun vs H Q _ => ∃ (a : Addr) (Ls : List Lw), vs = [.ref a] ∧ StrandAt H a Ls ∧ Ls.length ≤ 60 ∧ (∀ L ∈ Ls, L.ps.length ≤ 10) ∧
  ∀ H' o ns, Same H H' → H o = none → H' o = some (.lst (ns.map V.int)) → Edges Ls ns → Q (.ref o) H'
def spPlace : Sp := fun vs H Q _ => ∃ (p l : Addr) (T : Nat) (a : Addr) (Ls : List Lw) (B : Int), vs = [.ref p, .ref a] ∧ PotD H p l T ∧ T < 2 ^ 38 ∧ StrandAt H a Ls ∧ Ls.length ≤ 60 ∧ 2 ^ 131 ≤ B ∧ (∀ L ∈ Ls, GoodD B L) ∧
  ∀ H' m, 0 ≤ m → m < B + 2 → PotD H' p l (T + 2) → Keep p l H H' → Q (.int m) H'
theorem longsP_le : ∀ ps : List (Int × Int), (∀ p ∈ ps, 1 ≤ p.2 ∧ p.2 < 2 ^ 126) → 0 ≤ longs ps ∧ longs ps ≤ 2 ^ 126 * ps.length
  | [], _ => ⟨Int.le_refl _, by simp [longs]⟩
  | (t, g) :: r, h => by
    have h1 := h (t, g) (by simp)
    have h2 := longsP_le r fun x hx => h x (by simp [hx])
    rw [longs_cons, List.length_cons]
    have e : ((r.length + 1 : Nat) : Int) = (r.length : Int) + 1 := by omega
    rw [e, Int.mul_add]
    have hg : 1 ≤ g ∧ g < 2 ^ 126 := h1
    omega
theorem keyD_le {B : Int} {Ls : List Lw} (hB : 2 ^ 131 ≤ B) (h : ∀ L ∈ Ls, GoodD B L) {k : Int} (hk : BKey Ls 0 k) : 0 ≤ k ∧ k < B := by
  rcases hk with rfl | ⟨L, hL, hk⟩
  · exact ⟨by decide, by omega⟩
  · have g := h L hL
    have g4 := g.2.2.2.1
    have g5 := g.2.2.2.2.1
    rcases hk with rfl | hk | ⟨j, hj, rfl⟩
    · exact ⟨g4, by omega⟩
    · have := g.2.2.2.2.2.2 k hk
      exact ⟨by omega, this.2⟩
    · have hl := longsP_le (L.ps.take (j + 1)) fun x hx => ⟨(g.1.2.2 x (List.mem_of_mem_take hx)).2.2.1, (g.1.2.2 x (List.mem_of_mem_take hx)).2.2.2⟩
      have h8 : (L.ps.take (j + 1)).length ≤ 8 := by
        rw [List.length_take]
        have := g.1.2.1
        omega
      generalize longs (L.ps.take (j + 1)) = z at hl
      have : 2 ^ 126 * ((L.ps.take (j + 1)).length : Int) ≤ 2 ^ 126 * 8 := Int.mul_le_mul_of_nonneg_left (by omega) (by decide)
      omega
theorem five {u e : Int} (h1 : 1 ≤ u) (e0 : 0 ≤ e) (e1 : e < 5) : u ≤ u * (1 + e) ∧ u * (1 + e) ≤ 5 * u := by
  have h : e = 0 ∨ e = 1 ∨ e = 2 ∨ e = 3 ∨ e = 4 := by omega
  rcases h with rfl | rfl | rfl | rfl | rfl <;> omega
theorem none1 {d : Int} {b : Bool} (d0 : 0 ≤ d) (d1 : d < 2) : 0 ≤ d * (if b = true then (1 : Int) else 0) ∧ d * (if b = true then (1 : Int) else 0) ≤ 1 := by
  cases b
  · show 0 ≤ d * 0 ∧ d * 0 ≤ 1
    omega
  · show 0 ≤ d * 1 ∧ d * 1 ≤ 1
    omega
theorem timesI {u e n : Int} (h : 0 ≤ u) (e0 : 0 ≤ e) (e1 : e ≤ n) : 0 ≤ u * e ∧ u * e ≤ u * n := ⟨Int.mul_nonneg h e0, Int.mul_le_mul_of_nonneg_left e1 h⟩
theorem letRep (le : Option Int) : (List.replicate ((if (!decide (letV le = V.non)) = true then (1 : Int) else 0)).toNat [letV le]).flatten = le.toList.map V.int := by
  cases le with
  | none => rfl
  | some n =>
    rw [letV_some n]
    rfl
theorem letRep01 (le : Option Int) : 0 ≤ (if (!decide (letV le = V.non)) = true then (1 : Int) else 0) ∧ (if (!decide (letV le = V.non)) = true then (1 : Int) else 0) ≤ 1 := by
  split <;> decide
/-! ### wisps let go -/
def lessI (le : Option Int) (p : Int) : Int := match le with
  | none => p
  | some n => if p < n then p else n
def letL (L : Lw) (p : Int) : Lw := ⟨L.so, L.ps, L.pl, some (lessI L.le p)⟩
theorem letL_thick (L : Lw) (p q : Int) : thickL (letL L p) q = if p ≤ q then 0 else thickL L q := by
  show (if q < L.pl then 0 else if lessI L.le p ≤ q then 0 else thickAt L.ps (q - L.pl)) = if p ≤ q then 0 else thickL L q
  unfold thickL lessI
  cases L.le with
  | none =>
    show (if q < L.pl then 0 else if p ≤ q then 0 else thickAt L.ps (q - L.pl)) = if p ≤ q then 0 else if q < L.pl then 0 else thickAt L.ps (q - L.pl)
    (repeat' split) <;> first | rfl | omega
  | some n =>
    show (if q < L.pl then 0 else if (if p < n then p else n) ≤ q then 0 else thickAt L.ps (q - L.pl)) = if p ≤ q then 0 else if q < L.pl then 0 else if n ≤ q then 0 else thickAt L.ps (q - L.pl)
    (repeat' split) <;> first | rfl | omega
theorem thickS_cons (L : Lw) (Ls : List Lw) (q : Int) : thickS (L :: Ls) q = thickL L q + thickS Ls q := rfl
theorem set_thick : ∀ (Ls : List Lw) (n : Nat) (L M : Lw) (q : Int), Ls[n]? = some L → thickS (Ls.set n M) q = thickS Ls q - thickL L q + thickL M q
  | [], n, L, M, q, h => by simp at h
  | A :: r, 0, L, M, q, h => by
    have e : A = L := Option.some.inj h
    subst e
    show thickS (M :: r) q = thickS (A :: r) q - thickL A q + thickL M q
    rw [thickS_cons, thickS_cons]
    omega
  | A :: r, n + 1, L, M, q, h => by
    have h : r[n]? = some L := h
    show thickS (A :: r.set n M) q = thickS (A :: r) q - thickL L q + thickL M q
    rw [thickS_cons, thickS_cons, set_thick r n L M q h]
    omega
theorem letL_good {B : Int} {L : Lw} (g : GoodD B L) {p : Int} (h : L.pl < p) (hp : p < B) : GoodD B (letL L p) := by
  refine ⟨g.1, g.2.1, g.2.2.1, g.2.2.2.1, g.2.2.2.2.1, g.2.2.2.2.2.1, fun n hn => ?_⟩
  have hn : lessI L.le p = n := Option.some.inj hn
  have gl := g.2.2.2.2.2.2
  show L.pl < n ∧ n < B
  rw [← hn]
  unfold lessI
  cases hle : L.le with
  | none => exact ⟨h, hp⟩
  | some m =>
    have := gl m hle
    show L.pl < (if p < m then p else m) ∧ (if p < m then p else m) < B
    split <;> omega
theorem GoodD.up {B C : Int} {L : Lw} (g : GoodD B L) (h : B ≤ C) : GoodD C L := ⟨g.1, g.2.1, g.2.2.1, g.2.2.2.1, g.2.2.2.2.1, g.2.2.2.2.2.1, fun n hn => by
  have := g.2.2.2.2.2.2 n hn
  exact ⟨this.1, by omega⟩⟩
def spLetBy : Sp := fun vs H Q _ => ∃ (a : Addr) (L : Lw) (p : Int), vs = [.ref a, .int p] ∧ LaidAt H a L ∧ ∀ H' o, Same H H' → H o = none → LaidAt H' o (letL L p) → Q (.ref o) H'
def spLetGo : Sp := fun vs H Q _ => ∃ (a : Addr) (Ls : List Lw) (n : Nat) (p : Int) (L : Lw), vs = [.ref a, .int (n : Int), .int p] ∧ StrandAt H a Ls ∧ Ls.length ≤ 60 ∧ Ls[n]? = some L ∧ ∀ H' o, Same H H' → H o = none → StrandAt H' o (Ls.set n (letL L p)) → Q (.ref o) H'
def spLess : Sp := fun vs H Q _ => ∃ (le : Option Int) (p : Int), vs = [letV le, .int p] ∧ Q (.int (lessI le p)) H
/-! ### zip where the second one is no longer -/
theorem lcZipS {K : PySem.W.Frag} {a b : Addr} {xs ys : List V} {g : TG} {tt : TT} {te : TE} {us : List Nat} {σ : L2.St} {H1 : Hp} {D : Addr} {Qd : Hp → Prop} (hl : ys.length ≤ xs.length) (Pv : Nat → Hp → Prop) (h0 : Pv 0 (upd H1 D (.lst []))) (hq : ∀ i H, Pv i H → SqT K H a xs ∧ SqT K H b ys)
    (hs : ∀ i x y T H, xs[i]? = some x → ys[i]? = some y → H T = none → Pv i H → g (.ref T) (wipe σ us) (upd H T (.tup [x, y])) fun σ2 H2 => wipe σ2 us = wipe σ us ∧ tt σ2 H2 fun c H3 =>
      if c = true then te σ2 H3 fun y H4 => ∃ acc, H4 D = some (.lst acc) ∧ acc.length < sizeLine ∧ Pv (i + 1) (upd H4 D (.lst (acc ++ [y]))) else Pv (i + 1) H3) (hd : ∀ H, Pv ys.length H → Qd H) :
    ∃ W : Nat → Nat → Hp → Prop, (∃ m, W 0 m (upd H1 D (.lst []))) ∧ ∀ i m H, W i m H →
      ((RZ.ItzT K a b).stop i H ∧ Qd H) ∨ ((RZ.ItzT K a b).go i H ∧ ∃ Nx : Hp → Prop, (∀ H', Nx H' → ∃ m', m' < m ∧ W (i + 1) m' H') ∧ ∀ x H', (RZ.ItzT K a b).yld i H x H' → g x (wipe σ us) H' fun σ2 H2 => wipe σ2 us = wipe σ us ∧ tt σ2 H2 fun c H3 =>
        if c = true then te σ2 H3 fun y H4 => ∃ acc, H4 D = some (.lst acc) ∧ acc.length < sizeLine ∧ Nx (upd H4 D (.lst (acc ++ [y]))) else Nx H3) := by
  refine ⟨fun i m H => i + m = ys.length ∧ Pv i H, ⟨ys.length, Nat.zero_add _, h0⟩, fun i m H ⟨em, p⟩ => ?_⟩
  obtain ⟨q1, q2⟩ := hq i H p
  by_cases hi : i < ys.length
  · have g1 : xs[i]? = some (xs[i]'(by omega)) := List.getElem?_eq_getElem (by omega)
    have g2 : ys[i]? = some ys[i] := List.getElem?_eq_getElem hi
    refine .inr ⟨⟨xs, ys, _, _, q1, q2, g1, g2⟩, Pv (i + 1), fun H' p' => ⟨m - 1, by omega, by omega, p'⟩, fun v H' hy => ?_⟩
    obtain ⟨T, x, y, rfl, nT, rfl, f1, f2⟩ := hy
    exact hs i x y T H (f1 _ q1) (f2 _ q2) nT p
  · have e : i = ys.length := by omega
    subst e
    exact .inl ⟨⟨xs, ys, q1, q2, .inr (Nat.le_refl _)⟩, hd H p⟩
theorem cut_tail (xs : List V) : cutV xs (some 1) none = xs.drop 1 := by
  unfold cutV
  have h : HT.sIx xs.length 0 (some 1) = min 1 xs.length := HT.sIx_nat xs.length 0 1
  rw [h]
  cases xs with
  | nil => rfl
  | cons x r =>
    show ((x :: r).drop (min 1 (r.length + 1))).take (r.length + 1 - min 1 (r.length + 1)) = r
    rw [show min 1 (r.length + 1) = 1 by omega]
    show r.take (r.length + 1 - 1) = r
    simp
/-! ### what is good is told so -/
def spIsWhole : Sp := fun vs H Q _ => ∃ i n : Int, vs = [.int i, .int n] ∧ Q (.bl (decide (n ≤ i))) H
def spIsTuple : Sp := fun vs H Q _ => ∃ (a : Addr) (xs : List V) (m n : Int), vs = [.ref a, .int m, .int n] ∧ H a = some (.tup xs) ∧ m ≤ xs.length ∧ (xs.length : Int) ≤ n ∧ Q (.bl true) H
def spIsStep : Sp := fun vs H Q _ => ∃ (a : Addr) (t g : Int), vs = [.ref a] ∧ H a = some (.tup [.int t, .int g]) ∧ 1 ≤ t ∧ 1 ≤ g ∧ Q (.bl true) H
def spAreSteps : Sp := fun vs H Q _ => ∃ (a : Addr) (as : List Addr) (ps : List (Int × Int)), vs = [.ref a] ∧ H a = some (.tup (as.map V.ref)) ∧ TupsAt H as (ps.map stepV) ∧ GoodP ps ∧ Falls ps ∧ ∀ H', Same H H' → Q (.bl true) H'
def spIsWisp : Sp := fun vs H Q _ => ∃ (a : Addr) (s : Int) (ps : List (Int × Int)), vs = [.ref a] ∧ WispAt H a s ps ∧ 0 ≤ s ∧ s ≤ 1 ∧ GoodP ps ∧ Falls ps ∧ ∀ H', Same H H' → Q (.bl true) H'
/-- laid anywhere -/
def GoodI (L : Lw) : Prop := GoodP L.ps ∧ 0 ≤ L.so ∧ L.so ≤ 1 ∧ 0 ≤ L.pl ∧ Falls L.ps ∧ ∀ n, L.le = some n → L.pl < n
theorem GoodD.i {B : Int} {L : Lw} (h : GoodD B L) : GoodI L := ⟨h.1, h.2.1, h.2.2.1, h.2.2.2.1, h.2.2.2.2.2.1, fun n hn => (h.2.2.2.2.2.2 n hn).1⟩
def spIsLaid : Sp := fun vs H Q _ => ∃ (a : Addr) (L : Lw), vs = [.ref a] ∧ LaidAt H a L ∧ GoodI L ∧ ∀ H', Same H H' → Q (.bl true) H'
def spIsStrand : Sp := fun vs H Q _ => ∃ (a : Addr) (Ls : List Lw), vs = [.ref a] ∧ StrandAt H a Ls ∧ Ls.length ≤ 60 ∧ (∀ L ∈ Ls, GoodI L) ∧ ∀ H', Same H H' → Q (.bl true) H'
theorem all_true {bs : List Bool} (h : ∀ b ∈ bs, b = true) : bs.all id = true := List.all_eq_true.mpr fun b hb => h b hb
theorem trues_snoc {bs : List Bool} (h : ∀ b ∈ bs, b = true) : ∀ b ∈ bs ++ [true], b = true := fun b hb => by
  rcases List.mem_append.mp hb with z | z
  · exact h b z
  · exact List.mem_singleton.mp z
/-! ### moved -/
def movL (L : Lw) (d : Int) : Lw := ⟨L.so, L.ps, L.pl + d, L.le.map (· + d)⟩
theorem movL_thick (L : Lw) (d q : Int) : thickL (movL L d) q = thickL L (q - d) := by
  unfold thickL movL
  cases L.le with
  | none =>
    show (if q < L.pl + d then 0 else thickAt L.ps (q - (L.pl + d))) = if q - d < L.pl then 0 else thickAt L.ps (q - d - L.pl)
    rw [show q - (L.pl + d) = q - d - L.pl by omega]
    by_cases h : q - d < L.pl
    · rw [if_pos h, if_pos (by omega)]
    · rw [if_neg h, if_neg (by omega)]
  | some n =>
    show (if q < L.pl + d then 0 else if n + d ≤ q then 0 else thickAt L.ps (q - (L.pl + d))) = if q - d < L.pl then 0 else if n ≤ q - d then 0 else thickAt L.ps (q - d - L.pl)
    rw [show q - (L.pl + d) = q - d - L.pl by omega]
    by_cases h : q - d < L.pl
    · rw [if_pos h, if_pos (by omega)]
    · rw [if_neg h, if_neg (by omega)]
      by_cases h2 : n ≤ q - d
      · rw [if_pos h2, if_pos (by omega)]
      · rw [if_neg h2, if_neg (by omega)]
theorem movS_thick (d q : Int) : ∀ Ls : List Lw, thickS (Ls.map fun L => movL L d) q = thickS Ls (q - d)
  | [] => rfl
  | L :: r => by
    show thickS (movL L d :: r.map fun L => movL L d) q = thickS (L :: r) (q - d)
    rw [thickS_cons, thickS_cons, movL_thick, movS_thick d q r]
def spMoved : Sp := fun vs H Q _ => ∃ (a : Addr) (L : Lw) (d : Int), vs = [.ref a, .int d] ∧ LaidAt H a L ∧ ∀ H' o, Same H H' → H o = none → LaidAt H' o (movL L d) → Q (.ref o) H'
def spBehind : Sp := fun vs H Q _ => ∃ (a b : Addr) (Ls Ms : List Lw) (d : Int), vs = [.ref a, .ref b, .int d] ∧ StrandAt H a Ls ∧ StrandAt H b Ms ∧ Ls.length + Ms.length ≤ 60 ∧
  ∀ H' o, Same H H' → StrandAt H' o (Ls ++ Ms.map fun L => movL L d) → Q (.ref o) H'
theorem LaidsAt.app {H : Hp} {as bs : List Addr} {Ls Ms : List Lw} (h : LaidsAt H as Ls) (k : LaidsAt H bs Ms) : LaidsAt H (as ++ bs) (Ls ++ Ms) := by
  refine ⟨by simp [h.1, k.1], fun i b hb => ?_⟩
  by_cases hi : i < as.length
  · rw [List.getElem?_append_left hi] at hb
    obtain ⟨M, h1, h2⟩ := h.2 i b hb
    exact ⟨M, by rw [List.getElem?_append_left (by rw [← h.1]; exact hi)]; exact h1, h2⟩
  · rw [List.getElem?_append_right (by omega)] at hb
    obtain ⟨M, h1, h2⟩ := k.2 _ b hb
    refine ⟨M, ?_, h2⟩
    rw [List.getElem?_append_right (by rw [← h.1]; omega), ← h.1]
    exact h1
/-! ### shown -/
def GoodS (L : Lw) : Prop := GoodP L.ps ∧ 0 ≤ L.so ∧ L.so ≤ 1 ∧ 0 ≤ L.pl ∧ L.pl < 2 ^ 200 ∧ ∀ n, L.le = some n → 0 ≤ n ∧ n < 2 ^ 200
theorem laid_shS {L : Lw} (g : GoodS L) : Sh (laidD L) := by
  refine .tup fun x hx => ?_
  simp only [List.mem_cons, List.not_mem_nil, or_false] at hx
  rcases hx with rfl | rfl | rfl
  · exact wisp_sh g.2.1 g.2.2.1 g.1.good
  · exact sh_nat g.2.2.2.1 g.2.2.2.2.1
  · cases h : L.le with
    | none => exact .non
    | some n =>
      have := g.2.2.2.2.2 n h
      exact sh_nat this.1 this.2
theorem strand_shS {Ls : List Lw} (g : ∀ L ∈ Ls, GoodS L) : Sh (strandD Ls) := .tup fun x hx => by
  obtain ⟨L, hL, rfl⟩ := List.mem_map.mp hx
  exact laid_shS (g L hL)
theorem strand_bulkS {Ls : List Lw} (g : ∀ L ∈ Ls, GoodS L) (hl : Ls.length ≤ 60) : (strandD Ls).bulk ≤ 20000 := by
  have h := bulk_all (xs := Ls.map laidD) (n := 41) fun x hx => by
    obtain ⟨L, hL, rfl⟩ := List.mem_map.mp hx
    have h1 := wisp_bulk L.so L.ps
    have h2 := (g L hL).1.2.1
    have h3 : (letD L.le).bulk = 0 := by
      cases L.le with
      | none => rfl
      | some n => rfl
    show (wispD L.so L.ps).bulk + 1 + (0 + 1 + ((letD L.le).bulk + 1 + 0)) + 1 ≤ 41
    omega
  rw [List.length_map] at h
  show PyData.bulkAll (Ls.map laidD) ≤ 20000
  omega
theorem GoodD.s {B : Int} {L : Lw} (h : GoodD B L) (hB : B ≤ 2 ^ 200) : GoodS L := ⟨h.1, h.2.1, h.2.2.1, h.2.2.2.1, by have := h.2.2.2.2.1; omega, fun n hn => by
  have h1 := h.2.2.2.2.2.2 n hn
  have h2 := h.2.2.2.1
  exact ⟨by omega, by omega⟩⟩
theorem movL_goodS {B : Int} {L : Lw} (h : GoodD B L) (hB : B ≤ 2 ^ 140) {d : Int} (d0 : 0 ≤ d) (d1 : d < 2 ^ 140) : GoodS (movL L d) := by
  have h1 := h.2.2.2.2.1
  have h2 := h.2.2.2.1
  refine ⟨h.1, h.2.1, h.2.2.1, ?_, ?_, fun n hn => ?_⟩
  · show 0 ≤ L.pl + d
    omega
  · show L.pl + d < 2 ^ 200
    omega
  · have hn : L.le.map (· + d) = some n := hn
    cases hle : L.le with
    | none =>
      rw [hle] at hn
      cases hn
    | some m =>
      rw [hle] at hn
      have e : m + d = n := Option.some.inj hn
      have := h.2.2.2.2.2.2 m hle
      omega
theorem movL_goodI {L : Lw} (h : GoodI L) {d : Int} (d0 : 0 ≤ L.pl + d) : GoodI (movL L d) := by
  refine ⟨h.1, h.2.1, h.2.2.1, d0, h.2.2.2.2.1, fun n hn => ?_⟩
  have hn : L.le.map (· + d) = some n := hn
  cases hle : L.le with
  | none =>
    rw [hle] at hn
    cases hn
  | some m =>
    rw [hle] at hn
    have e : m + d = n := Option.some.inj hn
    have := h.2.2.2.2.2 m hle
    show L.pl + d < n
    omega
/-! ### cut off, and from a place on -/
def isKept (p : Int) (L : Lw) : Bool := decide (p ≤ L.pl) || decide (0 < thickL L p)
def cutL (L : Lw) (p : Int) : Lw := ⟨L.so, tailOf L.ps (p - L.pl), p, L.le⟩
def restL (p : Int) (L : Lw) : Lw := if L.pl < p then movL (cutL L p) (-p) else movL L (-p)
def belowOf (p : Int) (Ls : List Lw) : List Lw := (Ls.filter fun L => decide (L.pl < p)).map fun L => letL L p
def aboveOf (p : Int) (Ls : List Lw) : List Lw := (Ls.filter (isKept p)).map (restL p)
theorem below_snoc (p : Int) (Ls : List Lw) (L : Lw) : belowOf p (Ls ++ [L]) = belowOf p Ls ++ (if L.pl < p then [letL L p] else []) := by
  unfold belowOf
  rw [List.filter_append, List.map_append]
  congr 1
  by_cases h : L.pl < p
  · rw [if_pos h]
    simp [h]
  · rw [if_neg h]
    simp [h]
theorem above_snoc (p : Int) (Ls : List Lw) (L : Lw) : aboveOf p (Ls ++ [L]) = aboveOf p Ls ++ (if isKept p L = true then [restL p L] else []) := by
  unfold aboveOf
  rw [List.filter_append, List.map_append]
  congr 1
  by_cases h : isKept p L = true
  · rw [if_pos h]
    simp [h]
  · rw [if_neg h]
    simp [h]
theorem below_len (p : Int) (Ls : List Lw) : (belowOf p Ls).length ≤ Ls.length := by
  unfold belowOf
  rw [List.length_map]
  exact List.length_filter_le _ _
theorem above_len (p : Int) (Ls : List Lw) : (aboveOf p Ls).length ≤ Ls.length := by
  unfold aboveOf
  rw [List.length_map]
  exact List.length_filter_le _ _
theorem movmov (L : Lw) (d q : Int) : thickL (movL (movL L (-d)) d) q = thickL L q := by
  rw [movL_thick, movL_thick, show q - d - -d = q by omega]
theorem cut_thick {L : Lw} (g : GoodL L) {p : Int} (h : L.pl < p) (q : Int) : thickL (letL L p) q + thickL (cutL L p) q = thickL L q := by
  have hp : ∀ x ∈ L.ps, 1 ≤ x.2 := fun x hx => (g.1.2.2 x hx).2.2.1
  rw [letL_thick]
  unfold thickL cutL
  by_cases hq : p ≤ q
  · rw [if_pos hq]
    dsimp only
    rw [if_neg (by omega), if_neg (by omega), tail_thick L.ps (p - L.pl) (q - p) (by omega) (by omega) hp, show p - L.pl + (q - p) = q - L.pl by omega, Int.zero_add]
  · rw [if_neg hq]
    dsimp only
    rw [if_pos (show q < p by omega), Int.add_zero]
theorem whole_thick (p : Int) (q : Int) : ∀ Ls : List Lw, (∀ L ∈ Ls, GoodL L) → thickS (belowOf p Ls ++ (aboveOf p Ls).map fun L => movL L p) q = thickS Ls q := by
  intro Ls g
  rw [thickS_app]
  induction Ls with
  | nil => rfl
  | cons L r ih =>
    have gL := g L (by simp)
    have ih := ih fun M hM => g M (by simp [hM])
    rw [thickS_cons]
    have eb : belowOf p (L :: r) = (if L.pl < p then [letL L p] else []) ++ belowOf p r := by
      unfold belowOf
      by_cases h : L.pl < p <;> simp [h]
    have ea : aboveOf p (L :: r) = (if isKept p L = true then [restL p L] else []) ++ aboveOf p r := by
      unfold aboveOf
      by_cases h : isKept p L = true <;> simp [h]
    rw [eb, ea, List.map_append, thickS_app, thickS_app]
    have key : thickS (if L.pl < p then [letL L p] else []) q + thickS ((if isKept p L = true then [restL p L] else []).map fun L => movL L p) q = thickL L q := by
      by_cases h : L.pl < p
      · rw [if_pos h, thickS_one]
        by_cases k : isKept p L = true
        · rw [if_pos k]
          show _ + thickS [movL (restL p L) p] q = _
          rw [thickS_one]
          unfold restL
          rw [if_pos h, movmov]
          exact cut_thick gL h q
        · rw [if_neg k]
          show _ + 0 = _
          rw [letL_thick]
          have nr : ¬ 0 < thickL L p := fun z => k (by unfold isKept; simp [z])
          have ov : lastOf L ≤ p := by
            have := mt (thick_runs gL p).mpr nr
            omega
          by_cases hq : p ≤ q
          · rw [if_pos hq, thick_over gL (by omega)]
            rfl
          · rw [if_neg hq]
            omega
      · rw [if_neg h]
        have k : isKept p L = true := by
          unfold isKept
          rw [decide_eq_true (show p ≤ L.pl by omega)]
          rfl
        rw [if_pos k]
        show (0 : Int) + thickS [movL (restL p L) p] q = _
        rw [thickS_one]
        unfold restL
        rw [if_neg h, movmov]
        omega
    omega
theorem tail_falls : ∀ (ps : List (Int × Int)) (k : Int), Falls ps → Falls (tailOf ps k)
  | [], _, _ => List.Pairwise.nil
  | (t, g) :: r, k, h => by
    obtain ⟨h1, h2⟩ := List.pairwise_cons.mp h
    have ih := tail_falls r (k - g) h2
    show Falls ((if k < g then [(t, g - (if 0 > k then 0 else k))] else []) ++ tailOf r (k - g))
    split
    · refine List.pairwise_cons.mpr ⟨fun x hx => ?_, ih⟩
      obtain ⟨g', m, _⟩ := tail_mem hx
      exact h1 (x.1, g') m
    · exact ih
theorem tail_goodP {ps : List (Int × Int)} {k : Int} (g : GoodP ps) (h0 : 0 ≤ k) (h : k < longs ps) : GoodP (tailOf ps k) := by
  have := tail_good g.good h0 h
  refine ⟨this.1, Nat.le_trans (tail_len ps k) g.2.1, fun x hx => ?_⟩
  obtain ⟨g', m, g1, g2⟩ := tail_mem hx
  have gm := g.2.2 _ m
  have g1 := g1 gm.2.2.1
  exact ⟨gm.1, gm.2.1, g1, by have := gm.2.2.2; dsimp only at this; omega⟩
theorem run_lt {B : Int} {L : Lw} (g : GoodD B L) (hB : B ≤ 2 ^ 140) {p : Int} (h1 : L.pl < p) (h : 0 < thickL L p) : p - L.pl < longs L.ps ∧ ∀ n, L.le = some n → p < n := by
  have := (thick_runs (g.good hB) p).mp h
  unfold lastOf clip at this
  cases hle : L.le with
  | none =>
    rw [hle] at this
    dsimp only at this
    exact ⟨by omega, fun n hn => by cases hn⟩
  | some n =>
    rw [hle] at this
    dsimp only at this
    have e : p < n ∧ p - L.pl < longs L.ps := by
      obtain ⟨_, t⟩ := this
      split at t <;> omega
    refine ⟨e.2, fun m hm => ?_⟩
    have : n = m := Option.some.inj hm
    omega
theorem rest_good {B : Int} {L : Lw} (g : GoodD B L) (hB : B ≤ 2 ^ 140) {p : Int} (p0 : 0 ≤ p) (hk : isKept p L = true) : GoodI (restL p L) ∧ GoodS (restL p L) := by
  have g4 := g.2.2.2.1
  have g5 := g.2.2.2.2.1
  have gl := g.2.2.2.2.2.2
  by_cases h : L.pl < p
  · have hr : 0 < thickL L p := by
      unfold isKept at hk
      rw [decide_eq_false (show ¬ p ≤ L.pl by omega), Bool.false_or] at hk
      exact of_decide_eq_true hk
    obtain ⟨r1, r2⟩ := run_lt g hB h hr
    have gp := tail_goodP g.1 (show 0 ≤ p - L.pl by omega) r1
    unfold restL
    rw [if_pos h]
    have le' : ∀ n, (movL (cutL L p) (-p)).le = some n → 0 < n ∧ n < 2 ^ 200 := fun n hn => by
      have hn : L.le.map (· + -p) = some n := hn
      cases hle : L.le with
      | none =>
        rw [hle] at hn
        cases hn
      | some m =>
        rw [hle] at hn
        have e : m + -p = n := Option.some.inj hn
        have := r2 m hle
        have := gl m hle
        omega
    have pl' : (movL (cutL L p) (-p)).pl = 0 := by
      show p + -p = 0
      omega
    exact ⟨⟨gp, g.2.1, g.2.2.1, by rw [pl']; exact Int.le_refl _, tail_falls _ _ g.2.2.2.2.2.1, fun n hn => by rw [pl']; exact (le' n hn).1⟩, ⟨gp, g.2.1, g.2.2.1, by rw [pl']; exact Int.le_refl _, by rw [pl']; decide, fun n hn => ⟨by have := (le' n hn).1; omega, (le' n hn).2⟩⟩⟩
  · unfold restL
    rw [if_neg h]
    refine ⟨movL_goodI g.i (by omega), ⟨g.1, g.2.1, g.2.2.1, ?_, ?_, fun n hn => ?_⟩⟩
    · show 0 ≤ L.pl + -p
      omega
    · show L.pl + -p < 2 ^ 200
      omega
    · have hn : L.le.map (· + -p) = some n := hn
      cases hle : L.le with
      | none =>
        rw [hle] at hn
        cases hn
      | some m =>
        rw [hle] at hn
        have e : m + -p = n := Option.some.inj hn
        have := gl m hle
        omega
def spCutOff : Sp := fun vs H Q _ => ∃ (a : Addr) (Ls : List Lw) (p : Int), vs = [.ref a, .int p] ∧ StrandAt H a Ls ∧ Ls.length ≤ 60 ∧ ∀ H' o, Same H H' → H o = none → StrandAt H' o (belowOf p Ls) → Q (.ref o) H'
def spRestFrom : Sp := fun vs H Q _ => ∃ (a : Addr) (L : Lw) (p : Int), vs = [.ref a, .int p] ∧ LaidAt H a L ∧ L.ps.length ≤ 10 ∧ ∀ H' o, Same H H' → H o = none → LaidAt H' o (restL p L) → Q (.ref o) H'
def spFromOn : Sp := fun vs H Q _ => ∃ (a : Addr) (Ls : List Lw) (p : Int), vs = [.ref a, .int p] ∧ StrandAt H a Ls ∧ Ls.length ≤ 60 ∧ (∀ L ∈ Ls, L.ps.length ≤ 10) ∧ ∀ H' o, Same H H' → H o = none → StrandAt H' o (aboveOf p Ls) → Q (.ref o) H'
def spTailOf : Sp := fun vs H Q _ => ∃ (a : Addr) (s : Int) (ps : List (Int × Int)) (k : Int), vs = [.ref a, .int k] ∧ WispAt H a s ps ∧ ps.length ≤ 10 ∧ 0 ≤ k ∧ (∀ p ∈ ps, 1 ≤ p.2) ∧ ∀ H' b, Same H H' → H b = none → WispAt H' b s (tailOf ps k) → Q (.ref b) H'
def spDue17 : Sp := fun vs H Q _ => ∃ (a : Addr) (Ls : List Lw) (p : Int), vs = [.ref a, .int p] ∧ StrandAt H a Ls ∧ Ls.length ≤ 60 ∧ (∀ L ∈ Ls, GoodL L) ∧ 0 ≤ p ∧
  ∀ H' o x y, Same H H' → H' o = some (.tup [.ref x, .ref y]) → StrandAt H' x (belowOf p Ls) → StrandAt H' y (aboveOf p Ls) → Q (.ref o) H'
theorem kept_len {p : Int} {Ls : List Lw} : (Ls.filter (isKept p)).length ≤ Ls.length := List.length_filter_le _ _
theorem strand_bulk5 {Ls : List Lw} (g : ∀ L ∈ Ls, GoodS L) (hl : Ls.length ≤ 60) : (strandD Ls).bulk ≤ 5000 := by
  have h := bulk_all (xs := Ls.map laidD) (n := 41) fun x hx => by
    obtain ⟨L, hL, rfl⟩ := List.mem_map.mp hx
    have h1 := wisp_bulk L.so L.ps
    have h2 := (g L hL).1.2.1
    have h3 : (letD L.le).bulk = 0 := by
      cases L.le with
      | none => rfl
      | some n => rfl
    show (wispD L.so L.ps).bulk + 1 + (0 + 1 + ((letD L.le).bulk + 1 + 0)) + 1 ≤ 41
    omega
  rw [List.length_map] at h
  show PyData.bulkAll (Ls.map laidD) ≤ 5000
  omega
def twoD (As Bs : List Lw) : PyData := .tuple [strandD As, strandD Bs]
theorem two_show {As Bs : List Lw} (ga : ∀ L ∈ As, GoodS L) (gb : ∀ L ∈ Bs, GoodS L) (la : As.length ≤ 60) (lb : Bs.length ≤ 60) : (twoD As Bs).showable = true ∧ (twoD As Bs).hasDict = false ∧ (twoD As Bs).depth ≤ 60 ∧ (twoD As Bs).shown.length ≤ sizeLine := by
  have sh : Sh (twoD As Bs) := .tup fun x hx => by
    simp only [List.mem_cons, List.not_mem_nil, or_false] at hx
    rcases hx with rfl | rfl
    · exact strand_shS ga
    · exact strand_shS gb
  have h1 := strand_bulk5 ga la
  have h2 := strand_bulk5 gb lb
  have hd : (twoD As Bs).depth ≤ 6 := Nat.succ_le_succ (depth_all fun x hx => by
    simp only [List.mem_cons, List.not_mem_nil, or_false] at hx
    rcases hx with rfl | rfl
    · exact strand_depth As
    · exact strand_depth Bs)
  refine ⟨sh.ok.1, sh.ok.2.1, by omega, sh.fits ?_⟩
  show (strandD As).bulk + 1 + ((strandD Bs).bulk + 1 + 0) ≤ 20000
  omega
/-! ### stretches: what stays within, what each weighs, neighbours unlike -/
theorem seg_const {Ls : List Lw} (g : ∀ L ∈ Ls, GoodL L) {ys : List Int} (hp : Places Ls ys) {s e p : Int} (hn : ∀ y ∈ ys, y ≤ s ∨ e ≤ y) (h1 : s ≤ p) (h2 : p < e) : ∀ L ∈ Ls, thickL L p = thickL L s := fun L hL => by
  by_cases c : p = s
  · rw [c]
  have h := places_step g hp (j := s) (k := p) (by omega) (fun y hy => by
    rcases hn y hy with h | h
    · exact .inl h
    · exact .inr (by omega)) L hL
  have hw : wr p (partsOf L.le L.ps L.pl) = [] := Classical.byContradiction fun hc => by
    obtain ⟨y, hy, h3⟩ := wr_ne hc
    have hk : p ∈ ys := (hp.2.1 p).mpr (.inr ⟨L, hL, y, hy, h3⟩)
    rcases hn p hk with h | h <;> omega
  rw [h, hw]
  rfl
theorem pair_at {ys : List Int} {i : Nat} {s e : Int} (h : (pairs ys)[i]? = some (s, e)) : ys[i]? = some s ∧ ys[i + 1]? = some e := by
  rw [List.getElem?_zip_eq_some, List.getElem?_drop] at h
  rw [Nat.add_comm i 1]
  exact h
theorem pair_gap {Ls : List Lw} (g : ∀ L ∈ Ls, GoodL L) {ys : List Int} (hp : Places Ls ys) {i : Nat} {s e : Int} (h : (pairs ys)[i]? = some (s, e)) : 0 ≤ s ∧ s < e ∧ ∀ y ∈ ys, y ≤ s ∨ e ≤ y := by
  obtain ⟨h1, h2⟩ := pair_at h
  have h3 := prev_lt g hp h2
  rw [prev_succ h1] at h3
  exact ⟨keys_nonneg g ((hp.2.1 s).mp (List.mem_of_getElem? h1)), h3⟩
theorem map_const {Ls : List Lw} {p s : Int} (h : ∀ L ∈ Ls, thickL L p = thickL L s) : (Ls.map fun L => thickL L p) = Ls.map fun L => thickL L s := List.map_congr_left h
theorem s0_const {Ls : List Lw} {p s : Int} (h : ∀ L ∈ Ls, thickL L p = thickL L s) : s0 Ls p = s0 Ls s := by
  unfold s0
  congr 1
  refine List.map_congr_left fun L hL => ?_
  rw [h L hL]
theorem s1_const {Ls : List Lw} {p s : Int} (h : ∀ L ∈ Ls, thickL L p = thickL L s) : s1 Ls p = s1 Ls s := by
  unfold s1
  congr 1
  refine List.map_congr_left fun L hL => ?_
  rw [h L hL]
theorem sum_const {f : Nat → Int} {c : Int} : ∀ n : Nat, (∀ i, i < n → f i = c) → ((List.range n).map f).sum = n * c
  | 0, _ => by rw [List.range_zero]; show (0 : Int) = ((0 : Nat) : Int) * c; rw [Int.natCast_zero, Int.zero_mul]
  | n + 1, h => by
    rw [List.range_succ, List.map_append, List.sum_append, sum_const n fun i hi => h i (by omega), List.map_singleton, List.sum_singleton, h n (by omega), Int.natCast_add, Int.add_mul]
    show _ = _ + ((1 : Nat) : Int) * c
    rw [Int.natCast_one, Int.one_mul]
theorem seg_weighs {Ls : List Lw} (g : ∀ L ∈ Ls, GoodL L) {ys : List Int} (hp : Places Ls ys) {s e : Int} (hs : s < e) (hn : ∀ y ∈ ys, y ≤ s ∨ e ≤ y) : WL s e Ls = (e - s) * thickS Ls s := by
  have h := WL_sum g s (e - s).toNat
  have hz : ((e - s).toNat : Int) = e - s := Int.toNat_of_nonneg (by omega)
  rw [hz, show s + (e - s) = e by omega] at h
  rw [← h, sum_const (c := thickS Ls s) _ fun i hi => ?_, hz]
  unfold thickS
  rw [map_const (seg_const g hp hn (p := s + i) (by omega) (by omega))]
/-- the whole weight, none let go -/
theorem whole_part {b : Int} : ∀ (ps : List (Int × Int)) (st : Int), (∀ p ∈ ps, 1 ≤ p.2) → 0 ≤ st → st + longs ps ≤ b → wsum 0 b (lawParts none ps st) = weigh ps
  | [], st, _, _, _ => rfl
  | (t, g) :: r, st, h, h0, hb => by
    have hg := h (t, g) List.mem_cons_self
    have hg : 1 ≤ g := hg
    have hr := longs_nonneg (ps := r) fun p hp => h p (List.mem_cons_of_mem _ hp)
    rw [longs_cons] at hb
    have hb : st + (g + longs r) ≤ b := hb
    have ih := whole_part (b := b) r (st + g) (fun p hp => h p (List.mem_cons_of_mem _ hp)) (by omega) (by omega)
    show wsum 0 b ((if st < st + g then [(st, st + g, t)] else []) ++ lawParts none r (st + g)) = _
    rw [if_pos (by omega), wsum_app, ih, weigh_cons, wsum_cons]
    show t * ovl 0 b (st, st + g, t) + 0 + weigh r = t * g + weigh r
    have : ovl 0 b (st, st + g, t) = g := by
      unfold ovl mxI mnI
      show (if (if b < st + g then b else st + g) - (if 0 > st then 0 else st) > 0 then _ else _) = g
      rw [if_neg (show ¬ b < st + g by omega), if_neg (show ¬ (0 : Int) > st by omega), if_pos (by omega)]
      omega
    rw [this, Int.add_zero]
theorem whole_weighs {b : Int} : ∀ {Ls : List Lw}, (∀ L ∈ Ls, GoodL L) → (∀ L ∈ Ls, L.le = none) → (∀ L ∈ Ls, lastOf L ≤ b) → WL 0 b Ls = (Ls.map fun L => weigh L.ps).sum
  | [], _, _, _ => rfl
  | L :: r, g, n, h => by
    have gL := g L List.mem_cons_self
    have hp : ∀ p ∈ L.ps, 1 ≤ p.2 := fun p hp => (gL.1.2.2 p hp).2.2.1
    have hl := h L List.mem_cons_self
    have nL := n L List.mem_cons_self
    unfold lastOf at hl
    rw [nL] at hl
    have hl : L.pl + longs L.ps ≤ b := hl
    rw [WL_cons, ← parts_eq L.ps L.pl hp, nL, whole_part L.ps L.pl hp gL.2.2.2.1 hl, whole_weighs (fun M hM => g M (List.mem_cons_of_mem _ hM)) (fun M hM => n M (List.mem_cons_of_mem _ hM)) fun M hM => h M (List.mem_cons_of_mem _ hM), List.map_cons, List.sum_cons]
/-! ### neighbours -/
theorem thick_in : ∀ {ps : List (Int × Int)} {k : Int}, (∀ p ∈ ps, 1 ≤ p.2) → 0 ≤ k → k < longs ps → ∃ p ∈ ps, thickAt ps k = p.1
  | [], k, _, h0, h => by
    have : longs [] = 0 := rfl
    omega
  | (t, g) :: r, k, hp, h0, h => by
    rw [longs_cons] at h
    show ∃ p ∈ (t, g) :: r, (if k < g then t else thickAt r (k - g)) = p.1
    by_cases c : k < g
    · rw [if_pos c]
      exact ⟨(t, g), List.mem_cons_self, rfl⟩
    · rw [if_neg c]
      have h : k < g + longs r := h
      obtain ⟨p, hp1, hp2⟩ := thick_in (ps := r) (k := k - g) (fun p hp' => hp p (List.mem_cons_of_mem _ hp')) (by omega) (by omega)
      exact ⟨p, List.mem_cons_of_mem _ hp1, hp2⟩
theorem thick_anti : ∀ {ps : List (Int × Int)} {a b : Int}, (∀ p ∈ ps, 1 ≤ p.2) → Falls ps → 0 ≤ a → a ≤ b → b < longs ps → thickAt ps b ≤ thickAt ps a
  | [], a, b, _, _, _, _, h => by
    have : longs [] = 0 := rfl
    omega
  | (t, g) :: r, a, b, hp, f, h0, hab, h => by
    have hr : ∀ p ∈ r, 1 ≤ p.2 := fun p hp' => hp p (List.mem_cons_of_mem _ hp')
    obtain ⟨f1, f2⟩ := List.pairwise_cons.mp f
    rw [longs_cons] at h
    have h : b < g + longs r := h
    show (if b < g then t else thickAt r (b - g)) ≤ if a < g then t else thickAt r (a - g)
    by_cases cb : b < g
    · rw [if_pos cb, if_pos (by omega)]
      exact Int.le_refl _
    · rw [if_neg cb]
      by_cases ca : a < g
      · rw [if_pos ca]
        obtain ⟨p, p1, p2⟩ := thick_in (ps := r) (k := b - g) hr (by omega) (by omega)
        rw [p2]
        have := f1 p p1
        have : p.1 < t := this
        omega
      · rw [if_neg ca]
        exact thick_anti (ps := r) hr f2 (by omega) (by omega) (by omega)
theorem thick_less : ∀ {ps : List (Int × Int)} {a b : Int} {j : Nat}, (∀ p ∈ ps, 1 ≤ p.2) → Falls ps → 0 ≤ a → a < longs (ps.take j) → longs (ps.take j) ≤ b → b < longs ps → thickAt ps b < thickAt ps a
  | [], a, b, j, _, _, _, _, _, h => by
    have : longs [] = 0 := rfl
    rw [List.take_nil] at *
    omega
  | (t, g) :: r, a, b, 0, hp, f, h0, h1, h2, h => by
    have : longs (List.take 0 ((t, g) :: r)) = 0 := rfl
    omega
  | (t, g) :: r, a, b, j + 1, hp, f, h0, h1, h2, h => by
    have hr : ∀ p ∈ r, 1 ≤ p.2 := fun p hp' => hp p (List.mem_cons_of_mem _ hp')
    obtain ⟨f1, f2⟩ := List.pairwise_cons.mp f
    rw [List.take_succ_cons, longs_cons] at h1 h2
    rw [longs_cons] at h
    have h : b < g + longs r := h
    have h1 : a < g + longs (r.take j) := h1
    have h2 : g + longs (r.take j) ≤ b := h2
    have ht := longs_nonneg (ps := r.take j) fun p hp' => hr p (List.mem_of_mem_take hp')
    show (if b < g then t else thickAt r (b - g)) < if a < g then t else thickAt r (a - g)
    rw [if_neg (by omega)]
    by_cases ca : a < g
    · rw [if_pos ca]
      obtain ⟨p, p1, p2⟩ := thick_in (ps := r) (k := b - g) hr (by omega) (by omega)
      rw [p2]
      exact f1 p p1
    · rw [if_neg ca]
      exact thick_less (ps := r) (j := j) hr f2 (by omega) (by omega) (by omega) (by omega)
theorem border_at {le : Option Int} {e : Int} : ∀ (ps : List (Int × Int)) (st : Int), (∀ p ∈ ps, 1 ≤ p.2) → (∃ y ∈ lawParts le ps st, y.1 = e ∨ y.2.1 = e) → e < clip le (st + longs ps) → ∃ j, e = st + longs (ps.take j)
  | [], st, _, h, _ => by
    obtain ⟨y, hy, _⟩ := h
    cases hy
  | (t, g) :: r, st, hp, h, he => by
    have hr : ∀ p ∈ r, 1 ≤ p.2 := fun p hp' => hp p (List.mem_cons_of_mem _ hp')
    rw [longs_cons] at he
    have he : e < clip le (st + (g + longs r)) := he
    obtain ⟨y, hy, h1⟩ := h
    have hy : y ∈ (if st < clip le (st + g) then [(st, clip le (st + g), t)] else []) ++ lawParts le r (st + g) := hy
    have rest : (∃ y ∈ lawParts le r (st + g), y.1 = e ∨ y.2.1 = e) → ∃ j, e = st + longs (((t, g) :: r).take j) := fun h => by
      obtain ⟨j, hj⟩ := border_at r (st + g) hr h (by rw [Int.add_assoc]; exact he)
      refine ⟨j + 1, ?_⟩
      rw [List.take_succ_cons, longs_cons]
      show e = st + (g + longs (r.take j))
      omega
    rcases List.mem_append.mp hy with hy | hy
    · split at hy
      · rw [List.mem_singleton.mp hy] at h1
        rcases h1 with h1 | h1
        · have h1 : st = e := h1
          refine ⟨0, ?_⟩
          show e = st + 0
          omega
        · have h1 : clip le (st + g) = e := h1
          refine ⟨1, ?_⟩
          show e = st + (g + 0)
          have : clip le (st + g) = st + g := by
            unfold clip at he h1 ⊢
            cases le with
            | none => rfl
            | some n =>
              dsimp only at he h1 ⊢
              split at h1
              · split at he
                · omega
                · omega
              · split
                · omega
                · rfl
          omega
      · cases hy
    · exact rest ⟨y, hy, h1⟩
theorem first_start {L : Lw} (g : GoodL L) : ∃ y ∈ partsOf L.le L.ps L.pl, y.1 = L.pl := by
  obtain ⟨gp, _, _, _, _, gl⟩ := g
  cases hps : L.ps with
  | nil =>
    have := gp.1
    rw [hps] at this
    cases this
  | cons p r =>
    obtain ⟨t, gg⟩ := p
    have h1 := (gp.2.2 (t, gg) (by rw [hps]; exact List.mem_cons_self)).2.2.1
    have h1 : 1 ≤ gg := h1
    refine ⟨(L.pl, clip L.le (L.pl + gg), t), ?_, rfl⟩
    show _ ∈ (if L.pl < clip L.le (L.pl + gg) then [(L.pl, clip L.le (L.pl + gg), t)] else []) ++ _
    have : L.pl < clip L.le (L.pl + gg) := by
      unfold clip
      cases hl : L.le with
      | none =>
        dsimp only
        omega
      | some n =>
        have := (gl n hl).1
        dsimp only
        split <;> omega
    rw [if_pos this]
    exact List.mem_append_left _ List.mem_cons_self
theorem nums_iff : ∀ {Ls : List Lw} {k : Nat} {a b : Int}, numsFrom k (Ls.map fun L => thickL L a) = numsFrom k (Ls.map fun L => thickL L b) → ∀ L ∈ Ls, (0 < thickL L a ↔ 0 < thickL L b)
  | [], _, _, _, _, L, hL => by cases hL
  | M :: r, k, a, b, h, L, hL => by
    have low : ∀ (xs : List Int) (k m : Nat), (m : Int) ∈ numsFrom k xs → k ≤ m := fun xs => by
      induction xs with
      | nil =>
        intro k m h
        cases h
      | cons x s ih =>
        intro k m h
        have h : (m : Int) ∈ (if 0 < x then [(k : Int)] else []) ++ numsFrom (k + 1) s := h
        rcases List.mem_append.mp h with h | h
        · split at h
          · have := List.mem_singleton.mp h
            omega
          · cases h
        · have := ih (k + 1) m h
          omega
    have h : (if 0 < thickL M a then [(k : Int)] else []) ++ numsFrom (k + 1) (r.map fun L => thickL L a) = (if 0 < thickL M b then [(k : Int)] else []) ++ numsFrom (k + 1) (r.map fun L => thickL L b) := h
    have both : (0 < thickL M a ↔ 0 < thickL M b) ∧ numsFrom (k + 1) (r.map fun L => thickL L a) = numsFrom (k + 1) (r.map fun L => thickL L b) := by
      by_cases ca : 0 < thickL M a
      · by_cases cb : 0 < thickL M b
        · rw [if_pos ca, if_pos cb] at h
          exact ⟨⟨fun _ => cb, fun _ => ca⟩, List.append_cancel_left h⟩
        · rw [if_pos ca, if_neg cb] at h
          have hk : (k : Int) ∈ numsFrom (k + 1) (r.map fun L => thickL L b) := by
            rw [← List.nil_append (numsFrom (k + 1) (r.map fun L => thickL L b)), ← h]
            exact List.mem_append_left _ List.mem_cons_self
          have := low _ _ _ hk
          omega
      · by_cases cb : 0 < thickL M b
        · rw [if_neg ca, if_pos cb] at h
          have hk : (k : Int) ∈ numsFrom (k + 1) (r.map fun L => thickL L a) := by
            rw [← List.nil_append (numsFrom (k + 1) (r.map fun L => thickL L a)), h]
            exact List.mem_append_left _ List.mem_cons_self
          have := low _ _ _ hk
          omega
        · rw [if_neg ca, if_neg cb] at h
          exact ⟨⟨fun x => absurd x ca, fun x => absurd x cb⟩, h⟩
    rcases List.mem_cons.mp hL with rfl | hL
    · exact both.1
    · exact nums_iff both.2 L hL
theorem thickL_in {L : Lw} {p : Int} (h1 : L.pl ≤ p) (h2 : p < lastOf L) : thickL L p = thickAt L.ps (p - L.pl) := by
  unfold thickL
  rw [if_neg (by omega)]
  unfold lastOf clip at h2
  cases hl : L.le with
  | none => rfl
  | some n =>
    rw [hl] at h2
    dsimp only at h2 ⊢
    rw [if_neg]
    split at h2 <;> omega
theorem last_long {L : Lw} : lastOf L ≤ L.pl + longs L.ps := clip_le
theorem thickL_nonneg {L : Lw} (g : GoodL L) (p : Int) : 0 ≤ thickL L p := by
  by_cases c : L.pl ≤ p ∧ p < lastOf L
  · have := (thick_runs g p).mpr c
    omega
  · unfold thickL
    have hp : ∀ x ∈ L.ps, 1 ≤ x.1 ∧ 1 ≤ x.2 := fun x hx => ⟨(g.1.2.2 x hx).1, (g.1.2.2 x hx).2.2.1⟩
    have nn : ∀ k, 0 ≤ thickAt L.ps k := fun k => by
      generalize L.ps = qs at hp
      induction qs generalizing k with
      | nil => exact Int.le_refl _
      | cons x r ih =>
        obtain ⟨t, gg⟩ := x
        show 0 ≤ if k < gg then t else thickAt r (k - gg)
        have := (hp (t, gg) List.mem_cons_self).1
        have : 1 ≤ t := this
        split
        · omega
        · exact ih (k - gg) fun y hy => hp y (List.mem_cons_of_mem _ hy)
    split
    · exact Int.le_refl _
    · split
      · exact nn _
      · split
        · exact Int.le_refl _
        · exact nn _
theorem sum_le {α : Type} {f g : α → Int} : ∀ {xs : List α}, (∀ x ∈ xs, f x ≤ g x) → (xs.map f).sum ≤ (xs.map g).sum
  | [], _ => Int.le_refl _
  | x :: r, h => by
    rw [List.map_cons, List.map_cons, List.sum_cons, List.sum_cons]
    have := h x List.mem_cons_self
    have := sum_le (xs := r) fun y hy => h y (List.mem_cons_of_mem _ hy)
    omega
theorem sum_less {α : Type} {f g : α → Int} : ∀ {xs : List α}, (∀ x ∈ xs, f x ≤ g x) → (∃ x ∈ xs, f x < g x) → (xs.map f).sum < (xs.map g).sum
  | [], _, h => by
    obtain ⟨x, hx, _⟩ := h
    cases hx
  | y :: r, h, e => by
    rw [List.map_cons, List.map_cons, List.sum_cons, List.sum_cons]
    have h1 := h y List.mem_cons_self
    have h2 := sum_le (xs := r) fun z hz => h z (List.mem_cons_of_mem _ hz)
    obtain ⟨x, hx, hl⟩ := e
    rcases List.mem_cons.mp hx with rfl | hx
    · omega
    · have := sum_less (xs := r) (fun z hz => h z (List.mem_cons_of_mem _ hz)) ⟨x, hx, hl⟩
      omega
theorem unlike {Ls : List Lw} (g : ∀ L ∈ Ls, GoodL L) (f : ∀ L ∈ Ls, Falls L.ps) {ys : List Int} (hp : Places Ls ys) {s e : Int} (h0 : 0 ≤ s) (hse : s < e) (he : e ∈ ys) (hn : ∀ y ∈ ys, y ≤ s ∨ e ≤ y) (h1 : numsFrom 0 (Ls.map fun L => thickL L s) = numsFrom 0 (Ls.map fun L => thickL L e)) (h2 : s0 Ls s = s0 Ls e) (h3 : s1 Ls s = s1 Ls e) : False := by
  have hr := nums_iff h1
  have both : ∀ L ∈ Ls, 0 < thickL L e → L.pl ≤ s ∧ e < lastOf L := fun L hL h => by
    have a1 := (thick_runs (g L hL) e).mp h
    have a2 := (thick_runs (g L hL) s).mp ((hr L hL).mpr h)
    exact ⟨a2.1, a1.2⟩
  have pos : ∀ L ∈ Ls, ∀ p ∈ L.ps, 1 ≤ p.2 := fun L hL p hp => ((g L hL).1.2.2 p hp).2.2.1
  have le : ∀ L ∈ Ls, thickL L e ≤ thickL L s := fun L hL => by
    by_cases c : 0 < thickL L e
    · obtain ⟨b1, b2⟩ := both L hL c
      have := last_long (L := L)
      rw [thickL_in (p := e) (by omega) b2, thickL_in (p := s) b1 (by omega)]
      exact thick_anti (pos L hL) (f L hL) (by omega) (by omega) (by omega)
    · have := thickL_nonneg (g L hL) s
      omega
  have lt : ∃ L ∈ Ls, thickL L e < thickL L s := by
    rcases (hp.2.1 e).mp he with h | ⟨L, hL, y, hy, hye⟩
    · omega
    · refine ⟨L, hL, ?_⟩
      have gL := g L hL
      have hle : y.2.1 ≤ lastOf L := parts_le L.ps L.pl (pos L hL) y hy
      have hok := part_ok gL hy
      have hy' := hy
      rw [← parts_eq L.ps L.pl (pos L hL)] at hy'
      have hm := law_mem L.ps L.pl (pos L hL) y hy'
      by_cases c : 0 < thickL L e
      · obtain ⟨b1, b2⟩ := both L hL c
        obtain ⟨j, hj⟩ := border_at L.ps L.pl (pos L hL) ⟨y, hy', hye⟩ b2
        have := last_long (L := L)
        rw [thickL_in (p := e) (by omega) b2, thickL_in (p := s) b1 (by omega)]
        exact thick_less (j := j) (pos L hL) (f L hL) (by omega) (by omega) (by omega) (by omega)
      · exfalso
        have ce : ¬ (L.pl ≤ e ∧ e < lastOf L) := fun h => c ((thick_runs gL e).mpr h)
        have el : e = lastOf L := by
          rcases hye with h | h <;> omega
        have hlg := last_gt gL
        obtain ⟨z, hz, ez⟩ := first_start gL
        have hk : L.pl ∈ ys := (hp.2.1 L.pl).mpr (.inr ⟨L, hL, z, hz, .inl ez⟩)
        have hs : L.pl ≤ s := by
          rcases hn _ hk with h | h <;> omega
        exact c ((hr L hL).mp ((thick_runs gL s).mpr ⟨hs, by omega⟩))
  have hlt : thickS Ls e < thickS Ls s := sum_less le lt
  have e1 := s01 s Ls
  have e2 := s01 e Ls
  omega
theorem eqv_ints : ∀ {ns ms : List Int}, PyData.eqvAll (ns.map PyData.int) (ms.map PyData.int) = true → ns = ms
  | [], [], _ => rfl
  | [], _ :: _, h => by cases h
  | _ :: _, [], h => by cases h
  | n :: r, m :: s, h => by
    obtain ⟨h1, h2⟩ := Bool.and_eq_true_iff.mp (show ((n == m) && PyData.eqvAll (r.map PyData.int) (s.map PyData.int)) = true from h)
    rw [beq_iff_eq.mp h1, eqv_ints h2]
/-- the last place is the end -/
theorem last_end {Ls : List Lw} (g : ∀ L ∈ Ls, GoodL L) {ys : List Int} (hp : Places Ls ys) {m z : Int} (hm : IsEnd Ls m) (hz : ys.getLast? = some z) : z = m := by
  have hmem : z ∈ ys := List.mem_of_getLast? hz
  have top : ∀ y ∈ ys, y ≤ z := fun y hy => by
    obtain ⟨i, hi, rfl⟩ := List.getElem_of_mem hy
    have e : ys[ys.length - 1]? = some z := by rw [← List.getLast?_eq_getElem?]; exact hz
    have hl : ys.length - 1 < ys.length := by omega
    rw [List.getElem?_eq_getElem hl] at e
    have e : ys[ys.length - 1] = z := Option.some.inj e
    by_cases c : i = ys.length - 1
    · subst c
      omega
    · have := List.pairwise_iff_getElem.mp hp.1 i (ys.length - 1) hi hl (by omega)
      omega
  have up : z ≤ m := by
    rcases (hp.2.1 z).mp hmem with h | ⟨L, hL, y, hy, h⟩
    · cases Ls with
      | nil => rw [hm.1 rfl, h]; exact Int.le_refl _
      | cons L r =>
        have h1 := hm.2.2 L List.mem_cons_self
        have h2 := last_gt (g L List.mem_cons_self)
        have h3 := (g L List.mem_cons_self).2.2.2.1
        omega
    · have h1 := parts_le L.ps L.pl (fun p hp => ((g L hL).1.2.2 p hp).2.2.1) y hy
      have h2 := (part_ok (g L hL) hy).1
      have h3 := hm.2.2 L hL
      have h4 : lastOf L = clip L.le (L.pl + longs L.ps) := rfl
      rcases h with h | h <;> omega
  have dn : m ≤ z := by
    cases Ls with
    | nil =>
      rw [hm.1 rfl]
      exact top 0 ((hp.2.1 0).mpr (.inl rfl))
    | cons L r =>
      obtain ⟨M, hM, e⟩ := hm.2.1 (by simp)
      have pos : ∀ p ∈ M.ps, 1 ≤ p.2 := fun p hp => ((g M hM).1.2.2 p hp).2.2.1
      obtain ⟨y, hy, ey⟩ := parts_has M.ps M.pl pos (last_gt (g M hM))
      rw [e]
      have h4 : lastOf M = clip M.le (M.pl + longs M.ps) := rfl
      have := top y.2.1 ((hp.2.1 y.2.1).mpr (.inr ⟨M, hM, y, hy, .inr rfl⟩))
      omega
  omega
def GoodF (L : Lw) : Prop := GoodL L ∧ Falls L.ps
def spStrandF : Sp := fun vs H Q _ => ∃ (p l : Addr) (T : Nat) (most : Int) (small : Bool), vs = [.ref p, .int most, .bl small] ∧ Pot H p l T ∧ T < 2 ^ 37 ∧ (most = 8 ∨ most = 60) ∧
  ∀ H' a Ls, Pot H' p l (T + 20000) → Keep p l H H' → StrandAt H' a Ls → Ls.length ≤ 60 → (∀ L ∈ Ls, GoodF L) → Q (.ref a) H'
/-- places of a stretch, drawn or all of them -/
def spSpots10 : Sp := fun vs H Q _ => ∃ (p l : Addr) (T : Nat) (b e many : Int), vs = [.ref p, .int b, .int e, .int many] ∧ Pot H p l T ∧ T < 2 ^ 38 ∧ 0 ≤ b ∧ b < e ∧ e < 2 ^ 210 ∧
  ∀ (H' : Hp) (o : Addr) (ns : List Int), Pot H' p l (T + 3) → Keep p l H H' → H o = none → H' o = some (.lst (ns.map V.int)) → ns.length ≤ 10 → (∀ n ∈ ns, b ≤ n ∧ n < e) → Q (.ref o) H'
def spOne10 : Sp := fun vs H Q _ => ∃ (p l : Addr) (T : Nat) (a c : Addr) (Ls : List Lw) (s e many : Int) (ys : List Int), vs = [.ref p, .ref a, .ref c, .int many] ∧ Pot H p l T ∧ T < 2 ^ 38 ∧ StrandAt H a Ls ∧ Ls.length ≤ 60 ∧ (∀ L ∈ Ls, GoodL L) ∧ SegAt H c Ls s e ∧ Places Ls ys ∧ 0 ≤ s ∧ s < e ∧ e < 2 ^ 210 ∧ (∀ y ∈ ys, y ≤ s ∨ e ≤ y) ∧
  ∀ H', Pot H' p l (T + 3) → Keep p l H H' → Q (.bl true) H'
def spRight10 : Sp := fun vs H Q _ => ∃ (p l : Addr) (T : Nat) (a : Addr) (Ls : List Lw), vs = [.ref p, .ref a] ∧ Pot H p l T ∧ T < 2 ^ 37 ∧ StrandAt H a Ls ∧ Ls.length ≤ 60 ∧ (∀ L ∈ Ls, GoodF L) ∧
  ∀ H', Pot H' p l (T + 10000) → Keep p l H H' → Q (.bl true) H'
theorem thickL_bd {L : Lw} (g : GoodL L) (p : Int) : thickL L p ≤ 2 ^ 200 := by
  by_cases c : 0 < thickL L p
  · obtain ⟨h1, h2⟩ := (thick_runs g p).mp c
    have h3 := last_long (L := L)
    rw [thickL_in h1 h2]
    obtain ⟨x, hx, e⟩ := thick_in (ps := L.ps) (k := p - L.pl) (fun x hx => (g.1.2.2 x hx).2.2.1) (by omega) (by omega)
    rw [e]
    have := (g.1.2.2 x hx).2.1
    omega
  · have : (0 : Int) < 2 ^ 200 := by decide
    omega
theorem thickS_bd : ∀ {Ls : List Lw} {p : Int}, (∀ L ∈ Ls, GoodL L) → 0 ≤ thickS Ls p ∧ thickS Ls p ≤ Ls.length * 2 ^ 200
  | [], p, _ => ⟨Int.le_refl _, by show (0 : Int) ≤ ((0 : Nat) : Int) * 2 ^ 200; decide⟩
  | L :: r, p, g => by
    have h1 := thickS_bd (Ls := r) (p := p) fun M hM => g M (List.mem_cons_of_mem _ hM)
    have h2 := thickL_nonneg (g L List.mem_cons_self) p
    have h3 := thickL_bd (g L List.mem_cons_self) p
    have e : thickS (L :: r) p = thickL L p + thickS r p := rfl
    rw [e, List.length_cons, Int.natCast_add, Int.add_mul]
    have h4 : ((1 : Nat) : Int) * 2 ^ 200 = 2 ^ 200 := by decide
    omega
theorem thickS_lt {Ls : List Lw} {p : Int} (g : ∀ L ∈ Ls, GoodL L) (hl : Ls.length ≤ 60) : thickS Ls p < 2 ^ 250 := by
  have h1 := (thickS_bd (p := p) g).2
  have h2 : (Ls.length : Int) * 2 ^ 200 ≤ 60 * 2 ^ 200 := Int.mul_le_mul_of_nonneg_right (by omega) (by decide)
  have h3 : (60 : Int) * 2 ^ 200 < 2 ^ 250 := by decide
  omega
theorem ints_ne {K : PySem.W.Frag} {H : Hp} {a b : Addr} {ns : List Int} {Q : VK} (ha : H a = some (.tup (ns.map V.int))) (hb : H b = some (.tup (ns.map V.int))) (q : Q (.bl false) H) : rNeD K (.ref a) (.ref b) H Q := by
  refine ⟨_, _, .tup (SqT.of ha) (ints_dp ns), .tup (SqT.of hb) (ints_dp ns), ints_shaped ns, ints_shaped ns, ?_⟩
  rw [SeqAt.eqv_refl _ (Bool.and_eq_true_iff.mp (ints_shaped ns)).1]
  exact q
theorem two_shaped (a b : List Int) : SeqAt.shaped (.tuple [.tuple (a.map PyData.int), .tuple (b.map PyData.int)]) = true := by
  have h1 := Bool.and_eq_true_iff.mp (ints_shaped a)
  have h2 := Bool.and_eq_true_iff.mp (ints_shaped b)
  have dep : ∀ ns : List Int, (PyData.tuple (ns.map PyData.int)).depth ≤ 1 := fun ns => Nat.succ_le_succ (depth_all (n := 0) fun x hx => by
    obtain ⟨n, _, rfl⟩ := List.mem_map.mp hx
    exact Nat.le_refl _)
  have d1 := dep a
  have d2 := dep b
  refine Bool.and_eq_true_iff.mpr ⟨Bool.and_eq_true_iff.mpr ⟨h1.1, Bool.and_eq_true_iff.mpr ⟨h2.1, rfl⟩⟩, decide_eq_true ?_⟩
  show max (PyData.tuple (a.map PyData.int)).depth (max (PyData.tuple (b.map PyData.int)).depth 0) + 1 ≤ 64
  omega
theorem two_eqv {a b c d : List Int} (h : PyData.eqv (.tuple [.tuple (a.map PyData.int), .tuple (b.map PyData.int)]) (.tuple [.tuple (c.map PyData.int), .tuple (d.map PyData.int)]) = true) : a = c ∧ b = d := by
  obtain ⟨h1, h2⟩ := Bool.and_eq_true_iff.mp (show (PyData.eqvAll (a.map PyData.int) (c.map PyData.int) && (PyData.eqvAll (b.map PyData.int) (d.map PyData.int) && true)) = true from h)
  exact ⟨eqv_ints h1, eqv_ints (Bool.and_eq_true_iff.mp h2).1⟩
theorem place_lt {Ls : List Lw} (g : ∀ L ∈ Ls, GoodL L) {ys : List Int} (hp : Places Ls ys) {y : Int} (hy : y ∈ ys) : y < 2 ^ 210 := by
  rcases (hp.2.1 y).mp hy with h | ⟨L, hL, x, hx, h⟩
  · have : (0 : Int) < 2 ^ 210 := by decide
    omega
  · have h1 := parts_le L.ps L.pl (fun p hp => ((g L hL).1.2.2 p hp).2.2.1) x hx
    have h2 := (part_ok (g L hL) hx).1
    have h3 := last_lt (g L hL)
    have h4 : lastOf L = clip L.le (L.pl + longs L.ps) := rfl
    have h5 : (2 : Int) ^ 205 < 2 ^ 210 := by decide
    rcases h with h | h <;> omega
theorem pairs_len (ys : List Int) : (pairs ys).length = ys.length - 1 := by
  rw [List.length_zip, List.length_drop]
  omega
def StrsF (H : Hp) (cs : List Addr) : Prop := ∀ c ∈ cs, ∃ Ls, StrandAt H c Ls ∧ Ls.length ≤ 60 ∧ ∀ L ∈ Ls, GoodF L
theorem StrsF.mono {H H' : Hp} {cs : List Addr} (h : StrsF H cs) (t : Tups H H') : StrsF H' cs := fun c hc => by
  obtain ⟨Ls, h1, h2, h3⟩ := h c hc
  exact ⟨Ls, h1.mono t, h2, h3⟩
/-! ### the places as the law has them -/
def PKeys (Ls : List Lw) (k : Int) : Prop := ∃ L ∈ Ls, ∃ y ∈ partsOf L.le L.ps L.pl, y.1 = k ∨ y.2.1 = k
theorem IKN.merge : ∀ {more kvs : List (Key × V)}, IKN kvs → IK more → IKN (mergeK kvs more)
  | [], kvs, h, _ => h
  | (k, v) :: r, kvs, h, hm => by
    obtain ⟨i, e⟩ := hm (k, v) (by simp)
    have e : k = Sum.inl i := e
    subst e
    exact IKN.merge (more := r) (h.put i v) fun x hx => hm x (by simp [hx])
theorem merge_has (j : Key) : ∀ (more kvs : List (Key × V)), (∃ v, valV (mergeK kvs more) j = some v) ↔ (∃ v, valV kvs j = some v) ∨ ∃ x ∈ more, x.1 = j
  | [], kvs => by
    show (∃ v, valV kvs j = some v) ↔ _
    simp
  | (k, v) :: r, kvs => by
    show (∃ u, valV (mergeK (putK kvs k v) r) j = some u) ↔ _
    rw [merge_has j r (putK kvs k v), valV_put]
    by_cases e : j = k
    · rw [if_pos e]
      constructor
      · exact fun _ => .inr ⟨(k, v), by simp, e.symm⟩
      · exact fun _ => .inl ⟨v, rfl⟩
    · rw [if_neg e]
      constructor
      · rintro (h | ⟨x, hx, h⟩)
        · exact .inl h
        · exact .inr ⟨x, by simp [hx], h⟩
      · rintro (h | ⟨x, hx, h⟩)
        · exact .inl h
        · rcases List.mem_cons.mp hx with rfl | hx
          · exact absurd h.symm e
          · exact .inr ⟨x, hx, h⟩
def spEnds9 : Sp := fun vs H Q _ => ∃ (o : Addr) (bs : List Addr) (Ls : List Lw), vs = [.ref o] ∧ H o = some (.lst (bs.map V.ref)) ∧ LPartsAt H bs Ls ∧ Ls.length ≤ 60 ∧ (∀ L ∈ Ls, GoodL L) ∧
  ∀ (H' : Hp) (r : Addr) (ns : List Int), Same H H' → H r = none → H' r = some (.lst (ns.map V.int)) → ns.length ≤ 1200 → ns.Pairwise (· < ·) → (∀ k, k ∈ ns ↔ PKeys Ls k) → Q (.ref r) H'
def spDue9 : Sp := fun vs H Q _ => ∃ (a : Addr) (Ls : List Lw), vs = [.ref a] ∧ StrandAt H a Ls ∧ Ls.length ≤ 60 ∧ (∀ L ∈ Ls, GoodL L) ∧
  ∀ (H' : Hp) (o : Addr) (as : List Addr) (ys : List Int), Same H H' → H o = none → H' o = some (.tup (as.map V.ref)) → SegsAt H' as Ls (pairs ys) → Places Ls ys → Q (.ref o) H'
theorem part_some {L : Lw} (g : GoodL L) : ∃ y, y ∈ partsOf L.le L.ps L.pl := by
  have h := law_ne g
  rw [parts_eq L.ps L.pl fun p hp => (g.1.2.2 p hp).2.2.1] at h
  cases hq : partsOf L.le L.ps L.pl with
  | nil => exact absurd hq h
  | cons y r => exact ⟨y, by simp⟩
/-- from the ends that the law has to all places -/
theorem places_of {Ls : List Lw} (g : ∀ L ∈ Ls, GoodL L) {ns : List Int} (h1 : ns.Pairwise (· < ·)) (h2 : ∀ k, k ∈ ns ↔ PKeys Ls k) (h3 : ns.length ≤ 1200) :
    (ns = [] → Ls = []) ∧ (∀ n r, ns = n :: r → n > 0 → Places Ls (0 :: ns)) ∧ (∀ n r, ns = n :: r → ¬ n > 0 → Places Ls ns) := by
  have hk : ∀ k, Keys Ls k ↔ k = 0 ∨ PKeys Ls k := fun k => Iff.rfl
  refine ⟨fun e => ?_, fun n r e hn => ?_, fun n r e hn => ?_⟩
  · cases Ls with
    | nil => rfl
    | cons L r =>
      obtain ⟨y, hy⟩ := part_some (g L (by simp))
      have := (h2 y.1).mpr ⟨L, by simp, y, hy, .inl rfl⟩
      rw [e] at this
      cases this
  · refine ⟨List.pairwise_cons.mpr ⟨fun y hy => ?_, h1⟩, fun k => ?_, by rw [List.length_cons]; omega⟩
    · rw [e] at hy h1
      rcases List.mem_cons.mp hy with rfl | hy
      · exact hn
      · have := (List.pairwise_cons.mp h1).1 y hy
        omega
    · rw [hk, List.mem_cons, h2]
  · refine ⟨h1, fun k => ?_, by omega⟩
    have n0 : n = 0 := by
      have := keys_nonneg g ((hk n).mpr (.inr ((h2 n).mp (by rw [e]; simp))))
      omega
    rw [hk, ← h2]
    constructor
    · exact .inr
    · rintro (h | h)
      · rw [h, e, n0]
        simp
      · exact h
theorem places_eq {Ls : List Lw} {xs ys : List Int} (h1 : Places Ls xs) (h2 : Places Ls ys) : xs = ys := rise_eq h1.1 h2.1 fun k => by rw [h1.2.1, h2.2.1]
/-- a stretch as a thing -/
def segD (Ls : List Lw) (p : Int × Int) : PyData := .tuple [.int p.1, .int p.2, .tuple ((numsFrom 0 (Ls.map fun L => thickL L p.1)).map PyData.int), .tuple ([s0 Ls p.1, s1 Ls p.1].map PyData.int)]
theorem SegAt.dp {K : PySem.W.Frag} {H : Hp} {a : Addr} {Ls : List Lw} {s e : Int} (h : SegAt H a Ls s e) : Dp K H (.ref a) (segD Ls (s, e)) := by
  obtain ⟨n, t, h1, h2, h3⟩ := h
  exact .tup (SqT.of h1) (.cons (.int _) (.cons (.int _) (.cons (.tup (SqT.of h2) (ints_dp _)) (.cons (.tup (SqT.of h3) (ints_dp [s0 Ls s, s1 Ls s])) .nil))))
theorem segs_dp {K : PySem.W.Frag} {H : Hp} {Ls : List Lw} : ∀ {as : List Addr} {ps : List (Int × Int)}, SegsAt H as Ls ps → DpAll K H (as.map V.ref) (ps.map (segD Ls))
  | [], [], _ => .nil
  | [], p :: r, h => absurd h.1 (by simp)
  | a :: r, [], h => absurd h.1 (by simp)
  | a :: r, p :: ps, h => by
    obtain ⟨s, e, h1, h2⟩ := h.2 0 a rfl
    have : p = (s, e) := Option.some.inj h1
    subst this
    exact .cons h2.dp (segs_dp ⟨Nat.succ.inj h.1, fun i b hb => h.2 (i + 1) b hb⟩)
theorem segs_ti {Ls : List Lw} (hl : Ls.length ≤ 60) {ps : List (Int × Int)} (h : ps.length ≤ 5000) : TI (.tuple (ps.map (segD Ls))) := by
  refine .tup (fun x hx => ?_) (by rw [List.length_map]; exact h)
  obtain ⟨p, _, rfl⟩ := List.mem_map.mp hx
  refine .tup (fun x hx => ?_) (by show 4 ≤ 5000; decide)
  simp only [List.mem_cons, List.not_mem_nil, or_false] at hx
  rcases hx with rfl | rfl | rfl | rfl
  · exact .int _
  · exact .int _
  · refine ints_ti _ ?_
    have := nums_len (Ls.map fun L => thickL L p.1) 0
    rw [List.length_map] at this
    omega
  · exact ints_ti _ (by show 2 ≤ 5000; decide)
theorem ints_d1 (ns : List Int) : (PyData.tuple (ns.map PyData.int)).depth ≤ 1 := by
  show PyData.depthAll (ns.map PyData.int) + 1 ≤ 1
  have : PyData.depthAll (ns.map PyData.int) ≤ 0 := depth_all fun x hx => by
    obtain ⟨n, _, rfl⟩ := List.mem_map.mp hx
    exact Nat.le_refl _
  omega
theorem segs_depth (Ls : List Lw) (ps : List (Int × Int)) : (PyData.tuple (ps.map (segD Ls))).depth < 4 := by
  have : PyData.depthAll (ps.map (segD Ls)) ≤ 2 := depth_all fun x hx => by
    obtain ⟨p, _, rfl⟩ := List.mem_map.mp hx
    have h1 := ints_d1 (numsFrom 0 (Ls.map fun L => thickL L p.1))
    have h2 := ints_d1 [s0 Ls p.1, s1 Ls p.1]
    show max 0 (max 0 (max (PyData.tuple ((numsFrom 0 (Ls.map fun L => thickL L p.1)).map PyData.int)).depth (max (PyData.tuple ([s0 Ls p.1, s1 Ls p.1].map PyData.int)).depth 0))) + 1 ≤ 2
    omega
  show PyData.depthAll (ps.map (segD Ls)) + 1 < 4
  omega
/-! ### strands made of strands: what each sort comes to -/
def GoodE (C : Int) (L : Lw) : Prop := GoodP L.ps ∧ 0 ≤ L.so ∧ L.so ≤ 1 ∧ 0 ≤ L.pl ∧ L.pl < C ∧ Falls L.ps ∧ ∀ n, L.le = some n → L.pl < n ∧ n < C
theorem GoodE.good {C : Int} {L : Lw} (h : GoodE C L) (hC : C ≤ 2 ^ 140) : GoodL L := ⟨h.1.good, h.2.1, h.2.2.1, h.2.2.2.1, by have := h.2.2.2.2.1; omega, fun n e => by
  have := h.2.2.2.2.2.2 n e
  have h2 : (2 : Int) ^ 140 < 2 ^ 206 := by decide
  exact ⟨this.1, by omega⟩⟩
theorem GoodE.i {C : Int} {L : Lw} (h : GoodE C L) : GoodI L := ⟨h.1, h.2.1, h.2.2.1, h.2.2.2.1, h.2.2.2.2.2.1, fun n hn => (h.2.2.2.2.2.2 n hn).1⟩
theorem GoodE.s {C : Int} {L : Lw} (h : GoodE C L) (hC : C ≤ 2 ^ 140) : GoodS L := by
  have h2 : (2 : Int) ^ 140 < 2 ^ 200 := by decide
  have h4 := h.2.2.2.1
  refine ⟨h.1, h.2.1, h.2.2.1, h4, by have := h.2.2.2.2.1; omega, fun n hn => ?_⟩
  have := h.2.2.2.2.2.2 n hn
  omega
theorem GoodE.up {C D : Int} {L : Lw} (h : GoodE C L) (l : C ≤ D) : GoodE D L := ⟨h.1, h.2.1, h.2.2.1, h.2.2.2.1, by have := h.2.2.2.2.1; omega, h.2.2.2.2.2.1, fun n hn => by
  have := h.2.2.2.2.2.2 n hn
  omega⟩
theorem GoodD.e {L : Lw} (h : GoodD (2 ^ 131) L) : GoodE (2 ^ 131) L := ⟨h.1, h.2.1, h.2.2.1, h.2.2.2.1, Int.lt_trans h.2.2.2.2.1 (by decide), h.2.2.2.2.2.1, h.2.2.2.2.2.2⟩
theorem GoodE.mov {C d : Int} {L : Lw} (h : GoodE C L) (d0 : 0 ≤ d) (d1 : d ≤ 2 ^ 130) : GoodE (C + 2 ^ 130) (movL L d) := by
  have h4 := h.2.2.2.1
  have h5 := h.2.2.2.2.1
  refine ⟨h.1, h.2.1, h.2.2.1, ?_, ?_, h.2.2.2.2.2.1, fun n hn => ?_⟩
  · show 0 ≤ L.pl + d
    omega
  · show L.pl + d < C + 2 ^ 130
    omega
  · have hn : L.le.map (· + d) = some n := hn
    show L.pl + d < n ∧ n < C + 2 ^ 130
    cases hle : L.le with
    | none =>
      rw [hle] at hn
      cases hn
    | some m =>
      rw [hle] at hn
      have e : m + d = n := Option.some.inj hn
      have := h.2.2.2.2.2.2 m hle
      omega
theorem GoodE.let {C D p : Int} {L : Lw} (h : GoodE C L) (hC : C ≤ D) (h1 : L.pl < p) (h2 : p < D) : GoodE D (letL L p) := by
  have h5 := h.2.2.2.2.1
  refine ⟨h.1, h.2.1, h.2.2.1, h.2.2.2.1, by show L.pl < D; omega, h.2.2.2.2.2.1, fun n hn => ?_⟩
  have hn : lessI L.le p = n := Option.some.inj hn
  show L.pl < n ∧ n < D
  rw [← hn]
  unfold lessI
  cases hle : L.le with
  | none => exact ⟨h1, h2⟩
  | some m =>
    have := h.2.2.2.2.2.2 m hle
    show L.pl < (if p < m then p else m) ∧ (if p < m then p else m) < D
    split <;> omega
theorem runE {C : Int} {L : Lw} (g : GoodE C L) (hC : C ≤ 2 ^ 140) {p : Int} (h : 0 < thickL L p) : p - L.pl < longs L.ps ∧ ∀ n, L.le = some n → p < n := by
  have := (thick_runs (g.good hC) p).mp h
  unfold lastOf clip at this
  cases hle : L.le with
  | none =>
    rw [hle] at this
    dsimp only at this
    exact ⟨by omega, fun n hn => by cases hn⟩
  | some n =>
    rw [hle] at this
    dsimp only at this
    have e : p < n ∧ p - L.pl < longs L.ps := by
      obtain ⟨_, t⟩ := this
      split at t <;> omega
    refine ⟨e.2, fun m hm => ?_⟩
    have : n = m := Option.some.inj hm
    omega
theorem kept_run {p : Int} {L : Lw} (hk : isKept p L = true) (h : L.pl < p) : 0 < thickL L p := by
  unfold isKept at hk
  rw [decide_eq_false (show ¬ p ≤ L.pl by omega), Bool.false_or] at hk
  exact of_decide_eq_true hk
theorem GoodE.rest {C p : Int} {L : Lw} (g : GoodE C L) (hC : C ≤ 2 ^ 140) (p0 : 0 ≤ p) (hk : isKept p L = true) : GoodE C (restL p L) := by
  have g4 := g.2.2.2.1
  have g5 := g.2.2.2.2.1
  have gl := g.2.2.2.2.2.2
  have le' : ∀ (M : Lw) n, L.le.map (· + -p) = some n → ∃ m, L.le = some m ∧ n = m - p := fun M n hn => by
    cases hle : L.le with
    | none =>
      rw [hle] at hn
      cases hn
    | some m =>
      rw [hle] at hn
      have e : m + -p = n := Option.some.inj hn
      exact ⟨m, rfl, by omega⟩
  unfold restL
  by_cases h : L.pl < p
  · obtain ⟨r1, r2⟩ := runE g hC (kept_run hk h)
    rw [if_pos h]
    refine ⟨tail_goodP g.1 (show 0 ≤ p - L.pl by omega) r1, g.2.1, g.2.2.1, ?_, ?_, tail_falls _ _ g.2.2.2.2.2.1, fun n hn => ?_⟩
    · show 0 ≤ p + -p
      omega
    · show p + -p < C
      omega
    · obtain ⟨m, e1, e2⟩ := le' L n hn
      have h1 := r2 m e1
      have h2 := gl m e1
      show p + -p < n ∧ n < C
      omega
  · rw [if_neg h]
    refine ⟨g.1, g.2.1, g.2.2.1, ?_, ?_, g.2.2.2.2.2.1, fun n hn => ?_⟩
    · show 0 ≤ L.pl + -p
      omega
    · show L.pl + -p < C
      omega
    · obtain ⟨m, e1, e2⟩ := le' L n hn
      have h2 := gl m e1
      show L.pl + -p < n ∧ n < C
      omega
/-- of one sort -/
def tb (b : Bool) (L : Lw) (q : Int) : Int := if decide (L.so = 0) = b then thickL L q else 0
def sb (b : Bool) (Ls : List Lw) (q : Int) : Int := (Ls.map fun L => tb b L q).sum
theorem s0_sb (Ls : List Lw) (q : Int) : s0 Ls q = sb true Ls q := by
  unfold s0 sb
  congr 1
  refine List.map_congr_left fun L _ => ?_
  unfold tb
  by_cases h : L.so = 0
  · rw [if_pos h, if_pos (decide_eq_true h)]
  · rw [if_neg h, decide_eq_false h, if_neg (by decide)]
theorem s1_sb (Ls : List Lw) (q : Int) : s1 Ls q = sb false Ls q := by
  unfold s1 sb
  congr 1
  refine List.map_congr_left fun L _ => ?_
  unfold tb
  by_cases h : L.so = 0
  · rw [if_pos h, decide_eq_true h, if_neg (by decide)]
  · rw [if_neg h, if_pos (decide_eq_false h)]
theorem sb_cons (b : Bool) (L : Lw) (Ls : List Lw) (q : Int) : sb b (L :: Ls) q = tb b L q + sb b Ls q := rfl
theorem sb_app (b : Bool) (q : Int) : ∀ (As Bs : List Lw), sb b (As ++ Bs) q = sb b As q + sb b Bs q
  | [], Bs => by
    show sb b Bs q = 0 + sb b Bs q
    omega
  | A :: r, Bs => by
    show sb b (A :: (r ++ Bs)) q = _
    rw [sb_cons, sb_cons, sb_app b q r Bs]
    omega
theorem tb_let (b : Bool) (L : Lw) (p q : Int) : tb b (letL L p) q = if p ≤ q then 0 else tb b L q := by
  show (if decide (L.so = 0) = b then thickL (letL L p) q else 0) = if p ≤ q then 0 else if decide (L.so = 0) = b then thickL L q else 0
  rw [letL_thick]
  (repeat' split) <;> rfl
theorem tb_mov (b : Bool) (L : Lw) (d q : Int) : tb b (movL L d) q = tb b L (q - d) := by
  show (if decide (L.so = 0) = b then thickL (movL L d) q else 0) = if decide (L.so = 0) = b then thickL L (q - d) else 0
  rw [movL_thick]
theorem sb_mov (b : Bool) (d q : Int) : ∀ Ls : List Lw, sb b (Ls.map fun L => movL L d) q = sb b Ls (q - d)
  | [] => rfl
  | L :: r => by
    show sb b (movL L d :: r.map fun L => movL L d) q = _
    rw [sb_cons, sb_cons, tb_mov, sb_mov b d q r]
theorem sb_set (b : Bool) (p q : Int) : ∀ (Ls : List Lw) (n : Nat) (L : Lw), Ls[n]? = some L → sb b (Ls.set n (letL L p)) q = sb b Ls q - if p ≤ q then tb b L q else 0
  | [], n, L, h => by simp at h
  | A :: r, 0, L, h => by
    have e : A = L := Option.some.inj h
    subst e
    show sb b (letL A p :: r) q = _
    rw [sb_cons, sb_cons, tb_let]
    split <;> omega
  | A :: r, n + 1, L, h => by
    have h : r[n]? = some L := h
    show sb b (A :: r.set n (letL L p)) q = _
    rw [sb_cons, sb_cons, sb_set b p q r n L h]
    omega
theorem tb_zero {b : Bool} {L : Lw} {q : Int} (h : thickL L q = 0) : tb b L q = 0 := by
  unfold tb
  rw [h]
  split <;> rfl
theorem thick_before {L : Lw} {q : Int} (h : q < L.pl) : thickL L q = 0 := by
  unfold thickL
  rw [if_pos h]
theorem sb_below (b : Bool) (p q : Int) : ∀ Ls : List Lw, sb b (belowOf p Ls) q = if q < p then sb b Ls q else 0
  | [] => by
    show (0 : Int) = if q < p then 0 else 0
    split <;> rfl
  | L :: r => by
    have ih := sb_below b p q r
    have e : belowOf p (L :: r) = (if L.pl < p then [letL L p] else []) ++ belowOf p r := by
      unfold belowOf
      rw [List.filter_cons]
      by_cases h : L.pl < p
      · rw [if_pos (decide_eq_true h), if_pos h]
        rfl
      · rw [if_neg (by rw [decide_eq_false h]; decide), if_neg h]
        rfl
    rw [e, sb_app, ih, sb_cons]
    by_cases h : L.pl < p
    · rw [if_pos h]
      show tb b (letL L p) q + 0 + _ = _
      rw [tb_let]
      by_cases c : q < p
      · rw [if_neg (by omega), if_pos c, if_pos c]
        omega
      · rw [if_pos (by omega), if_neg c, if_neg c]
        rfl
    · rw [if_neg h]
      show (0 : Int) + _ = _
      by_cases c : q < p
      · rw [if_pos c, if_pos c, tb_zero (thick_before (by omega))]
      · rw [if_neg c, if_neg c]
        rfl
theorem over_thick {C : Int} {L : Lw} (g : GoodE C L) (hC : C ≤ 2 ^ 140) {p q : Int} (h1 : L.pl < p) (h : ¬ 0 < thickL L p) (hq : p ≤ q) : thickL L q = 0 := by
  have gl := g.good hC
  have h2 : lastOf L ≤ p := Classical.byContradiction fun c => h ((thick_runs gl p).mpr ⟨by omega, by omega⟩)
  have h3 := thickL_nonneg gl q
  have h4 : ¬ 0 < thickL L q := fun z => by
    have := (thick_runs gl q).mp z
    omega
  omega
theorem tb_rest (b : Bool) {C p q : Int} {L : Lw} (g : GoodE C L) (hC : C ≤ 2 ^ 140) (q0 : 0 ≤ q) : (if isKept p L = true then tb b (restL p L) q else 0) = tb b L (q + p) := by
  by_cases hk : isKept p L = true
  · rw [if_pos hk]
    unfold restL
    by_cases h : L.pl < p
    · rw [if_pos h, tb_mov]
      have ec := cut_thick (g.good hC) h (q + p)
      rw [letL_thick, if_pos (by omega), Int.zero_add] at ec
      unfold tb
      show (if decide (L.so = 0) = b then thickL (cutL L p) (q - -p) else 0) = _
      rw [show q - -p = q + p by omega, ec]
    · rw [if_neg h, tb_mov, show q - -p = q + p by omega]
  · rw [if_neg hk]
    have hk' : ¬ (p ≤ L.pl) ∧ ¬ 0 < thickL L p := by
      unfold isKept at hk
      rw [Bool.or_eq_true, decide_eq_true_iff, decide_eq_true_iff] at hk
      exact ⟨fun z => hk (.inl z), fun z => hk (.inr z)⟩
    rw [tb_zero (over_thick g hC (by omega) hk'.2 (by omega))]
theorem sb_above (b : Bool) {C p q : Int} (hC : C ≤ 2 ^ 140) (q0 : 0 ≤ q) : ∀ Ls : List Lw, (∀ L ∈ Ls, GoodE C L) → sb b (aboveOf p Ls) q = sb b Ls (q + p)
  | [], _ => rfl
  | L :: r, g => by
    have ih := sb_above b (p := p) hC q0 r fun M hM => g M (List.mem_cons_of_mem _ hM)
    have e : aboveOf p (L :: r) = (if isKept p L = true then [restL p L] else []) ++ aboveOf p r := by
      unfold aboveOf
      rw [List.filter_cons]
      split <;> rfl
    rw [e, sb_app, ih, sb_cons, ← tb_rest b (g L List.mem_cons_self) hC q0]
    split
    · show tb b (restL p L) q + 0 + _ = _
      omega
    · rfl
/-- what a deed makes -/
def Made (way p : Int) (n : Nat) (Ls Ms Ns : List Lw) : Prop :=
  (way = 0 ∧ ∃ L, Ls[n]? = some L ∧ Ns = Ls.set n (letL L p)) ∨ (way = 1 ∧ Ns = Ls ++ Ms.map fun L => movL L p) ∨ (way = 2 ∧ Ns = belowOf p Ls) ∨ (way = 3 ∧ Ns = aboveOf p Ls)
def Sorts (Ls : List Lw) : Prop := ∀ L ∈ Ls, 0 ≤ L.so ∧ L.so ≤ 1
def pairAt (H : Hp) (o : Addr) (Ls : List Lw) (q : Int) : Prop := H o = some (.tup [.int (s0 Ls q), .int (s1 Ls q)])
def spBoth : Sp := fun vs H Q _ => ∃ (a : Addr) (Ls : List Lw) (q : Int), vs = [.ref a, .int q] ∧ StrandAt H a Ls ∧ Ls.length ≤ 60 ∧ Sorts Ls ∧ ∀ H' o, Same H H' → H o = none → pairAt H' o Ls q → Q (.ref o) H'
def spPlace19 : Sp := fun vs H Q _ => ∃ (p l : Addr) (T : Nat) (a : Addr) (Ls : List Lw) (C : Int), vs = [.ref p, .ref a] ∧ PotD H p l T ∧ T < 2 ^ 38 ∧ StrandAt H a Ls ∧ Ls.length ≤ 60 ∧ (∀ L ∈ Ls, GoodE C L) ∧
  ∀ H' m, 0 ≤ m → PotD H' p l (T + 2) → Keep p l H H' → Q (.int m) H'
def spMade : Sp := fun vs H Q _ => ∃ (p l : Addr) (T : Nat) (a b : Addr) (Ls Ms : List Lw) (C : Int), vs = [.ref p, .ref a, .ref b] ∧ PotD H p l T ∧ T < 2 ^ 37 ∧ StrandAt H a Ls ∧ StrandAt H b Ms ∧ Ls.length ≤ 24 ∧ Ms.length ≤ 24 ∧ 2 ^ 131 ≤ C ∧ C ≤ 2 ^ 138 ∧ (∀ L ∈ Ls, GoodE C L) ∧ (∀ L ∈ Ms, GoodE C L) ∧
  ∀ H' o (way d : Int) (n : Nat) m Ns, PotD H' p l (T + 10) → Keep p l H H' → H' o = some (.tup [.int way, .int d, .int n, .ref m]) → StrandAt H' m Ns → Made way d n Ls Ms Ns → Ns.length ≤ 24 → 0 ≤ d → (∀ L ∈ Ns, GoodE (C + 2 ^ 130) L) → Q (.ref o) H'
def spDue19 : Sp := fun vs H Q _ => ∃ (a b : Addr) (Ls Ms Ns : List Lw) (way d q C : Int) (n : Nat), vs = [.ref a, .ref b, .int way, .int d, .int n, .int q] ∧ StrandAt H a Ls ∧ StrandAt H b Ms ∧ Ls.length ≤ 60 ∧ Ms.length ≤ 60 ∧ C ≤ 2 ^ 140 ∧ (∀ L ∈ Ls, GoodE C L) ∧ (∀ L ∈ Ms, GoodE C L) ∧ Made way d n Ls Ms Ns ∧ 0 ≤ q ∧
  ∀ H' o, Same H H' → pairAt H' o Ns q → Q (.ref o) H'
def spTold19 : Sp := fun vs H Q _ => ∃ (a : Addr) (Ls : List Lw) (C : Int), vs = [.ref a] ∧ StrandAt H a Ls ∧ Ls.length ≤ 60 ∧ C ≤ 2 ^ 140 ∧ (∀ L ∈ Ls, GoodE C L) ∧ ∀ H', Same H H' → Q (.bl true) H'
theorem GoodE.sorts {C : Int} {Ls : List Lw} (h : ∀ L ∈ Ls, GoodE C L) : Sorts Ls := fun L hL => ⟨(h L hL).2.1, (h L hL).2.2.1⟩
theorem keyE {C : Int} {Ls : List Lw} (h : ∀ L ∈ Ls, GoodE C L) {k : Int} (hk : BKey Ls 0 k) : 0 ≤ k := by
  rcases hk with rfl | ⟨L, hL, hk⟩
  · exact Int.le_refl _
  · have g := h L hL
    have g4 := g.2.2.2.1
    rcases hk with rfl | hk | ⟨j, hj, rfl⟩
    · exact g4
    · have := g.2.2.2.2.2.2 k hk
      omega
    · have hl := longs_nonneg (ps := L.ps.take (j + 1)) fun x hx => (g.1.2.2 x (List.mem_of_mem_take hx)).2.2.1
      omega
theorem one_sb (b : Bool) (L : Lw) (q : Int) : sb b [L] q = tb b L q := by
  show tb b L q + 0 = _
  omega
theorem due_set {Ls : List Lw} {n : Nat} {L : Lw} {p q : Int} (h : Ls[n]? = some L) : (s0 (Ls.set n (letL L p)) q = s0 Ls q - if p ≤ q then s0 [L] q else 0) ∧ (s1 (Ls.set n (letL L p)) q = s1 Ls q - if p ≤ q then s1 [L] q else 0) := by
  rw [s0_sb, s0_sb, s0_sb, s1_sb, s1_sb, s1_sb, one_sb, one_sb]
  exact ⟨sb_set true p q Ls n L h, sb_set false p q Ls n L h⟩
theorem due_behind (Ls Ms : List Lw) (p q : Int) : (s0 (Ls ++ Ms.map fun L => movL L p) q = s0 Ls q + s0 Ms (q - p)) ∧ (s1 (Ls ++ Ms.map fun L => movL L p) q = s1 Ls q + s1 Ms (q - p)) := by
  rw [s0_sb, s0_sb, s0_sb, s1_sb, s1_sb, s1_sb, sb_app, sb_app, sb_mov, sb_mov]
  exact ⟨rfl, rfl⟩
theorem due_below (Ls : List Lw) (p q : Int) : (s0 (belowOf p Ls) q = if q < p then s0 Ls q else 0) ∧ (s1 (belowOf p Ls) q = if q < p then s1 Ls q else 0) := by
  rw [s0_sb, s0_sb, s1_sb, s1_sb]
  exact ⟨sb_below true p q Ls, sb_below false p q Ls⟩
theorem due_above {C : Int} {Ls : List Lw} (hC : C ≤ 2 ^ 140) (g : ∀ L ∈ Ls, GoodE C L) (p : Int) {q : Int} (q0 : 0 ≤ q) : (s0 (aboveOf p Ls) q = s0 Ls (q + p)) ∧ (s1 (aboveOf p Ls) q = s1 Ls (q + p)) := by
  rw [s0_sb, s0_sb, s1_sb, s1_sb]
  exact ⟨sb_above true hC q0 Ls g, sb_above false hC q0 Ls g⟩
theorem LaidsAt.one {H : Hp} {c : Addr} {L : Lw} (h : LaidAt H c L) : LaidsAt H [c] [L] := LaidsAt.nil.snoc h
def StrE (i : Nat) (H : Hp) (cs : List Addr) : Prop := ∀ c ∈ cs, ∃ Ls, StrandAt H c Ls ∧ Ls.length ≤ 24 ∧ ∀ L ∈ Ls, GoodE (2 ^ 131 + (i : Int) * 2 ^ 130) L
theorem StrE.mono {i : Nat} {H H' : Hp} {cs : List Addr} (h : StrE i H cs) (t : Tups H H') : StrE i H' cs := fun c hc => by
  obtain ⟨Ls, h1, h2, h3⟩ := h c hc
  exact ⟨Ls, h1.mono t, h2, h3⟩
/-! ### strands as rows of parts -/
structure Mo where
  so : Int
  pl : Int
  pts : List (Int × Int × Int)
def moOf (L : Lw) : Mo := ⟨L.so, L.pl, lawParts L.le L.ps L.pl⟩
def shiftR (d : Int) (t : Int × Int × Int) : Int × Int × Int := (t.1 + d, t.2.1 + d, t.2.2)
def movM (d : Int) (m : Mo) : Mo := ⟨m.so, m.pl + d, m.pts.map (shiftR d)⟩
theorem law_shift (le : Option Int) (d : Int) : ∀ (ps : List (Int × Int)) (st : Int), lawParts (le.map (· + d)) ps (st + d) = (lawParts le ps st).map (shiftR d)
  | [], _ => rfl
  | (t, g) :: r, st => by
    have ih := law_shift le d r (st + g)
    have ec : clip (le.map (· + d)) (st + d + g) = clip le (st + g) + d := by
      cases le with
      | none =>
        show st + d + g = st + g + d
        omega
      | some n =>
        show (if n + d < st + d + g then n + d else st + d + g) = (if n < st + g then n else st + g) + d
        split <;> split <;> omega
    show (if st + d < clip (le.map (· + d)) (st + d + g) then [(st + d, clip (le.map (· + d)) (st + d + g), t)] else []) ++ lawParts (le.map (· + d)) r (st + d + g) = ((if st < clip le (st + g) then [(st, clip le (st + g), t)] else []) ++ lawParts le r (st + g)).map (shiftR d)
    rw [ec, show st + d + g = st + g + d by omega, ih, List.map_append]
    by_cases h : st < clip le (st + g)
    · rw [if_pos (by omega), if_pos h]
      rfl
    · rw [if_neg (by omega), if_neg h]
      rfl
theorem mo_mov (L : Lw) (d : Int) : moOf (movL L d) = movM d (moOf L) := by
  show Mo.mk L.so (L.pl + d) (lawParts (L.le.map (· + d)) L.ps (L.pl + d)) = Mo.mk L.so (L.pl + d) ((lawParts L.le L.ps L.pl).map (shiftR d))
  rw [law_shift]
/-- what is within places -/
def within (a : Int) (b : Option Int) : List (Int × Int × Int) → List (Int × Int × Int)
  | [] => []
  | t :: r => (if mxI t.1 a < clip b t.2.1 then [(mxI t.1 a, clip b t.2.1, t.2.2)] else []) ++ within a b r
theorem within_app (a : Int) (b : Option Int) : ∀ xs ys, within a b (xs ++ ys) = within a b xs ++ within a b ys
  | [], ys => rfl
  | t :: r, ys => by
    show (if mxI t.1 a < clip b t.2.1 then [(mxI t.1 a, clip b t.2.1, t.2.2)] else []) ++ within a b (r ++ ys) = _
    rw [within_app a b r ys, ← List.append_assoc]
    rfl
theorem within_len (a : Int) (b : Option Int) : ∀ xs, (within a b xs).length ≤ xs.length
  | [] => Nat.le_refl _
  | t :: r => by
    show ((if mxI t.1 a < clip b t.2.1 then [(mxI t.1 a, clip b t.2.1, t.2.2)] else []) ++ within a b r).length ≤ _
    rw [List.length_append, List.length_cons]
    have := within_len a b r
    split
    · rw [List.length_singleton]
      omega
    · rw [List.length_nil]
      omega
theorem within_cut (le : Option Int) (p : Int) : ∀ (ps : List (Int × Int)) (st : Int), 0 ≤ st → (∀ q ∈ ps, 1 ≤ q.2) → within 0 (some p) (lawParts le ps st) = lawParts (some (lessI le p)) ps st
  | [], _, _, _ => rfl
  | (t, g) :: r, st, h0, hg => by
    have g1 := hg (t, g) List.mem_cons_self
    have g1 : 1 ≤ g := g1
    have ih := within_cut le p r (st + g) (by omega) fun q hq => hg q (List.mem_cons_of_mem _ hq)
    show within 0 (some p) ((if st < clip le (st + g) then [(st, clip le (st + g), t)] else []) ++ lawParts le r (st + g)) = (if st < clip (some (lessI le p)) (st + g) then [(st, clip (some (lessI le p)) (st + g), t)] else []) ++ lawParts (some (lessI le p)) r (st + g)
    rw [within_app, ih]
    have ec : clip (some (lessI le p)) (st + g) = clip (some p) (clip le (st + g)) := by
      cases le with
      | none => rfl
      | some n =>
        show (if (if p < n then p else n) < st + g then (if p < n then p else n) else st + g) = if p < (if n < st + g then n else st + g) then p else (if n < st + g then n else st + g)
        by_cases h1 : p < n <;> by_cases h2 : n < st + g <;> simp only [h1, h2, if_true, if_false] <;> (repeat' split) <;> omega
    have em : mxI st 0 = st := by
      show (if (0 : Int) > st then 0 else st) = st
      split <;> omega
    congr 1
    rw [ec]
    by_cases h : st < clip le (st + g)
    · rw [if_pos h]
      show (if mxI st 0 < clip (some p) (clip le (st + g)) then [(mxI st 0, clip (some p) (clip le (st + g)), t)] else []) ++ [] = _
      rw [List.append_nil, em]
    · rw [if_neg h, if_neg fun h2 => h (Int.lt_of_lt_of_le h2 clip_le)]
      rfl
theorem within_id (le : Option Int) (p : Int) : ∀ (ps : List (Int × Int)) (st : Int), p ≤ st → (∀ q ∈ ps, 1 ≤ q.2) → within p none (lawParts le ps st) = lawParts le ps st
  | [], _, _, _ => rfl
  | (t, g) :: r, st, h0, hg => by
    have g1 : 1 ≤ g := hg (t, g) List.mem_cons_self
    have ih := within_id le p r (st + g) (by omega) fun q hq => hg q (List.mem_cons_of_mem _ hq)
    show within p none ((if st < clip le (st + g) then [(st, clip le (st + g), t)] else []) ++ lawParts le r (st + g)) = (if st < clip le (st + g) then [(st, clip le (st + g), t)] else []) ++ lawParts le r (st + g)
    rw [within_app, ih]
    congr 1
    by_cases h : st < clip le (st + g)
    · rw [if_pos h]
      show (if mxI st p < clip le (st + g) then [(mxI st p, clip le (st + g), t)] else []) ++ [] = _
      have em : mxI st p = st := by
        show (if p > st then p else st) = st
        split <;> omega
      rw [List.append_nil, em, if_pos h]
    · rw [if_neg h]
      rfl
theorem within_rest (le : Option Int) (p : Int) : ∀ (ps : List (Int × Int)) (st : Int), st ≤ p → (∀ q ∈ ps, 1 ≤ q.2) → within p none (lawParts le ps st) = lawParts le (tailOf ps (p - st)) p
  | [], _, _, _ => rfl
  | (t, g) :: r, st, h0, hg => by
    have g1 : 1 ≤ g := hg (t, g) List.mem_cons_self
    have hr : ∀ q ∈ r, 1 ≤ q.2 := fun q hq => hg q (List.mem_cons_of_mem _ hq)
    show within p none ((if st < clip le (st + g) then [(st, clip le (st + g), t)] else []) ++ lawParts le r (st + g)) = lawParts le ((if p - st < g then [(t, g - (if 0 > p - st then 0 else p - st))] else []) ++ tailOf r (p - st - g)) p
    rw [within_app]
    have em : mxI st p = p := by
      show (if p > st then p else st) = p
      split <;> omega
    have h1 : within p none (if st < clip le (st + g) then [(st, clip le (st + g), t)] else []) = if p < clip le (st + g) then [(p, clip le (st + g), t)] else [] := by
      by_cases h : st < clip le (st + g)
      · rw [if_pos h]
        show (if mxI st p < clip le (st + g) then [(mxI st p, clip le (st + g), t)] else []) ++ [] = _
        rw [List.append_nil, em]
      · rw [if_neg h, if_neg (by omega)]
        rfl
    rw [h1]
    by_cases hp : p - st < g
    · rw [if_pos hp, if_neg (show ¬ 0 > p - st by omega), tail_neg r _ (by omega) hr, within_id le p r (st + g) (by omega) hr]
      show _ = (if p < clip le (p + (g - (p - st))) then [(p, clip le (p + (g - (p - st))), t)] else []) ++ lawParts le r (p + (g - (p - st)))
      rw [show p + (g - (p - st)) = st + g by omega]
    · have := clip_le (le := le) (e := st + g)
      rw [if_neg hp, if_neg (by omega), within_rest le p r (st + g) (by omega) hr, show p - (st + g) = p - st - g by omega]
      rfl
theorem tail_pos : ∀ (ps : List (Int × Int)) (k : Int), (∀ q ∈ ps, 1 ≤ q.2) → ∀ q ∈ tailOf ps k, 1 ≤ q.2
  | [], _, _, q, hq => by cases hq
  | (t, g) :: r, k, hg, q, hq => by
    have g1 : 1 ≤ g := hg (t, g) List.mem_cons_self
    rcases List.mem_append.mp (show q ∈ (if k < g then [(t, g - (if 0 > k then 0 else k))] else []) ++ tailOf r (k - g) from hq) with h | h
    · split at h
      · rw [List.mem_singleton.mp h]
        show 1 ≤ g - (if 0 > k then 0 else k)
        split <;> omega
      · cases h
    · exact tail_pos r (k - g) (fun q hq => hg q (List.mem_cons_of_mem _ hq)) q h
theorem law_head {le : Option Int} {p : Int} : ∀ {qs : List (Int × Int)}, (∀ q ∈ qs, 1 ≤ q.2) → lawParts le qs p ≠ [] → ∃ b s r, lawParts le qs p = (p, b, s) :: r
  | [], _, h => absurd rfl h
  | (t, g) :: r, hg, h => by
    have hr : ∀ q ∈ r, 1 ≤ q.2 := fun q hq => hg q (List.mem_cons_of_mem _ hq)
    have g1 : 1 ≤ g := hg (t, g) List.mem_cons_self
    have e : lawParts le ((t, g) :: r) p = (if p < clip le (p + g) then [(p, clip le (p + g), t)] else []) ++ lawParts le r (p + g) := rfl
    by_cases c : p < clip le (p + g)
    · rw [if_pos c] at e
      exact ⟨_, _, _, e⟩
    · rw [if_neg c, List.nil_append] at e
      exfalso
      apply h
      rw [e]
      cases le with
      | none =>
        have c : ¬ p < p + g := c
        omega
      | some n =>
        have c : ¬ p < if n < p + g then n else p + g := c
        refine law_nil r (p + g) hr (.inr ⟨n, rfl, ?_⟩)
        split at c <;> omega
theorem within_ne (p : Int) : ∀ ts : List (Int × Int × Int), within p none ts ≠ [] ↔ ∃ t ∈ ts, mxI t.1 p < t.2.1
  | [] => ⟨fun h => absurd rfl h, fun ⟨t, h, _⟩ => by cases h⟩
  | t :: r => by
    have ih := within_ne p r
    have e : within p none (t :: r) = (if mxI t.1 p < t.2.1 then [(mxI t.1 p, t.2.1, t.2.2)] else []) ++ within p none r := rfl
    rw [e]
    by_cases h : mxI t.1 p < t.2.1
    · rw [if_pos h]
      exact ⟨fun _ => ⟨t, List.mem_cons_self, h⟩, fun _ z => by cases z⟩
    · rw [if_neg h, List.nil_append, ih]
      constructor
      · rintro ⟨x, hx, ex⟩
        exact ⟨x, List.mem_cons_of_mem _ hx, ex⟩
      · rintro ⟨x, hx, ex⟩
        rcases List.mem_cons.mp hx with rfl | hx
        · exact absurd ex h
        · exact ⟨x, hx, ex⟩
theorem law_less {le : Option Int} : ∀ (ps : List (Int × Int)) (st : Int), ∀ t ∈ lawParts le ps st, t.1 < t.2.1
  | [], _, t, h => by cases h
  | (s, g) :: r, st, t, h => by
    rcases List.mem_append.mp (show t ∈ (if st < clip le (st + g) then [(st, clip le (st + g), s)] else []) ++ lawParts le r (st + g) from h) with h | h
    · split at h
      · rename_i c
        rw [List.mem_singleton.mp h]
        exact c
      · cases h
    · exact law_less r (st + g) t h
/-- what is left behind a place is there just where one runs on -/
theorem rest_ne {L : Lw} (g : GoodL L) {p : Int} (h : L.pl ≤ p) : within p none (moOf L).pts ≠ [] ↔ 0 < thickL L p := by
  have hps : ∀ q ∈ L.ps, 1 ≤ q.2 := fun q hq => (g.1.2.2 q hq).2.2.1
  rw [within_ne, thick_runs g]
  constructor
  · rintro ⟨t, ht, h1⟩
    refine ⟨h, ?_⟩
    have ht : t ∈ lawParts L.le L.ps L.pl := ht
    rw [parts_eq L.ps L.pl hps] at ht
    have h2 := parts_le L.ps L.pl hps t ht
    have h3 : (if p > t.1 then p else t.1) < t.2.1 := h1
    show p < clip L.le (L.pl + longs L.ps)
    split at h3 <;> omega
  · rintro ⟨_, h2⟩
    obtain ⟨ys, b, t, e⟩ := law_last (le := L.le) L.ps L.pl (fun e => by
      have h1 := g.1.1
      rw [e] at h1
      exact absurd h1 (by decide)) hps fun n hn => (g.2.2.2.2.2 n hn).1
    have hm : (b, clip L.le (L.pl + longs L.ps), t) ∈ lawParts L.le L.ps L.pl := by
      rw [e]
      exact List.mem_append_right _ (List.mem_singleton.mpr rfl)
    refine ⟨_, hm, ?_⟩
    have h3 := law_less _ _ _ hm
    have h3 : b < clip L.le (L.pl + longs L.ps) := h3
    have h2 : p < clip L.le (L.pl + longs L.ps) := h2
    show (if p > b then p else b) < clip L.le (L.pl + longs L.ps)
    split <;> omega
theorem mo_let {L : Lw} (g : GoodL L) (p : Int) : Mo.mk L.so L.pl (within 0 (some p) (moOf L).pts) = moOf (letL L p) := by
  show _ = Mo.mk L.so L.pl (lawParts (some (lessI L.le p)) L.ps L.pl)
  rw [← within_cut L.le p L.ps L.pl g.2.2.2.1 fun q hq => (g.1.2.2 q hq).2.2.1]
  rfl
theorem mo_cut {L : Lw} (g : GoodL L) {p : Int} (h : L.pl ≤ p) : Mo.mk L.so p (within p none (moOf L).pts) = moOf (cutL L p) := by
  show _ = Mo.mk L.so p (lawParts L.le (tailOf L.ps (p - L.pl)) p)
  rw [← within_rest L.le p L.ps L.pl h fun q hq => (g.1.2.2 q hq).2.2.1]
  rfl
/-! ### things at addresses, one by one -/
def Each {α : Type} (φ : Addr → α → Prop) (as : List Addr) (xs : List α) : Prop := as.length = xs.length ∧ ∀ (i : Nat) (a : Addr) (x : α), as[i]? = some a → xs[i]? = some x → φ a x
section
variable {α : Type} {φ ψ : Addr → α → Prop}
theorem Each.mono {as : List Addr} {xs : List α} (h : Each φ as xs) (f : ∀ a x, φ a x → ψ a x) : Each ψ as xs := ⟨h.1, fun i a x h1 h2 => f a x (h.2 i a x h1 h2)⟩
theorem Each.nil : Each φ [] [] := ⟨rfl, fun i a x h => by cases h⟩
theorem Each.app {as bs : List Addr} {xs ys : List α} (h : Each φ as xs) (g : Each φ bs ys) : Each φ (as ++ bs) (xs ++ ys) := by
  refine ⟨by rw [List.length_append, List.length_append, h.1, g.1], fun i a x e1 e2 => ?_⟩
  by_cases c : i < as.length
  · rw [List.getElem?_append_left c] at e1
    rw [List.getElem?_append_left (by rw [← h.1]; exact c)] at e2
    exact h.2 i a x e1 e2
  · rw [List.getElem?_append_right (by omega)] at e1
    rw [List.getElem?_append_right (by rw [← h.1]; omega), ← h.1] at e2
    exact g.2 _ a x e1 e2
theorem Each.one {a : Addr} {x : α} (h : φ a x) : Each φ [a] [x] := ⟨rfl, fun i b y e1 e2 => by
  cases i with
  | zero =>
    cases e1
    cases e2
    exact h
  | succ i => cases e1⟩
theorem Each.snoc {as : List Addr} {xs : List α} {a : Addr} {x : α} (h : Each φ as xs) (e : φ a x) : Each φ (as ++ [a]) (xs ++ [x]) := h.app (Each.one e)
theorem Each.take {as : List Addr} {xs : List α} (h : Each φ as xs) (n : Nat) : Each φ (as.take n) (xs.take n) := by
  refine ⟨by rw [List.length_take, List.length_take, h.1], fun i a x e1 e2 => ?_⟩
  rw [List.getElem?_take] at e1 e2
  split at e1
  · next c =>
    rw [if_pos c] at e2
    exact h.2 i a x e1 e2
  · cases e1
theorem Each.drop {as : List Addr} {xs : List α} (h : Each φ as xs) (n : Nat) : Each φ (as.drop n) (xs.drop n) := by
  refine ⟨by rw [List.length_drop, List.length_drop, h.1], fun i a x e1 e2 => ?_⟩
  rw [List.getElem?_drop] at e1 e2
  exact h.2 _ a x e1 e2
theorem Each.get {as : List Addr} {xs : List α} (h : Each φ as xs) {i : Nat} {v : V} (e : (as.map V.ref)[i]? = some v) : ∃ a x, v = .ref a ∧ as[i]? = some a ∧ xs[i]? = some x ∧ φ a x := by
  obtain ⟨a, rfl, ea⟩ := ref_get e
  have hi := (List.getElem?_eq_some_iff.mp ea).1
  have ex : xs[i]? = some (xs[i]'(by rw [← h.1]; exact hi)) := List.getElem?_eq_getElem _
  exact ⟨a, _, rfl, ea, ex, h.2 i a _ ea ex⟩
end
/-- what is kept but at some addresses -/
def KX (X : List Addr) (H H' : Hp) : Prop := Tups H H' ∧ ∀ z o, z ∉ X → H z = some o → H' z = some o
def Ext (X : List Addr) (H : Hp) : Prop := ∀ x ∈ X, H x ≠ none
theorem KX.same {X : List Addr} {H H' : Hp} (s : Same H H') : KX X H H' := ⟨Tups.same s, fun z o _ e => s _ _ e⟩
theorem KX.keep {p l : Addr} {H H' : Hp} {T : Nat} (k : Keep p l H H') (hp : Pot H p l T) : KX [p, l] H H' := ⟨k.tups hp, fun z o n e => k z o (fun h => n (h ▸ List.mem_cons_self)) (fun h => n (h ▸ List.mem_cons_of_mem _ List.mem_cons_self)) e⟩
theorem KX.put {X : List Addr} {H : Hp} {D : Addr} {xs : List V} {o : HO} (e : H D = some (.lst xs)) : KX (D :: X) H (upd H D o) := ⟨Tups.ls e, fun z u n h => (upd_ne fun c : z = D => n (by rw [c]; exact List.mem_cons_self)).trans h⟩
theorem KX.trans {X : List Addr} {H H1 H2 : Hp} (a : KX X H H1) (b : KX X H1 H2) : KX X H H2 := ⟨a.1.trans b.1, fun z o n e => b.2 z o n (a.2 z o n e)⟩
theorem Ext.same {X : List Addr} {H H' : Hp} (h : Ext X H) (s : Same H H') : Ext X H' := fun x hx e => by
  cases q : H x with
  | none => exact h x hx q
  | some o =>
    rw [s _ _ q] at e
    cases e
theorem Ext.cons {X : List Addr} {H : Hp} {D : Addr} {o : HO} (h : Ext X H) (e : H D = some o) : Ext (D :: X) H := fun x hx => by
  rcases List.mem_cons.mp hx with rfl | hx
  · rw [e]
    exact Option.some_ne_none _
  · exact h x hx
theorem Ext.pot {p l : Addr} {H : Hp} {T : Nat} (hp : Pot H p l T) : Ext [p, l] H := fun x hx e => by
  obtain ⟨n1, n2⟩ := hp.fresh e
  simp only [List.mem_cons, List.not_mem_nil, or_false] at hx
  rcases hx with h | h
  · exact n1 h
  · exact n2 h
theorem Ext.fresh {X : List Addr} {H : Hp} {a : Addr} (h : Ext X H) (n : H a = none) : a ∉ X := fun hx => h a hx n
theorem Ext.put {X : List Addr} {H : Hp} {D : Addr} {o : HO} (h : Ext X H) : Ext X (upd H D o) := fun x hx => by
  by_cases c : x = D
  · rw [c, upd_same]
    exact Option.some_ne_none _
  · rw [upd_ne c]
    exact h x hx
/-- a row of parts, none of whose objects is among some -/
def MoAt (X : List Addr) (H : Hp) (a : Addr) (m : Mo) : Prop := a ∉ X ∧ ∃ t, H a = some (.tup [.int m.so, .int m.pl, .ref t]) ∧ TableAt H t m.pts ∧ t ∉ X
def ModAt (X : List Addr) (H : Hp) (a : Addr) (ms : List Mo) : Prop := a ∉ X ∧ ∃ as, H a = some (.lst (as.map V.ref)) ∧ Each (MoAt X H) as ms
theorem TableAt.kx {X : List Addr} {t : Addr} {H H' : Hp} {ts : List (Int × Int × Int)} (h : TableAt H t ts) (n : t ∉ X) (k : KX X H H') : TableAt H' t ts := by
  obtain ⟨as, e1, e2⟩ := h
  exact ⟨as, k.2 _ _ n e1, e2.mono k.1⟩
theorem MoAt.kx {X : List Addr} {a : Addr} {H H' : Hp} {m : Mo} (h : MoAt X H a m) (k : KX X H H') : MoAt X H' a m := by
  obtain ⟨n1, t, e1, e2, n3⟩ := h
  exact ⟨n1, t, k.2 _ _ n1 e1, e2.kx n3 k, n3⟩
theorem ModAt.kx {X : List Addr} {a : Addr} {H H' : Hp} {ms : List Mo} (h : ModAt X H a ms) (k : KX X H H') : ModAt X H' a ms := by
  obtain ⟨n1, as, e1, e2⟩ := h
  exact ⟨n1, as, k.2 _ _ n1 e1, e2.mono fun a m h => h.kx k⟩
theorem MoAt.out {X : List Addr} {D a : Addr} {H : Hp} {m : Mo} (h : MoAt (D :: X) H a m) : MoAt X H a m := by
  obtain ⟨n1, t, e1, e2, n3⟩ := h
  exact ⟨fun c => n1 (List.mem_cons_of_mem _ c), t, e1, e2, fun c => n3 (List.mem_cons_of_mem _ c)⟩
/-- what was there ahead of a list is apart from it -/
theorem MoAt.inn {X : List Addr} {D a : Addr} {H : Hp} {m : Mo} (h : MoAt X H a m) (n : H D = none) : MoAt (D :: X) H a m := by
  obtain ⟨n1, t, e1, e2, n3⟩ := h
  refine ⟨fun c => ?_, t, e1, e2, fun c => ?_⟩
  · rcases List.mem_cons.mp c with rfl | c
    · rw [n] at e1
      cases e1
    · exact n1 c
  · rcases List.mem_cons.mp c with rfl | c
    · obtain ⟨_, e, _⟩ := e2
      rw [n] at e
      cases e
    · exact n3 c
theorem MoAt.same {X : List Addr} {a : Addr} {H H' : Hp} {m : Mo} (h : MoAt X H a m) (s : Same H H') : MoAt X H' a m := h.kx (KX.same s)
theorem ModAt.same {X : List Addr} {a : Addr} {H H' : Hp} {ms : List Mo} (h : ModAt X H a ms) (s : Same H H') : ModAt X H' a ms := h.kx (KX.same s)
/-- a list of rows that grows -/
def Grow (X : List Addr) (H : Hp) (D : Addr) (ms : List Mo) : Prop := D ∉ X ∧ ∃ cs, H D = some (.lst (cs.map V.ref)) ∧ Each (MoAt (D :: X) H) cs ms
theorem Grow.nil {X : List Addr} {H : Hp} {D : Addr} (n : D ∉ X) : Grow X (upd H D (.lst [])) D [] := ⟨n, [], upd_same, Each.nil⟩
theorem Grow.same {X : List Addr} {H H' : Hp} {D : Addr} {ms : List Mo} (h : Grow X H D ms) (s : Same H H') : Grow X H' D ms := by
  obtain ⟨n, cs, e1, e2⟩ := h
  exact ⟨n, cs, s _ _ e1, e2.mono fun a m h => h.same s⟩
theorem Grow.snoc {X : List Addr} {H : Hp} {D z : Addr} {ms : List Mo} {m : Mo} {cs : List Addr} (h : Grow X H D ms) (e : H D = some (.lst (cs.map V.ref))) (hm : MoAt (D :: X) H z m) : Grow X (upd H D (.lst (cs.map V.ref ++ [.ref z]))) D (ms ++ [m]) := by
  obtain ⟨n, cs', e1, e2⟩ := h
  rw [e] at e1
  have ec : cs = cs' := by
    have h := Option.some.inj e1
    injection h with h
    exact (List.map_inj_right fun a b h => by injection h).mp h
  subst ec
  have k : KX (D :: X) H (upd H D (.lst (cs.map V.ref ++ [.ref z]))) := KX.put e
  exact ⟨n, cs ++ [z], by rw [upd_same, List.map_append]; rfl, (e2.mono fun a m h => h.kx k).snoc (hm.kx k)⟩
theorem Grow.at {X : List Addr} {H : Hp} {D : Addr} {ms : List Mo} (h : Grow X H D ms) : ∃ cs : List Addr, H D = some (.lst (cs.map V.ref)) ∧ cs.length = ms.length := by
  obtain ⟨n, cs, e1, e2⟩ := h
  exact ⟨cs, e1, e2.1⟩
theorem Grow.mod {X : List Addr} {H : Hp} {D : Addr} {ms : List Mo} (h : Grow X H D ms) : ModAt X H D ms := by
  obtain ⟨n, cs, e1, e2⟩ := h
  exact ⟨n, cs, e1, e2.mono fun a m h => h.out⟩
def spLawPartsF : Sp := fun vs H Q _ => ∃ (a : Addr) (Ls : List Lw), vs = [.ref a] ∧ StrandAt H a Ls ∧ Ls.length ≤ 60 ∧ (∀ L ∈ Ls, GoodL L) ∧ ∀ (H' : Hp) (o : Addr) (bs : List Addr), Same H H' → H o = none → H' o = some (.lst (bs.map V.ref)) → (∀ b ∈ bs, H b = none) → LPartsAt H' bs Ls → Q (.ref o) H'
def spModel : Sp := fun vs H Q _ => ∃ (X : List Addr) (a : Addr) (Ls : List Lw), vs = [.ref a] ∧ Ext X H ∧ StrandAt H a Ls ∧ Ls.length ≤ 60 ∧ (∀ L ∈ Ls, GoodL L) ∧ ∀ (H' : Hp) (o : Addr), Same H H' → ModAt X H' o (Ls.map moOf) → Q (.ref o) H'
def spWithin : Sp := fun vs H Q _ => ∃ (X : List Addr) (t : Addr) (ts : List (Int × Int × Int)) (a : Int) (b : Option Int), vs = [.ref t, .int a, letV b] ∧ Ext X H ∧ TableAt H t ts ∧ ts.length ≤ 20 ∧
  ∀ (H' : Hp) (o : Addr), Same H H' → o ∉ X → TableAt H' o (within a b ts) → Q (.ref o) H'
def spMovedM : Sp := fun vs H Q _ => ∃ (X : List Addr) (a : Addr) (m : Mo) (d : Int) (t : Addr), vs = [.ref a, .int d] ∧ Ext X H ∧ H a = some (.tup [.int m.so, .int m.pl, .ref t]) ∧ TableAt H t m.pts ∧ m.pts.length ≤ 20 ∧ ∀ (H' : Hp) (o : Addr), Same H H' → MoAt X H' o (movM d m) → Q (.ref o) H'
def spModelFrom : Sp := fun vs H Q _ => ∃ (X : List Addr) (a : Addr) (Ls : List Lw) (x : Int), vs = [.ref a, .int x] ∧ Ext X H ∧ ModAt X H a (Ls.map moOf) ∧ Ls.length ≤ 60 ∧ (∀ L ∈ Ls, GoodL L) ∧ ∀ (H' : Hp) (o : Addr), Same H H' → ModAt X H' o ((aboveOf x Ls).map moOf) → Q (.ref o) H'
def spAtM : Sp := fun vs H Q _ => ∃ (X : List Addr) (a : Addr) (Ls : List Lw) (x : Int), vs = [.ref a, .int x] ∧ ModAt X H a (Ls.map moOf) ∧ Ls.length ≤ 60 ∧ (∀ L ∈ Ls, GoodL L) ∧
  ∀ (H' : Hp) (r t1 t2 : Addr), Same H H' → H' r = some (.tup [.ref t1, .ref t2]) → H' t1 = some (.tup ((numsFrom 0 (Ls.map fun L => thickL L x)).map V.int)) → H' t2 = some (.tup [.int (s0 Ls x), .int (s1 Ls x)]) → Q (.ref r) H'
def spBordersM : Sp := fun vs H Q _ => ∃ (X : List Addr) (a : Addr) (Ls : List Lw), vs = [.ref a] ∧ ModAt X H a (Ls.map moOf) ∧ Ls.length ≤ 60 ∧ (∀ L ∈ Ls, GoodL L) ∧
  ∀ (H' : Hp) (o : Addr) (ys : List Int), Same H H' → H o = none → H' o = some (.lst (ys.map V.int)) → Places Ls ys → Q (.ref o) H'
def spSpotM : Sp := fun vs H Q _ => ∃ (p l a : Addr) (T : Nat) (Ls : List Lw) (least C : Int), vs = [.ref p, .ref a, .int least] ∧ Pot H p l T ∧ T < 2 ^ 37 ∧ ModAt [p, l] H a (Ls.map moOf) ∧ Ls.length ≤ 60 ∧ 2 ^ 126 ≤ C ∧ C ≤ 2 ^ 139 ∧ (∀ L ∈ Ls, GoodE C L) ∧ least ≤ C ∧
  ∀ (H' : Hp) (n : Int), Pot H' p l (T + 4) → Keep p l H H' → least ≤ n → n ≤ C + 2 ^ 129 → Q (.int n) H'
theorem law_len10 {L : Lw} (g : GoodL L) : (lawParts L.le L.ps L.pl).length ≤ 10 := Nat.le_trans (law_len L.ps L.pl) g.1.2.1
theorem longs_leB {B : Int} : ∀ {ps : List (Int × Int)}, (∀ x ∈ ps, x.2 ≤ B) → longs ps ≤ ps.length * B
  | [], _ => by
    show (0 : Int) ≤ ((0 : Nat) : Int) * B
    rw [Int.natCast_zero, Int.zero_mul]
    exact Int.le_refl _
  | x :: r, h => by
    have h1 := h x List.mem_cons_self
    have h2 := longs_leB (ps := r) fun y hy => h y (List.mem_cons_of_mem _ hy)
    rw [longs_cons, List.length_cons, Int.natCast_add, Int.add_mul]
    simp only [Int.natCast_one, Int.one_mul]
    omega
theorem longsP {ps : List (Int × Int)} (g : GoodP ps) : longs ps < 2 ^ 129 := by
  have h := longs_leB (B := 2 ^ 126 - 1) fun x (hx : x ∈ ps) => by
    have := (g.2.2 x hx).2.2.2
    omega
  have h8 := g.2.1
  have h9 : (ps.length : Int) * (2 ^ 126 - 1) ≤ 8 * (2 ^ 126 - 1) := Int.mul_le_mul_of_nonneg_right (by omega) (by decide)
  have h10 : (8 : Int) * (2 ^ 126 - 1) < 2 ^ 129 := by decide
  omega
/-- no place lies far behind -/
theorem keysE {C : Int} {Ls : List Lw} (hC : 2 ^ 126 ≤ C) (g : ∀ L ∈ Ls, GoodE C L) {k : Int} (h : Keys Ls k) : k < C + 2 ^ 129 := by
  rcases h with rfl | ⟨L, hL, y, hy, h⟩
  · omega
  · have gL := g L hL
    have hps : ∀ q ∈ L.ps, 1 ≤ q.2 := fun q hq => (gL.1.2.2 q hq).2.2.1
    rw [← parts_eq L.ps L.pl hps] at hy
    have h1 := law_mem L.ps L.pl hps y hy
    have h2 := longsP gL.1
    have h3 := gL.2.2.2.2.1
    rcases h with h | h <;> omega
def spWispP : Sp := fun vs H Q _ => ∃ (p l : Addr) (T : Nat) (most : Int) (small : Bool), vs = [.ref p, .int most, .bl small] ∧ Pot H p l T ∧ T < 2 ^ 38 ∧ 1 ≤ most ∧ most ≤ 8 ∧
  ∀ H' a s ps, Pot H' p l (T + 150) → Keep p l H H' → WispAt H' a s ps → 0 ≤ s → s ≤ 1 → GoodP ps → (ps.length : Int) ≤ most → Falls ps → (small = true → Small ps) → H a = none → Q (.ref a) H'
def spStrandP : Sp := fun vs H Q _ => ∃ (p l : Addr) (T : Nat) (most : Int) (small : Bool), vs = [.ref p, .int most, .bl small] ∧ Pot H p l T ∧ T < 2 ^ 37 ∧ most = 8 ∧
  ∀ H' a Ls, Pot H' p l (T + 20000) → Keep p l H H' → StrandAt H' a Ls → Ls.length ≤ 8 → (∀ L ∈ Ls, GoodE (2 ^ 126) L) → Q (.ref a) H'
def rowD (t : Int × Int × Int) : PyData := .tuple [.int t.1, .int t.2.1, .int t.2.2]
theorem rows_dp {K : PySem.W.Frag} {H : Hp} : ∀ {as : List Addr} {ts : List (Int × Int × Int)}, TupsAt H as (ts.map rowV) → DpAll K H (as.map V.ref) (ts.map rowD)
  | [], [], _ => .nil
  | [], t :: r, h => absurd h.1 (by simp)
  | a :: r, [], h => absurd h.1 (by simp)
  | a :: as, t :: ts, h => by
    obtain ⟨xs, h1, h2⟩ := h.2 0 a rfl
    have e : rowV t = xs := Option.some.inj h1
    subst e
    exact .cons (.tup (SqT.of h2) (.cons (.int _) (.cons (.int _) (.cons (.int _) .nil)))) (rows_dp ⟨Nat.succ.inj (by simpa using h.1), fun i b hb => h.2 (i + 1) b hb⟩)
theorem rows_shaped (ts : List (Int × Int × Int)) : SeqAt.shaped (.list (ts.map rowD)) = true := by
  refine Bool.and_eq_true_iff.mpr ⟨can_all fun x hx => ?_, decide_eq_true (Nat.le_trans (Nat.succ_le_succ (depth_all (n := 1) fun x hx => ?_)) (by decide))⟩
  · obtain ⟨t, _, rfl⟩ := List.mem_map.mp hx
    rfl
  · obtain ⟨t, _, rfl⟩ := List.mem_map.mp hx
    exact Nat.le_refl _
theorem eq_nilL (ds : List PyData) : PyData.eqv (.list ds) (.list []) = ds.isEmpty := by
  cases ds with
  | nil => rfl
  | cons x r => rfl
def spRight73 : Sp := fun vs H Q _ => ∃ (p l : Addr) (T : Nat) (a m : Addr) (Ls : List Lw) (C : Int), vs = [.ref p, .ref a, .ref m] ∧ Pot H p l T ∧ T < 2 ^ 36 ∧ StrandAt H a Ls ∧ ModAt [p, l] H m (Ls.map moOf) ∧ Ls.length ≤ 60 ∧ 2 ^ 126 ≤ C ∧ C ≤ 2 ^ 139 ∧ (∀ L ∈ Ls, GoodE C L) ∧
  ∀ H', Pot H' p l (T + 24) → Keep p l H H' → Q (.bl true) H'
theorem chain_weigh {Ls : List Lw} : ∀ (r : List Int) (y z : Int), (y :: r).Pairwise (· < ·) → (∀ p ∈ pairs (y :: r), WL p.1 p.2 Ls = (p.2 - p.1) * thickS Ls p.1) → (y :: r).getLast? = some z → ((pairs (y :: r)).map fun p => (p.2 - p.1) * thickS Ls p.1).sum = WL y z Ls ∧ y ≤ z
  | [], y, z, _, _, h => by
    have e : y = z := Option.some.inj h
    subst e
    exact ⟨(WL_same y Ls).symm, Int.le_refl _⟩
  | x :: r, y, z, hs, hw, h => by
    have e : pairs (y :: x :: r) = (y, x) :: pairs (x :: r) := rfl
    rw [e] at hw ⊢
    have hyx := (List.pairwise_cons.mp hs).1 x List.mem_cons_self
    obtain ⟨ih, hxz⟩ := chain_weigh r x z (List.pairwise_cons.mp hs).2 (fun p hp => hw p (List.mem_cons_of_mem _ hp)) (by rw [← h]; rfl)
    refine ⟨?_, by omega⟩
    rw [List.map_cons, List.sum_cons, ih, ← hw (y, x) List.mem_cons_self, WL_add (by omega) hxz]
theorem places_weigh {Ls : List Lw} (g : ∀ L ∈ Ls, GoodL L) {ys : List Int} (hp : Places Ls ys) {z : Int} (hz : ys.getLast? = some z) : ((pairs ys).map fun p => (p.2 - p.1) * thickS Ls p.1).sum = WL 0 z Ls := by
  obtain ⟨r, er⟩ := places_zero g hp
  have hw : ∀ p ∈ pairs ys, WL p.1 p.2 Ls = (p.2 - p.1) * thickS Ls p.1 := fun p hpm => by
    obtain ⟨i, hi, e⟩ := List.getElem_of_mem hpm
    have e2 : (pairs ys)[i]? = some (p.1, p.2) := by
      rw [List.getElem?_eq_getElem hi, e]
    obtain ⟨h0, h1, h2⟩ := pair_gap g hp e2
    exact seg_weighs g hp h1 h2
  subst er
  exact (chain_weigh r 0 z hp.1 hw hz).1
theorem atI_lastI {ys : List Int} {z : Int} (h : ys.getLast? = some z) : atI (ys.map V.int) (-1) = some (.int z) := by
  obtain ⟨r, rfl⟩ := List.getLast?_eq_some_iff.mp h
  rw [List.map_append]
  exact atI_last _ _
theorem segs_len {Ls : List Lw} {as : List Addr} {ps : List (Int × Int)} {H : Hp} (h : SegsAt H as Ls ps) : as.length = ps.length := h.1
theorem GoodE.movB {C d : Int} {L : Lw} (h : GoodE C L) (d0 : 0 ≤ d) : GoodE (C + d) (movL L d) := by
  have h4 := h.2.2.2.1
  have h5 := h.2.2.2.2.1
  refine ⟨h.1, h.2.1, h.2.2.1, ?_, ?_, h.2.2.2.2.2.1, fun n hn => ?_⟩
  · show 0 ≤ L.pl + d
    omega
  · show L.pl + d < C + d
    omega
  · have hn : L.le.map (· + d) = some n := hn
    show L.pl + d < n ∧ n < C + d
    cases hle : L.le with
    | none =>
      rw [hle] at hn
      cases hn
    | some m =>
      rw [hle] at hn
      have e : m + d = n := Option.some.inj hn
      have := h.2.2.2.2.2.2 m hle
      omega
theorem goodE_below {C D p : Int} {Ls : List Lw} (g : ∀ L ∈ Ls, GoodE C L) (hC : C ≤ D) (hp : p < D) : ∀ L ∈ belowOf p Ls, GoodE D L := fun L hL => by
  obtain ⟨M, hM, rfl⟩ := List.mem_map.mp hL
  obtain ⟨h1, h2⟩ := List.mem_filter.mp hM
  exact (g M h1).let hC (of_decide_eq_true h2) hp
theorem goodE_above {C p : Int} {Ls : List Lw} (g : ∀ L ∈ Ls, GoodE C L) (hC : C ≤ 2 ^ 140) (p0 : 0 ≤ p) : ∀ L ∈ aboveOf p Ls, GoodE C L := fun L hL => by
  obtain ⟨M, hM, rfl⟩ := List.mem_map.mp hL
  obtain ⟨h1, h2⟩ := List.mem_filter.mp hM
  exact (g M h1).rest hC p0 h2
theorem sb_neg (b : Bool) {q : Int} (hq : q < 0) : ∀ {Ls : List Lw}, (∀ L ∈ Ls, 0 ≤ L.pl) → sb b Ls q = 0
  | [], _ => rfl
  | L :: r, h => by
    have := h L List.mem_cons_self
    rw [sb_cons, sb_neg b hq fun M hM => h M (List.mem_cons_of_mem _ hM), tb_zero (thick_before (by omega))]
    rfl
/-- cut off and from on, one behind the other -/
def wholeOf (p : Int) (Ls : List Lw) : List Lw := belowOf p Ls ++ (aboveOf p Ls).map fun L => movL L p
theorem whole_sorts {C p q : Int} {Ls : List Lw} (g : ∀ L ∈ Ls, GoodE C L) (hC : C ≤ 2 ^ 140) (p0 : 0 ≤ p) (q0 : 0 ≤ q) : s0 (wholeOf p Ls) q = s0 Ls q ∧ s1 (wholeOf p Ls) q = s1 Ls q := by
  obtain ⟨h1, h2⟩ := due_behind (belowOf p Ls) (aboveOf p Ls) p q
  obtain ⟨h3, h4⟩ := due_below Ls p q
  unfold wholeOf
  rw [h1, h2, h3, h4]
  by_cases c : q < p
  · have hz : ∀ L ∈ aboveOf p Ls, 0 ≤ L.pl := fun L hL => (goodE_above g hC p0 L hL).2.2.2.1
    rw [if_pos c, if_pos c, s0_sb (aboveOf p Ls), s1_sb (aboveOf p Ls), sb_neg true (by omega) hz, sb_neg false (by omega) hz]
    omega
  · obtain ⟨h5, h6⟩ := due_above hC g p (q := q - p) (by omega)
    rw [if_neg c, if_neg c, h5, h6, show q - p + p = q by omega]
    omega
theorem goodE_whole {C D p : Int} {Ls : List Lw} (g : ∀ L ∈ Ls, GoodE C L) (hC : C ≤ 2 ^ 140) (p0 : 0 ≤ p) (hD : C + p < D) : ∀ L ∈ wholeOf p Ls, GoodE D L := fun L hL => by
  rcases List.mem_append.mp hL with h | h
  · by_cases hn : Ls = []
    · subst hn
      cases h
    · have : 0 < C := by
        obtain ⟨M, hM⟩ := List.exists_mem_of_ne_nil _ hn
        have := g M hM
        have := this.2.2.2
        omega
      exact goodE_below g (by omega) (by omega) L h
  · obtain ⟨M, hM, rfl⟩ := List.mem_map.mp h
    exact ((goodE_above g hC p0 M hM).movB p0).up (by omega)
theorem thick_some : ∀ {Ls : List Lw} {q : Int}, (∀ L ∈ Ls, GoodL L) → (0 < thickS Ls q ↔ ∃ L ∈ Ls, 0 < thickL L q)
  | [], q, _ => ⟨fun h => absurd h (by show ¬ (0 : Int) < 0; omega), fun ⟨L, hL, _⟩ => by cases hL⟩
  | L :: r, q, g => by
    have ih := thick_some (q := q) fun M hM => g M (List.mem_cons_of_mem _ hM)
    have h1 := thickL_nonneg (g L List.mem_cons_self) q
    have h2 := (thickS_bd (p := q) fun M hM => g M (List.mem_cons_of_mem _ hM)).1
    have e : thickS (L :: r) q = thickL L q + thickS r q := rfl
    rw [e]
    constructor
    · intro h
      by_cases c : 0 < thickL L q
      · exact ⟨L, List.mem_cons_self, c⟩
      · obtain ⟨M, hM, hm⟩ := ih.mp (by omega)
        exact ⟨M, List.mem_cons_of_mem _ hM, hm⟩
    · rintro ⟨M, hM, hm⟩
      rcases List.mem_cons.mp hM with rfl | hM
      · omega
      · have := ih.mpr ⟨M, hM, hm⟩
        omega
theorem end_mono {As Bs : List Lw} (ga : ∀ L ∈ As, GoodL L) (gb : ∀ L ∈ Bs, GoodL L) (h : ∀ q, 0 ≤ q → thickS As q = thickS Bs q) {m n : Int} (hm : IsEnd As m) (hn : IsEnd Bs n) : m ≤ n := by
  have n0 : 0 ≤ n := by
    by_cases c : Bs = []
    · rw [hn.1 c]
      exact Int.le_refl _
    · obtain ⟨L, hL, e⟩ := hn.2.1 c
      have := last_gt (gb L hL)
      have := (gb L hL).2.2.2.1
      omega
  by_cases c : As = []
  · rw [hm.1 c]
    exact n0
  · obtain ⟨L, hL, e⟩ := hm.2.1 c
    have h1 := last_gt (ga L hL)
    have h2 := (ga L hL).2.2.2.1
    have h3 := (thick_runs (ga L hL) (m - 1)).mpr ⟨by omega, by omega⟩
    have h4 := (thick_some ga).mpr ⟨L, hL, h3⟩
    rw [h _ (by omega)] at h4
    obtain ⟨B, hB, h5⟩ := (thick_some gb).mp h4
    have h6 := ((thick_runs (gb B hB) (m - 1)).mp h5).2
    have h7 := hn.2.2 B hB
    omega
def spAgain73 : Sp := fun vs H Q _ => ∃ (X : List Addr) (a m : Addr) (Ls : List Lw) (x C : Int), vs = [.ref a, .ref m, .int x] ∧ StrandAt H a Ls ∧ ModAt X H m (Ls.map moOf) ∧ Ls.length ≤ 30 ∧ C ≤ 2 ^ 137 ∧ (∀ L ∈ Ls, GoodE C L) ∧ 0 ≤ x ∧ x ≤ 2 ^ 138 ∧
  ∀ H', Same H H' → Q (.bl true) H'
def spDone73 : Sp := fun vs H Q _ => ∃ (p l : Addr) (T : Nat) (a m : Addr) (Ls : List Lw) (C : Int) (small : Bool), vs = [.ref p, .ref a, .ref m, .bl small] ∧ Pot H p l T ∧ T < 2 ^ 36 ∧ StrandAt H a Ls ∧ ModAt [p, l] H m (Ls.map moOf) ∧ Ls.length ≤ 52 ∧ 2 ^ 130 ≤ C ∧ C ≤ 2 ^ 136 ∧ (∀ L ∈ Ls, GoodE C L) ∧
  ∀ (H' : Hp) (r a' m' : Addr) (Ms : List Lw), Pot H' p l (T + 20100) → Keep p l H H' → H' r = some (.tup [.ref a', .ref m']) → StrandAt H' a' Ms → ModAt [p, l] H' m' (Ms.map moOf) → Ms.length ≤ Ls.length + 8 → (∀ L ∈ Ms, GoodE (2 * C) L) → Q (.ref r) H'
section
variable {P : Program} {w : World} {K : PySem.W.Frag} {mg : Str → Option Value} {base : Heap}
theorem ok_is_whole {f : Addr} {fd : FuncData} {k : Nat} (F : Fun K "is_whole" "is_whole" s_is_whole f fd) (bi : Bi mg) : FnOk P w K mg base CX0 (k + 1) f fd P_is_whole spIsWhole := by
  refine F.ok sc_is_whole (fun vs H Q E h => ?_) (fun cdv A outer s H vs Q E hr h => ?_)
  · obtain ⟨i, n, rfl, _⟩ := h
    rfl
  · obtain ⟨i, n, rfl, q⟩ := h
    refine ⟨_, (pss_one (ps_ret (pe_and (pe_callB call_isi (by rfl) bi.m_isinstance (by decide +kernel) (pa_cons (pv 0) (pa_cons (pe_bltn (v := .ty "int") (by rfl) bi.m_int (by decide +kernel) rfl) pa_nil))) (pe_and (pe_not (pe_callB call_isi (by rfl) bi.m_isinstance (by decide +kernel) (pa_cons (pv 0) (pa_cons (pe_bltn (v := .ty "bool") (by rfl) bi.m_bool (by decide +kernel) rfl) pa_nil)))) (pe_one (pe_cmpR op_ge (pv 0) (pv 1) (nomark _))))))), ?_⟩
    refine ⟨_, rfl, _, _, _, _, true, rfl, ClsV.ty "int", .base (.int i), kit_ty (by decide +kernel), true, rfl, iteT ?_⟩
    refine ⟨_, rfl, _, _, _, _, false, rfl, ClsV.ty "bool", .base (.int i), kit_ty (by decide +kernel), false, rfl, true, rfl, iteT ?_⟩
    exact ⟨_, rfl, _, rfl, _, _, rfl, rfl, q⟩
theorem ok_is_tuple {f : Addr} {fd : FuncData} {k : Nat} (F : Fun K "is_tuple" "is_tuple" s_is_tuple f fd) (bi : Bi mg) : FnOk P w K mg base CX0 (k + 1) f fd P_is_tuple spIsTuple := by
  refine F.ok sc_is_tuple (fun vs H Q E h => ?_) (fun cdv A outer s H vs Q E hr h => ?_)
  · obtain ⟨a, xs, m, n, rfl, _⟩ := h
    rfl
  · obtain ⟨a, xs, m, n, rfl, ea, h1, h2, q⟩ := h
    refine ⟨_, (pss_one (ps_ret (pe_and (pe_callB call_isi (by rfl) bi.m_isinstance (by decide +kernel) (pa_cons (pv 0) (pa_cons (pe_bltn (v := .ty "tuple") (by rfl) bi.m_tuple (by decide +kernel) rfl) pa_nil))) (pe_one (pe_chain op_le op_le (pv 1) (pe_callB call_len_seq (by rfl) bi.m_len (by decide +kernel) (pa_cons (pv 0) pa_nil)) (pv 2)))))), ?_⟩
    refine ⟨_, rfl, _, _, _, _, true, rfl, ClsV.ty "tuple", sqt_ty (SqT.of ea), kit_ty (by decide +kernel), true, rfl, iteT ?_⟩
    refine ⟨_, rfl, _, rfl, a, xs, rfl, .inr (SqT.of ea), _, _, rfl, rfl, _, rfl, ite2 (fun e => ?_) (fun e => absurd (decide_eq_true h1) e)⟩
    refine ⟨_, rfl, _, _, rfl, rfl, ?_⟩
    show Q (.bl (decide ((xs.length : Int) ≤ n))) H
    rw [decide_eq_true h2]
    exact q
theorem ok_is_step {fT fW f : Addr} {fdT fdW fd : FuncData} (F : Fun K "is_step" "is_step" s_is_step f fd) (bi : Bi mg) (C_is_tuple : Cal P w K mg base "is_tuple" P_is_tuple 1 spIsTuple fT fdT) (C_is_whole : Cal P w K mg base "is_whole" P_is_whole 1 spIsWhole fW fdW) : FnOk P w K mg base CX0 2 f fd P_is_step spIsStep := by
  refine F.ok sc_is_step (fun vs H Q E h => ?_) (fun cdv A outer s H vs Q E hr h => ?_)
  · obtain ⟨a, t, g, rfl, _⟩ := h
    rfl
  · obtain ⟨a, t, g, rfl, ea, h1, h2, q⟩ := h
    refine ⟨_, (pss_one (ps_ret (pe_and (pe_call (C_is_tuple.G.mono (by decide)) hr (by rfl) C_is_tuple.g C_is_tuple.kp C_is_tuple.b .nil pass0 (pa_cons (pv 0) (pa_cons pe_int (pa_cons pe_int pa_nil)))) (pe_and (pe_call (C_is_whole.G.mono (by decide)) hr (by rfl) C_is_whole.g C_is_whole.kp C_is_whole.b .nil pass0 (pa_cons (pe_ix ix_tup (pv 0) pe_int (fun _ _ => rfl)) (pa_cons pe_int pa_nil))) (pe_one (pe_call (C_is_whole.G.mono (by decide)) hr (by rfl) C_is_whole.g C_is_whole.kp C_is_whole.b .nil pass0 (pa_cons (pe_ix ix_tup (pv 0) pe_int (fun _ _ => rfl)) (pa_cons pe_int pa_nil)))))))), ?_⟩
    refine ⟨_, rfl, a, _, 2, 2, rfl, ea, (by show (2 : Int) ≤ 2; decide), (by show (2 : Int) ≤ 2; decide), true, rfl, iteT ?_⟩
    refine ⟨_, rfl, a, _, 0, _, rfl, rfl, SqT.of ea, atI_nat (j := 0) rfl, _, _, rfl, _, rfl, ite2 (fun _ => ?_) (fun e => absurd (decide_eq_true h1) e)⟩
    refine ⟨_, rfl, a, _, 1, _, rfl, rfl, SqT.of ea, atI_nat (j := 1) rfl, _, _, rfl, ?_⟩
    show Q (.bl (decide (1 ≤ g))) H
    rw [decide_eq_true h2]
    exact q
theorem ok_are_steps {fT fS f : Addr} {fdT fdS fd : FuncData} {tk_MOST_STEPS : Tok} (F : Fun K "are_steps" "are_steps" s_are_steps f fd) (bi : Bi mg) (g_MOST_STEPS : mg "MOST_STEPS" = some (.int 8 tk_MOST_STEPS)) (C_is_tuple : Cal P w K mg base "is_tuple" P_is_tuple 1 spIsTuple fT fdT) (C_is_step : Cal P w K mg base "is_step" P_is_step 2 spIsStep fS fdS) : FnOk P w K mg base CX0 3 f fd P_are_steps spAreSteps := by
  refine F.ok sc_are_steps (fun vs H Q E h => ?_) (fun cdv A outer s H vs Q E hr h => ?_)
  · obtain ⟨a, as, ps, rfl, _⟩ := h
    rfl
  · obtain ⟨a, as, ps, rfl, ea, tu, gp, fa, q⟩ := h
    refine ⟨_, (pss_cons (ps_if (pw_or (pt_not (pt_val (pe_call (C_is_tuple.G.mono (by decide)) hr (by rfl) C_is_tuple.g C_is_tuple.kp C_is_tuple.b .nil pass0 (pa_cons (pv 0) (pa_cons pe_int (pa_cons (pe_glob (v := .int 8) (by rfl) g_MOST_STEPS ⟨_, rfl⟩) pa_nil)))))) (pw_or1 (pt_not (pt_val (pe_callB (cr_all rfl) (by rfl) bi.m_all (by decide +kernel) (pa_cons (pe_lc (own := [("step", 2)]) (g := (gName 2)) (tt := tYes) rfl sc_are_steps.nd (pi_tup (pv 0)) (blkOk_by (N := N_are_steps) (sc := defScope s_are_steps) (by decide +kernel)) (fun _ _ _ _ _ => (pg_name (i := 2) sc_are_steps.nd rfl (.inl rfl) (.inr rfl))) (fun _ _ _ _ _ => pts_nil) (fun _ _ _ _ _ => (pe_call (C_is_step.G.mono (by decide)) hr (by rfl) C_is_step.g C_is_step.kp C_is_step.b .nil pass0 (pa_cons (pv 2) pa_nil)))) pa_nil)))))).pt
      (pss_one (ps_ret pe_bl))
      pss_nil)
    (pss_one (ps_ret (pe_callB (cr_all rfl) (by rfl) bi.m_all (by decide +kernel) (pa_cons (pe_lc (own := [("ahead", 1), ("step", 2)]) (g := (gTup K 2 (gCons (gName 1) (gCons (gName 2) gNil)))) (tt := tYes) (te := (tOp (rI0 fun i j => V.bl (decide (j < i))) (tOp (rIxT K) (tVar 1) (tC (.int 0))) (tOp (rIxT K) (tVar 2) (tC (.int 0))))) rfl sc_are_steps.nd (RZ.pi_zipA (by rfl) bi.m_zip (pa_cons (pv 0) (pa_cons (pe_slice sl_tupA (pv 0) (po_some pe_int) po_none) pa_nil))) (blkOk_by (N := N_are_steps) (sc := defScope s_are_steps) (by decide +kernel)) (fun _ _ _ _ _ => (pg_tup rfl (pgs_cons (pg_name (i := 1) sc_are_steps.nd rfl (.inl rfl) (.inr rfl)) (pgs_cons (pg_name (i := 2) sc_are_steps.nd rfl (.inl rfl) (.inr rfl)) pgs_nil)))) (fun _ _ _ _ _ => pts_nil) (fun _ _ _ _ _ => (pe_cmpR op_gt (pe_ix ix_tup (pv 1) pe_int (fun _ _ => rfl)) (pe_ix ix_tup (pv 2) pe_int (fun _ _ => rfl)) (nomark _)))) pa_nil))))), ?_⟩
    have hal : as.length = ps.length := by rw [tu.1, List.length_map]
    have g1 := gp.1
    have g8 := gp.2.1
    refine ⟨_, rfl, a, _, 1, 8, rfl, ea, by rw [List.length_map]; omega, by rw [List.length_map]; omega, true, rfl, iteNT ?_⟩
    refine ⟨_, rfl, a, rfl, ⟨_, SqT.of ea⟩, fun D nD => ?_⟩
    refine lc_tup (xs := as.map V.ref) (fun i H' => Same H H' ∧ ∃ bs : List Bool, H' D = some (.lst (bs.map V.bl)) ∧ bs.length = i ∧ ∀ b ∈ bs, b = true) ⟨same_new (Same.refl _) nD, [], upd_same, rfl, fun b hb => by cases hb⟩ (fun i H' hi hm => SqT.of (hm.1 _ _ ea)) (fun i x H' hx hm => ?_) (fun H' hm => ?_)
    · obtain ⟨sm, bs, eD, lb, tb⟩ := hm
      obtain ⟨b, t, g, rfl, ep, eb⟩ := step_get tu hx
      have hi : i < ps.length := (List.getElem?_eq_some_iff.mp ep).1
      have gg := gp.2.2 (t, g) (List.mem_of_getElem? ep)
      refine ⟨rfl, yesIte ?_⟩
      refine ⟨_, rfl, b, t, g, rfl, sm _ _ eb, gg.1, gg.2.2.1, ?_⟩
      refine ⟨_, eD, (by rw [List.length_map]; exact small1000 (by omega)), same_mine sm nD, bs ++ [true], ?_, by simp [lb], trues_snoc tb⟩
      rw [upd_same, List.map_append]
      rfl
    · obtain ⟨sm, bs, eD, lb, tb⟩ := hm
      refine ⟨D, bs, rfl, SqL.of eD, ?_⟩
      rw [all_true tb]
      refine ⟨true, rfl, iteNT ?_⟩
      have ea1 := sm _ _ ea
      refine ⟨_, rfl, _, rfl, _, rfl, a, _, rfl, SqT.of ea1, ?_, ?_⟩
      · intro hz
        exfalso
        have := hz.1
        have h1 : HT.sIx (as.map V.ref).length 0 (some 1) = min 1 (as.map V.ref).length := HT.sIx_nat _ _ 1
        rw [h1, List.length_map, hal] at this
        omega
      · intro _ Z nZ
        rw [cut_tail]
        have sZ : Same H (upd H' Z (.tup ((as.map V.ref).drop 1))) := same_new sm nZ
        have eZ : upd H' Z (.tup ((as.map V.ref).drop 1)) Z = some (.tup ((as.map V.ref).drop 1)) := upd_same
        generalize upd H' Z (.tup ((as.map V.ref).drop 1)) = H2 at sZ eZ
        refine ⟨a, Z, _, _, rfl, .inr ⟨SqT.of (sZ _ _ ea), SqT.of eZ, fun D2 nD2 => ?_⟩⟩
        refine lcZipS (xs := as.map V.ref) (ys := (as.map V.ref).drop 1) (by rw [List.length_drop]; omega) (fun i H' => Same H2 H' ∧ ∃ bs : List Bool, H' D2 = some (.lst (bs.map V.bl)) ∧ bs.length = i ∧ ∀ b ∈ bs, b = true) ⟨same_new (Same.refl _) nD2, [], upd_same, rfl, fun b hb => by cases hb⟩ (fun i H' hm => ⟨SqT.of ((sZ.trans hm.1) _ _ ea), SqT.of (hm.1 _ _ eZ)⟩) (fun i x y T H' hx hy nT hm => ?_) (fun H' hm => ?_)
        · obtain ⟨sm2, bs2, eD2, lb2, tb2⟩ := hm
          rw [List.getElem?_drop] at hy
          obtain ⟨b1, t1, g1', rfl, ep1, eb1⟩ := step_get tu hx
          obtain ⟨b2, t2, g2', rfl, ep2, eb2⟩ := step_get tu hy
          have hi : i < ps.length := (List.getElem?_eq_some_iff.mp ep1).1
          have lt : t2 < t1 := by
            obtain ⟨p1, q1⟩ := List.getElem?_eq_some_iff.mp ep1
            obtain ⟨p2, q2⟩ := List.getElem?_eq_some_iff.mp ep2
            have := List.pairwise_iff_getElem.mp fa i (1 + i) p1 p2 (by omega)
            rw [q1, q2] at this
            exact this
          have sT : Same H2 (upd H' T (.tup [.ref b1, .ref b2])) := same_new sm2 nT
          have eDT := (upd_ne (o := .tup [.ref b1, .ref b2]) (ne_of_none eD2 nT)).trans eD2
          refine ⟨T, _, rfl, SqT.of upd_same, rfl, _, _, rfl, _, _, rfl, rfl, rfl, yesIte ?_⟩
          generalize upd H' T (.tup [.ref b1, .ref b2]) = H3 at sT eDT
          have s3 := sZ.trans sT
          refine ⟨_, rfl, b1, _, 0, _, rfl, rfl, SqT.of (s3 _ _ eb1), atI_nat (j := 0) rfl, _, rfl, b2, _, 0, _, rfl, rfl, SqT.of (s3 _ _ eb2), atI_nat (j := 0) rfl, _, _, rfl, rfl, ?_⟩
          refine ⟨_, eDT, (by rw [List.length_map]; exact small1000 (by omega)), same_mine sT nD2, bs2 ++ [true], ?_, by simp [lb2], trues_snoc tb2⟩
          rw [upd_same, List.map_append]
          show some (HO.lst (bs2.map V.bl ++ [V.bl (decide (t2 < t1))])) = _
          rw [decide_eq_true lt]
          rfl
        · obtain ⟨sm2, bs2, eD2, lb2, tb2⟩ := hm
          refine ⟨D2, bs2, rfl, SqL.of eD2, ?_⟩
          rw [all_true tb2]
          exact q _ (sZ.trans sm2)
theorem ok_is_wisp {fT fW fS f : Addr} {fdT fdW fdS fd : FuncData} (F : Fun K "is_wisp" "is_wisp" s_is_wisp f fd) (bi : Bi mg) (C_is_tuple : Cal P w K mg base "is_tuple" P_is_tuple 1 spIsTuple fT fdT) (C_is_whole : Cal P w K mg base "is_whole" P_is_whole 1 spIsWhole fW fdW) (C_are_steps : Cal P w K mg base "are_steps" P_are_steps 3 spAreSteps fS fdS) : FnOk P w K mg base CX0 4 f fd P_is_wisp spIsWisp := by
  refine F.ok sc_is_wisp (fun vs H Q E h => ?_) (fun cdv A outer s H vs Q E hr h => ?_)
  · obtain ⟨a, s, ps, rfl, _⟩ := h
    rfl
  · obtain ⟨a, so, ps, rfl, ⟨st, as, ea, es, tu⟩, s0, s1, gp, fa, q⟩ := h
    refine ⟨_, (pss_cons (ps_if (pt_not (pt_val (pe_call (C_is_tuple.G.mono (by decide)) hr (by rfl) C_is_tuple.g C_is_tuple.kp C_is_tuple.b .nil pass0 (pa_cons (pv 0) (pa_cons pe_int (pa_cons pe_int pa_nil))))))
      (pss_one (ps_ret pe_bl))
      pss_nil)
    (pss_cons (ps_asg (pv 0) (pg_tup rfl (pgs_cons (pg_name (i := 1) sc_is_wisp.nd rfl (.inl rfl)) (pgs_cons (pg_name (i := 2) sc_is_wisp.nd rfl (.inl rfl)) pgs_nil))))
    (pss_one (ps_ret (pe_and (pe_call (C_is_whole.G.mono (by decide)) hr (by rfl) C_is_whole.g C_is_whole.kp C_is_whole.b .nil pass0 (pa_cons (pv 1) (pa_cons pe_int pa_nil))) (pe_and (pe_cmpR op_le (pv 1) pe_int (nomark _)) (pe_one (pe_call (C_are_steps.G.mono (by decide)) hr (by rfl) C_are_steps.g C_are_steps.kp C_are_steps.b .nil pass0 (pa_cons (pv 2) pa_nil))))))))), ?_⟩
    refine ⟨_, rfl, a, _, 2, 2, rfl, ea, (by show (2 : Int) ≤ 2; decide), (by show (2 : Int) ≤ 2; decide), true, rfl, iteNT ?_⟩
    refine ⟨_, rfl, a, _, rfl, SqT.of ea, rfl, _, _, rfl, _, _, rfl, rfl, ?_⟩
    refine ⟨_, rfl, _, _, rfl, _, rfl, ite2 (fun _ => ?_) (fun e => absurd (decide_eq_true s0) e)⟩
    refine ⟨_, rfl, _, _, rfl, rfl, _, rfl, ite2 (fun _ => ?_) (fun e => absurd (decide_eq_true s1) e)⟩
    exact ⟨_, rfl, st, as, ps, rfl, es, tu, gp, fa, q⟩
theorem ok_is_laid {fT fW fS f : Addr} {fdT fdW fdS fd : FuncData} (F : Fun K "is_laid" "is_laid" s_is_laid f fd) (bi : Bi mg) (C_is_tuple : Cal P w K mg base "is_tuple" P_is_tuple 1 spIsTuple fT fdT) (C_is_whole : Cal P w K mg base "is_whole" P_is_whole 1 spIsWhole fW fdW) (C_is_wisp : Cal P w K mg base "is_wisp" P_is_wisp 4 spIsWisp fS fdS) : FnOk P w K mg base CX0 5 f fd P_is_laid spIsLaid := by
  refine F.ok sc_is_laid (fun vs H Q E h => ?_) (fun cdv A outer s H vs Q E hr h => ?_)
  · obtain ⟨a, L, rfl, _⟩ := h
    rfl
  · obtain ⟨a, L, rfl, ⟨wa, ea, hw⟩, gi, q⟩ := h
    refine ⟨_, (pss_cons (ps_if (pt_not (pt_val (pe_call (C_is_tuple.G.mono (by decide)) hr (by rfl) C_is_tuple.g C_is_tuple.kp C_is_tuple.b .nil pass0 (pa_cons (pv 0) (pa_cons pe_int (pa_cons pe_int pa_nil))))))
      (pss_one (ps_ret pe_bl))
      pss_nil)
    (pss_cons (ps_asg (pv 0) (pg_tup rfl (pgs_cons (pg_name (i := 1) sc_is_laid.nd rfl (.inl rfl)) (pgs_cons (pg_name (i := 2) sc_is_laid.nd rfl (.inl rfl)) (pgs_cons (pg_name (i := 3) sc_is_laid.nd rfl (.inl rfl)) pgs_nil)))))
    (pss_one (ps_ret (pe_and (pe_call (C_is_wisp.G.mono (by decide)) hr (by rfl) C_is_wisp.g C_is_wisp.kp C_is_wisp.b .nil pass0 (pa_cons (pv 1) pa_nil)) (pe_and (pe_call (C_is_whole.G.mono (by decide)) hr (by rfl) C_is_whole.g C_is_whole.kp C_is_whole.b .nil pass0 (pa_cons (pv 2) (pa_cons pe_int pa_nil))) (pe_one (pe_or (pe_cmpR op_isN (pv 3) pe_non (nomark _)) (pe_one (pe_call (C_is_whole.G.mono (by decide)) hr (by rfl) C_is_whole.g C_is_whole.kp C_is_whole.b .nil pass0 (pa_cons (pv 3) (pa_cons (pe_op op_add (pv 2) pe_int) pa_nil)))))))))))), ?_⟩
    refine ⟨_, rfl, a, _, 3, 3, rfl, ea, (by show (3 : Int) ≤ 3; decide), (by show (3 : Int) ≤ 3; decide), true, rfl, iteNT ?_⟩
    refine ⟨_, rfl, a, _, rfl, SqT.of ea, rfl, _, _, rfl, _, _, rfl, _, _, rfl, rfl, ?_⟩
    refine ⟨_, rfl, wa, L.so, L.ps, rfl, hw, gi.2.1, gi.2.2.1, gi.1, gi.2.2.2.2.1, fun H1 s1 => ⟨true, rfl, iteT ?_⟩⟩
    refine ⟨_, rfl, _, _, rfl, _, rfl, ite2 (fun _ => ?_) (fun e => absurd (decide_eq_true gi.2.2.2.1) e)⟩
    have gl := gi.2.2.2.2.2
    refine ⟨_, rfl, rfl, _, rfl, ?_⟩
    cases hle : L.le with
    | none =>
      refine iteT ?_
      exact q _ s1
    | some n =>
      refine iteEqF (letV_some' n) ?_
      refine ⟨_, rfl, _, rfl, _, _, rfl, rfl, _, _, rfl, ?_⟩
      have := gl n hle
      show Q (.bl (decide (L.pl + 1 ≤ n))) H1
      rw [decide_eq_true (show L.pl + 1 ≤ n by omega)]
      exact q _ s1
theorem ok_is_strand {fT fL f : Addr} {fdT fdL fd : FuncData} {tk_MOST_LAID : Tok} (F : Fun K "is_strand" "is_strand" s_is_strand f fd) (bi : Bi mg) (g_MOST_LAID : mg "MOST_LAID" = some (.int 60 tk_MOST_LAID)) (C_is_tuple : Cal P w K mg base "is_tuple" P_is_tuple 1 spIsTuple fT fdT) (C_is_laid : Cal P w K mg base "is_laid" P_is_laid 5 spIsLaid fL fdL) : FnOk P w K mg base CX0 6 f fd P_is_strand spIsStrand := by
  refine F.ok sc_is_strand (fun vs H Q E h => ?_) (fun cdv A outer s H vs Q E hr h => ?_)
  · obtain ⟨a, Ls, rfl, _⟩ := h
    rfl
  · obtain ⟨a, Ls, rfl, ⟨as, ea, la⟩, hl, hg, q⟩ := h
    refine ⟨_, (pss_one (ps_ret (pe_and (pe_call (C_is_tuple.G.mono (by decide)) hr (by rfl) C_is_tuple.g C_is_tuple.kp C_is_tuple.b .nil pass0 (pa_cons (pv 0) (pa_cons pe_int (pa_cons (pe_glob (v := .int 60) (by rfl) g_MOST_LAID ⟨_, rfl⟩) pa_nil)))) (pe_one (pe_callB (cr_all rfl) (by rfl) bi.m_all (by decide +kernel) (pa_cons (pe_lc (own := [("laid", 1)]) (g := (gName 1)) (tt := tYes) rfl sc_is_strand.nd (pi_tup (pv 0)) (blkOk_by (N := N_is_strand) (sc := defScope s_is_strand) (by decide +kernel)) (fun _ _ _ _ _ => (pg_name (i := 1) sc_is_strand.nd rfl (.inl rfl) (.inr rfl))) (fun _ _ _ _ _ => pts_nil) (fun _ _ _ _ _ => (pe_call (C_is_laid.G.mono (by decide)) hr (by rfl) C_is_laid.g C_is_laid.kp C_is_laid.b .nil pass0 (pa_cons (pv 1) pa_nil)))) pa_nil)))))), ?_⟩
    have hal := la.1
    refine ⟨_, rfl, a, _, 0, 60, rfl, ea, by omega, by rw [List.length_map]; omega, true, rfl, iteT ?_⟩
    refine ⟨_, rfl, a, rfl, ⟨_, SqT.of ea⟩, fun D nD => ?_⟩
    refine lc_tup (xs := as.map V.ref) (fun i H' => Same H H' ∧ ∃ bs : List Bool, H' D = some (.lst (bs.map V.bl)) ∧ bs.length = i ∧ ∀ b ∈ bs, b = true) ⟨same_new (Same.refl _) nD, [], upd_same, rfl, fun b hb => by cases hb⟩ (fun i H' hi hm => SqT.of (hm.1 _ _ ea)) (fun i x H' hx hm => ?_) (fun H' hm => ?_)
    · obtain ⟨sm, bs, eD, lb, tb⟩ := hm
      obtain ⟨b, L, rfl, _, eL, hb⟩ := laid_get la hx
      have hi : i < Ls.length := (List.getElem?_eq_some_iff.mp eL).1
      refine ⟨rfl, yesIte ?_⟩
      refine ⟨_, rfl, b, L, rfl, hb.mono (Tups.same sm), hg L (List.mem_of_getElem? eL), fun H2 s2 => ?_⟩
      refine ⟨_, s2 _ _ eD, (by rw [List.length_map]; exact small1000 (by omega)), same_mine (sm.trans s2) nD, bs ++ [true], ?_, by simp [lb], trues_snoc tb⟩
      rw [upd_same, List.map_append]
      rfl
    · obtain ⟨sm, bs, eD, lb, tb⟩ := hm
      refine ⟨D, bs, rfl, SqL.of eD, ?_⟩
      rw [all_true tb]
      exact q _ sm
theorem ok_thick_at {f : Addr} {fd : FuncData} {k : Nat} (F : Fun K "thick_at" "thick_at" s_thick_at f fd) (bi : Bi mg) : FnOk P w K mg base CX0 (k + 1) f fd P_thick_at spThick := by
  refine F.ok sc_thick_at (fun vs H Q E h => ?_) (fun cdv A outer s H vs Q E hr h => ?_)
  · obtain ⟨a, so, ps, k, rfl, _⟩ := h
    rfl
  · obtain ⟨a, so, ps, k, rfl, ⟨st, as, ea, es, tu⟩, q⟩ := h
    refine ⟨_, (pss_cons (ps_for PassesOwn.never rfl (pi_tup (pe_ix ix_tup (pv 0) pe_int (fun _ _ => rfl))) (pg_tup rfl (pgs_cons (pg_name (i := 2) sc_thick_at.nd rfl (.inl rfl)) (pgs_cons (pg_name (i := 3) sc_thick_at.nd rfl (.inl rfl)) pgs_nil)))
      (pss_cons (ps_if (pt_cmpR op_lt (pv 1) (pv 3) (nomark _))
          (pss_one (ps_ret (pv 2)))
          pss_nil)
        (pss_one (ps_aug (i := 1) sc_thick_at.nd rfl (.inl rfl) (pv 3) ip_sub))))
    (pss_one (ps_ret pe_int))), ?_⟩
    have hlen : as.length = ps.length := by
      have := tu.1
      rw [List.length_map] at this
      exact this
    refine ⟨_, rfl, a, _, 1, _, rfl, rfl, SqT.of ea, atI_nat (j := 1) rfl, st, rfl, ⟨_, SqT.of es⟩, for_tup (xs := as.map V.ref) (fun i σ' H' => ∃ (x2 x3 : Option V) (kk : Int), σ' = [some (.ref a), some (.int kk), x2, x3] ∧ H' = H ∧ thickAt (ps.drop i) kk = thickAt ps k) ⟨_, _, k, rfl, rfl, rfl⟩ (fun i σ' H' hi hm => ?_) (fun i x σ' H' hx hm => ?_) (fun σ' H' hm => ?_)⟩
    · obtain ⟨x2, x3, kk, rfl, rfl, _⟩ := hm
      exact SqT.of es
    · obtain ⟨x2, x3, kk, rfl, rfl, et⟩ := hm
      obtain ⟨b, t, g, rfl, ep, eb⟩ := step_get tu hx
      refine ⟨b, _, rfl, SqT.of eb, rfl, _, _, rfl, _, _, rfl, rfl, ?_⟩
      have hd : ps.drop i = (t, g) :: ps.drop (i + 1) := by
        obtain ⟨hi, e⟩ := List.getElem?_eq_some_iff.mp ep
        rw [List.drop_eq_getElem_cons hi, e]
      rw [hd] at et
      have et : (if kk < g then t else thickAt (ps.drop (i + 1)) (kk - g)) = thickAt ps k := et
      refine ⟨_, rfl, _, rfl, _, _, rfl, rfl, _, rfl, ite2 (fun e => ?_) (fun e => ?_)⟩
      · rw [if_pos (of_decide_eq_true e)] at et
        rw [← et] at q
        exact ⟨_, rfl, q⟩
      · rw [if_neg (fun z => e (decide_eq_true z))] at et
        exact ⟨_, rfl, _, rfl, _, _, rfl, rfl, _, _, _, rfl, rfl, et⟩
    · obtain ⟨x2, x3, kk, rfl, rfl, et⟩ := hm
      rw [List.length_map, hlen, List.drop_length] at et
      rw [← et] at q
      exact q
theorem ok_thick_of {f fK : Addr} {fd fdK : FuncData} (F : Fun K "thick_of" "thick_of" s_thick_of f fd) (bi : Bi mg) (C_thick_at : Cal P w K mg base "thick_at" P_thick_at 1 spThick fK fdK) : FnOk P w K mg base CX0 2 f fd P_thick_of spThickOf := by
  refine F.ok sc_thick_of (fun vs H Q E h => ?_) (fun cdv A outer s H vs Q E hr h => ?_)
  · obtain ⟨a, L, p, rfl, _⟩ := h
    rfl
  · obtain ⟨a, L, p, rfl, ⟨wa, ea, hw⟩, q⟩ := h
    refine ⟨_, (pss_cons (ps_asg (pv 0) (pg_tup rfl (pgs_cons (pg_name (i := 2) sc_thick_of.nd rfl (.inl rfl)) (pgs_cons (pg_name (i := 3) sc_thick_of.nd rfl (.inl rfl)) (pgs_cons (pg_name (i := 4) sc_thick_of.nd rfl (.inl rfl)) pgs_nil)))))
    (pss_cons (ps_if (pw_or (pt_cmpR op_lt (pv 1) (pv 3) (nomark _)) (pw_or1 (pw_and (pt_cmpR op_notN (pv 4) pe_non (nomark _)) (pw_and1 (pt_cmpR op_ge (pv 1) (pv 4) (nomark _)))).pt)).pt
      (pss_one (ps_ret pe_int))
      pss_nil)
    (pss_one (ps_ret (pe_call (C_thick_at.G.mono (by decide)) hr (by rfl) C_thick_at.g C_thick_at.kp C_thick_at.b .nil pass0 (pa_cons (pv 2) (pa_cons (pe_op op_sub (pv 1) (pv 3)) pa_nil))))))), ?_⟩
    refine ⟨_, rfl, a, _, rfl, SqT.of ea, rfl, _, _, rfl, _, _, rfl, _, _, rfl, rfl, ?_⟩
    unfold thickL at q
    refine ⟨_, rfl, _, rfl, _, _, rfl, rfl, _, rfl, ite2 (fun e => ?_) (fun e => ?_)⟩
    · rw [if_pos (of_decide_eq_true e)] at q
      exact iteT q
    · rw [if_neg (fun z => e (decide_eq_true z))] at q
      cases hle : L.le with
      | none =>
        rw [hle] at q
        refine ⟨_, rfl, rfl, _, rfl, ?_⟩
        refine iteEqF letV_none ?_
        exact iteF ⟨_, rfl, _, rfl, _, rfl, _, _, rfl, rfl, wa, L.so, L.ps, _, rfl, hw, q⟩
      | some n =>
        rw [hle] at q
        refine ⟨_, rfl, rfl, _, rfl, ?_⟩
        refine iteEqT (letV_some n) ?_
        have q : Q (V.int (if n ≤ p then 0 else thickAt L.ps (p - L.pl))) H := q
        refine ⟨_, rfl, _, rfl, _, _, rfl, rfl, _, rfl, ite2 (fun e2 => ?_) (fun e2 => ?_)⟩
        · rw [if_pos (of_decide_eq_true e2)] at q
          exact q
        · rw [if_neg (fun z => e2 (decide_eq_true z))] at q
          exact ⟨_, rfl, _, rfl, _, rfl, _, _, rfl, rfl, wa, L.so, L.ps, _, rfl, hw, q⟩
theorem ok_thicknesses_at {f fK : Addr} {fd fdK : FuncData} (F : Fun K "thicknesses_at" "thicknesses_at" s_thicknesses_at f fd) (bi : Bi mg) (C_thick_of : Cal P w K mg base "thick_of" P_thick_of 2 spThickOf fK fdK) : FnOk P w K mg base CX0 3 f fd P_thicknesses_at spThicks := by
  refine F.ok sc_thicknesses_at (fun vs H Q E h => ?_) (fun cdv A outer s H vs Q E hr h => ?_)
  · obtain ⟨a, Ls, p, rfl, _⟩ := h
    rfl
  · obtain ⟨a, Ls, p, rfl, ⟨as, ea, la⟩, hl, q⟩ := h
    refine ⟨_, (pss_one (ps_ret (pe_lc (own := [("laid", 2)]) (g := (gName 2)) (tt := tYes) rfl sc_thicknesses_at.nd (pi_tup (pv 0)) (blkOk_by (N := N_thicknesses_at) (sc := defScope s_thicknesses_at) (by decide +kernel)) (fun _ _ _ _ _ => (pg_name (i := 2) sc_thicknesses_at.nd rfl (.inl rfl) (.inr rfl))) (fun _ _ _ _ _ => pts_nil) (fun _ _ _ _ _ => (pe_call (C_thick_of.G.mono (by decide)) hr (by rfl) C_thick_of.g C_thick_of.kp C_thick_of.b .nil pass0 (pa_cons (pv 2) (pa_cons (pv 1) pa_nil))))))), ?_⟩
    refine ⟨_, rfl, a, rfl, ⟨_, SqT.of ea⟩, fun D nD => ?_⟩
    refine lc_tup (xs := as.map V.ref) (fun i H' => Same H H' ∧ H' D = some (.lst (((Ls.take i).map fun L => thickL L p).map V.int))) ⟨same_new (Same.refl H) nD, upd_same⟩ (fun i H' hi hm => SqT.of (hm.1 _ _ ea)) (fun i x H' hx hm => ?_) (fun H' hm => ?_)
    · obtain ⟨sm, eD⟩ := hm
      obtain ⟨b, L, rfl, _, eL, hb⟩ := laid_get la hx
      refine ⟨rfl, yesIte ?_⟩
      refine ⟨_, rfl, _, rfl, b, L, p, rfl, hb.mono (Tups.same sm), _, eD, ?_, same_mine sm nD, ?_⟩
      · rw [List.length_map, List.length_map, List.length_take]
        exact small1000 (by omega)
      · rw [upd_same, take_map_succ _ eL, List.map_append]
        rfl
    · obtain ⟨sm, eD⟩ := hm
      rw [List.length_map, la.1, List.take_length] at eD
      exact q _ D sm nD eD
theorem ok_parts_of {f : Addr} {fd : FuncData} {k : Nat} (F : Fun K "parts_of" "parts_of" s_parts_of f fd) (bi : Bi mg) : FnOk P w K mg base CX0 (k + 1) f fd P_parts_of spPartsOf := by
  refine F.ok sc_parts_of (fun vs H Q E h => ?_) (fun cdv A outer s H vs Q E hr h => ?_)
  · obtain ⟨a, L, rfl, _⟩ := h
    rfl
  · obtain ⟨a, L, rfl, ⟨wa, ea, st, as, ew, es, tu⟩, hl, q⟩ := h
    refine ⟨_, (pss_cons (ps_asg (pv 0) (pg_tup rfl (pgs_cons (pg_name (i := 1) sc_parts_of.nd rfl (.inl rfl)) (pgs_cons (pg_name (i := 2) sc_parts_of.nd rfl (.inl rfl)) (pgs_cons (pg_name (i := 3) sc_parts_of.nd rfl (.inl rfl)) pgs_nil)))))
    (pss_cons (ps_set (i := 4) sc_parts_of.nd rfl (.inl rfl) (pe_lst pa_nil))
    (pss_cons (ps_for PassesOwn.never rfl (pi_tup (pe_ix ix_tup (pv 1) pe_int (fun _ _ => rfl))) (pg_tup rfl (pgs_cons (pg_name (i := 5) sc_parts_of.nd rfl (.inl rfl)) (pgs_cons (pg_name (i := 6) sc_parts_of.nd rfl (.inl rfl)) pgs_nil)))
      (C8.pss_cut (ps_set (i := 7) sc_parts_of.nd rfl (.inl rfl) (pe_ifExp (pt_cmpR op_isN (pv 3) pe_non (nomark _)) (pe_op op_add (pv 2) (pv 6)) (pe_callB (call_min2 rfl) (by rfl) bi.m_min (by decide +kernel) (pa_cons (pe_op op_add (pv 2) (pv 6)) (pa_cons (pv 3) pa_nil)))))
        (C8.pss_cut (ps_if (pt_cmpR op_lt (pv 2) (pv 7) (nomark _))
          (pss_one (ps_expr (pe_bm PySem.F.plainAttrs_list PySem.F.slot_list_append PySem.F.type_list_append mt_append (pv 4) (pa_cons (pe_tup (pa_cons (pv 2) (pa_cons (pv 7) (pa_cons (pv 5) pa_nil)))) pa_nil))))
          pss_nil)
        (pss_one (ps_set (i := 2) sc_parts_of.nd rfl (.inl rfl) (pv 7))))))
    (pss_one (ps_ret (pv 4)))))), ?_⟩
    have hlen : as.length = L.ps.length := by
      have := tu.1
      rw [List.length_map] at this
      exact this
    refine ⟨_, rfl, a, _, rfl, SqT.of ea, rfl, _, _, rfl, _, _, rfl, _, _, rfl, rfl, ?_⟩
    refine ⟨Nat.zero_le _, fun o no => ?_⟩
    have ew' : upd H o (.lst []) wa = some (.tup [.int L.so, .ref st]) := same_new (Same.refl H) no _ _ ew
    have es' : upd H o (.lst []) st = some (.tup (as.map V.ref)) := same_new (Same.refl H) no _ _ es
    refine ⟨_, rfl, wa, _, 1, _, rfl, rfl, SqT.of ew', atI_nat (j := 1) rfl, st, rfl, ⟨_, SqT.of es'⟩, for_tup (xs := as.map V.ref) (fun i σ' H' => ∃ (x5 x6 x7 : Option V) (kk : Int) (bs : List Addr) (qs : List (Int × Int × Int)), σ' = [some (.ref a), some (.ref wa), some (.int kk), some (letV L.le), some (.ref o), x5, x6, x7] ∧ Same H H' ∧ H' o = some (.lst (bs.map V.ref)) ∧ TupsAt H' bs (qs.map rowV) ∧ qs.length ≤ i ∧ qs ++ partsOf L.le (L.ps.drop i) kk = partsOf L.le L.ps L.pl) ⟨_, _, _, L.pl, [], [], rfl, same_new (Same.refl H) no, upd_same, TupsAt.nil, Nat.le_refl _, rfl⟩ (fun i σ' H' hi hm => ?_) (fun i x σ' H' hx hm => ?_) (fun σ' H' hm => ?_)⟩
    · obtain ⟨x5, x6, x7, kk, bs, qs, rfl, sm, _⟩ := hm
      exact SqT.of (sm _ _ es)
    · obtain ⟨x5, x6, x7, kk, bs, qs, rfl, sm, eo, tb, hq, et⟩ := hm
      obtain ⟨b, t, g, rfl, ep, eb⟩ := step_get tu hx
      have hd : L.ps.drop i = (t, g) :: L.ps.drop (i + 1) := by
        obtain ⟨hi, e⟩ := List.getElem?_eq_some_iff.mp ep
        rw [List.drop_eq_getElem_cons hi, e]
      rw [hd] at et
      have et : qs ++ ((if kk < clip L.le (kk + g) then [(kk, clip L.le (kk + g), t)] else []) ++ partsOf L.le (L.ps.drop (i + 1)) (clip L.le (kk + g))) = partsOf L.le L.ps L.pl := et
      have hips : i < L.ps.length := (List.getElem?_eq_some_iff.mp ep).1
      refine ⟨b, _, rfl, SqT.of (sm _ _ eb), rfl, _, _, rfl, _, _, rfl, rfl, ?_⟩
      refine ⟨fun σ' H2 => σ' = [some (.ref a), some (.ref wa), some (.int kk), some (letV L.le), some (.ref o), some (.int t), some (.int g), some (.int (clip L.le (kk + g)))] ∧ H2 = H', ?_, fun σ' H2 hm => ?_⟩
      · refine ⟨_, rfl, rfl, _, rfl, ?_⟩
        cases hle : L.le with
        | none => exact iteEqT (by decide) ⟨_, rfl, _, rfl, _, _, rfl, rfl, rfl, rfl⟩
        | some n => exact iteEqF (letV_some' n) ⟨_, rfl, _, rfl, _, _, rfl, rfl, _, rfl, _, _, rfl, rfl, rfl⟩
      obtain ⟨rfl, rfl⟩ := hm
      refine ⟨fun σ' H3 => ∃ (bs : List Addr) (qs : List (Int × Int × Int)), σ' = [some (.ref a), some (.ref wa), some (.int kk), some (letV L.le), some (.ref o), some (.int t), some (.int g), some (.int (clip L.le (kk + g)))] ∧ Same H H3 ∧ H3 o = some (.lst (bs.map V.ref)) ∧ TupsAt H3 bs (qs.map rowV) ∧ qs.length ≤ i + 1 ∧ qs ++ partsOf L.le (L.ps.drop (i + 1)) (clip L.le (kk + g)) = partsOf L.le L.ps L.pl, ?_, fun σ' H3 hm => ?_⟩
      · refine ⟨_, rfl, _, rfl, _, _, rfl, rfl, _, rfl, ite2 (fun e => ?_) (fun e => ?_)⟩
        · refine ⟨_, rfl, .inl ⟨rfl, _, SqL.of eo⟩, _, rfl, _, rfl, _, rfl, (by show 3 ≤ sizeLine; decide), fun z nz => ?_⟩
          have eo' : upd H2 z (.tup [.int kk, .int (clip L.le (kk + g)), .int t]) o = some (.lst (bs.map V.ref)) := by
            rw [upd_ne (ne_of_none eo nz)]
            exact eo
          refine ⟨o, _, _, rfl, rfl, eo', ?_, ?_⟩
          · have := tb.1
            rw [List.length_map] at this
            rw [List.length_map]
            exact small1000 (by omega)
          refine ⟨bs ++ [z], qs ++ [(kk, clip L.le (kk + g), t)], rfl, same_mine (same_new sm nz) no, ?_, ?_, ?_, ?_⟩
          · rw [upd_same, List.map_append]
            rfl
          · rw [List.map_append]
            exact ((tb.mono (Tups.new nz)).snoc upd_same).mono (Tups.ls eo')
          · rw [List.length_append]
            show qs.length + 1 ≤ i + 1
            omega
          · rw [if_pos (of_decide_eq_true e)] at et
            rw [← et, List.append_assoc]
        · rw [if_neg (fun z => e (decide_eq_true z)), List.nil_append] at et
          exact ⟨bs, qs, rfl, sm, eo, tb, by omega, et⟩
      · obtain ⟨bs, qs, rfl, sm, eo, tb, hq, et⟩ := hm
        exact ⟨_, rfl, _, _, _, _, bs, qs, rfl, sm, eo, tb, hq, et⟩
    · obtain ⟨x5, x6, x7, kk, bs, qs, rfl, sm, eo, tb, hq, et⟩ := hm
      rw [List.length_map, hlen, List.drop_length] at et
      have et : qs ++ [] = partsOf L.le L.ps L.pl := et
      rw [List.append_nil] at et
      subst et
      exact ⟨_, rfl, q _ o sm no ⟨bs, eo, tb⟩⟩
theorem ok_tail {f : Addr} {fd : FuncData} {k : Nat} (F : Fun K "tail" "tail" s_tail f fd) (bi : Bi mg) : FnOk P w K mg base CX0 (k + 1) f fd P_tail spTail := by
  refine F.ok sc_tail (fun vs H Q E h => ?_) (fun cdv A outer s H vs Q E hr h => ?_)
  · obtain ⟨a, so, ps, k, rfl, _⟩ := h
    rfl
  · obtain ⟨a, so, ps, k, rfl, ⟨st, as, ea, es, tu⟩, hl, q⟩ := h
    refine ⟨_, (pss_cons (ps_asg (pv 0) (pg_tup rfl (pgs_cons (pg_name (i := 2) sc_tail.nd rfl (.inl rfl)) (pgs_cons (pg_name (i := 3) sc_tail.nd rfl (.inl rfl)) pgs_nil))))
    (pss_cons (ps_set (i := 4) sc_tail.nd rfl (.inl rfl) (pe_lst pa_nil))
    (pss_cons (ps_for PassesOwn.never rfl (pi_tup (pv 3)) (pg_tup rfl (pgs_cons (pg_name (i := 5) sc_tail.nd rfl (.inl rfl)) (pgs_cons (pg_name (i := 6) sc_tail.nd rfl (.inl rfl)) pgs_nil)))
      (C8.pss_cut (ps_if (pt_cmpR op_lt (pv 1) (pv 6) (nomark _))
          (pss_one (ps_expr (pe_bm PySem.F.plainAttrs_list PySem.F.slot_list_append PySem.F.type_list_append mt_append (pv 4) (pa_cons (pe_tup (pa_cons (pv 5) (pa_cons (pe_op op_sub (pv 6) (pe_callB (call_max2 rfl) (by rfl) bi.m_max (by decide +kernel) (pa_cons (pv 1) (pa_cons pe_int pa_nil)))) pa_nil))) pa_nil))))
          pss_nil)
        (pss_one (ps_aug (i := 1) sc_tail.nd rfl (.inl rfl) (pv 6) ip_sub))))
    (pss_one (ps_ret (pe_tup (pa_cons (pv 2) (pa_cons (pe_callTy call_tuple_of (by rfl) bi.m_tuple (by decide +kernel) (pa_cons (pv 4) pa_nil)) pa_nil)))))))), ?_⟩
    have hlen : as.length = ps.length := by
      have := tu.1
      rw [List.length_map] at this
      exact this
    refine ⟨_, rfl, a, _, rfl, SqT.of ea, rfl, _, _, rfl, _, _, rfl, rfl, ?_⟩
    refine ⟨Nat.zero_le _, fun o no => ?_⟩
    have es' : upd H o (.lst []) st = some (.tup (as.map V.ref)) := same_new (Same.refl H) no _ _ es
    refine ⟨_, rfl, st, rfl, ⟨_, SqT.of es'⟩, for_tup (xs := as.map V.ref) (fun i σ' H' => ∃ (x5 x6 : Option V) (kk : Int) (bs : List Addr) (qs : List (Int × Int)), σ' = [some (.ref a), some (.int kk), some (.int so), some (.ref st), some (.ref o), x5, x6] ∧ Same H H' ∧ H' o = some (.lst (bs.map V.ref)) ∧ TupsAt H' bs (qs.map stepV) ∧ qs.length ≤ i ∧ qs ++ tailOf (ps.drop i) kk = tailOf ps k) ⟨_, _, k, [], [], rfl, same_new (Same.refl H) no, upd_same, TupsAt.nil, Nat.le_refl _, rfl⟩ (fun i σ' H' hi hm => ?_) (fun i x σ' H' hx hm => ?_) (fun σ' H' hm => ?_)⟩
    · obtain ⟨x5, x6, kk, bs, qs, rfl, sm, _⟩ := hm
      exact SqT.of (sm _ _ es)
    · obtain ⟨x5, x6, kk, bs, qs, rfl, sm, eo, tb, hq, et⟩ := hm
      obtain ⟨b, t, g, rfl, ep, eb⟩ := step_get tu hx
      have hd : ps.drop i = (t, g) :: ps.drop (i + 1) := by
        obtain ⟨hi, e⟩ := List.getElem?_eq_some_iff.mp ep
        rw [List.drop_eq_getElem_cons hi, e]
      rw [hd] at et
      have et : qs ++ ((if kk < g then [(t, g - (if 0 > kk then 0 else kk))] else []) ++ tailOf (ps.drop (i + 1)) (kk - g)) = tailOf ps k := et
      have hips : i < ps.length := (List.getElem?_eq_some_iff.mp ep).1
      refine ⟨b, _, rfl, SqT.of (sm _ _ eb), rfl, _, _, rfl, _, _, rfl, rfl, ?_⟩
      refine ⟨fun σ' H' => ∃ (bs : List Addr) (qs : List (Int × Int)), σ' = [some (.ref a), some (.int kk), some (.int so), some (.ref st), some (.ref o), some (.int t), some (.int g)] ∧ Same H H' ∧ H' o = some (.lst (bs.map V.ref)) ∧ TupsAt H' bs (qs.map stepV) ∧ qs.length ≤ i + 1 ∧ qs ++ tailOf (ps.drop (i + 1)) (kk - g) = tailOf ps k, ?_, fun σ' H' hm => ?_⟩
      · refine ⟨_, rfl, _, rfl, _, _, rfl, rfl, _, rfl, ite2 (fun e => ?_) (fun e => ?_)⟩
        · refine ⟨_, rfl, .inl ⟨rfl, _, SqL.of eo⟩, _, rfl, _, rfl, _, rfl, _, _, rfl, _, _, rfl, rfl, (by show 2 ≤ sizeLine; decide), fun z nz => ?_⟩
          have eo' : upd H' z (.tup [.int t, .int (g - (if 0 > kk then 0 else kk))]) o = some (.lst (bs.map V.ref)) := by
            rw [upd_ne (ne_of_none eo nz)]
            exact eo
          refine ⟨o, _, _, rfl, rfl, eo', ?_, ?_⟩
          · have := tb.1
            rw [List.length_map] at this
            rw [List.length_map]
            exact small1000 (by omega)
          refine ⟨bs ++ [z], qs ++ [(t, g - (if 0 > kk then 0 else kk))], rfl, same_mine (same_new sm nz) no, ?_, ?_, ?_, ?_⟩
          · rw [upd_same, List.map_append]
            rfl
          · rw [List.map_append]
            exact ((tb.mono (Tups.new nz)).snoc upd_same).mono (Tups.ls eo')
          · rw [List.length_append]
            show qs.length + 1 ≤ i + 1
            omega
          · rw [if_pos (of_decide_eq_true e)] at et
            rw [← et, List.append_assoc]
        · rw [if_neg (fun z => e (decide_eq_true z)), List.nil_append] at et
          exact ⟨bs, qs, rfl, sm, eo, tb, by omega, et⟩
      · obtain ⟨bs, qs, rfl, sm, eo, tb, hq, et⟩ := hm
        exact ⟨_, rfl, _, rfl, _, _, rfl, rfl, _, _, _, bs, qs, rfl, sm, eo, tb, hq, et⟩
    · obtain ⟨x5, x6, kk, bs, qs, rfl, sm, eo, tb, hq, et⟩ := hm
      rw [List.length_map, hlen, List.drop_length] at et
      have et : qs ++ [] = tailOf ps k := et
      rw [List.append_nil] at et
      subst et
      refine ⟨_, rfl, _, rfl, o, _, rfl, .inl ⟨SqL.of eo, fun U nU => ?_⟩⟩
      refine ⟨(by show 2 ≤ sizeLine; decide), fun W nW => ?_⟩
      have nWU : U ≠ W := fun e => by
        rw [← e, upd_same] at nW
        cases nW
      have s1 : Same H (upd H' U (.tup (bs.map V.ref))) := same_new sm nU
      refine q _ W (same_new s1 nW) (Same.free s1 nW) ⟨U, bs, upd_same, ?_, (tb.mono (Tups.new nU)).mono (Tups.new nW)⟩
      rw [upd_ne nWU, upd_same]
theorem ok_numbers_of {f : Addr} {fd : FuncData} {k : Nat} (F : Fun K "numbers_of" "numbers_of" s_numbers_of f fd) (bi : Bi mg) : FnOk P w K mg base CX0 (k + 1) f fd P_numbers_of spNumbers := by
  refine F.ok sc_numbers_of (fun vs H Q E h => ?_) (fun cdv A outer s H vs Q E hr h => ?_)
  · obtain ⟨a, ns, rfl, _⟩ := h
    rfl
  · obtain ⟨a, ns, rfl, ea, hl, q⟩ := h
    refine ⟨_, (pss_one (ps_ret (pe_callTy call_tuple_of (by rfl) bi.m_tuple (by decide +kernel) (pa_cons (pe_lc (own := [("number", 1), ("thickness", 2)]) (g := (gTup K 2 (gCons (gName 1) (gCons (gName 2) gNil)))) rfl sc_numbers_of.nd (pi_enum (by rfl) bi.m_enumerate (pa_cons (pv 0) pa_nil)) (blkOk_by (N := N_numbers_of) (sc := defScope s_numbers_of) (by decide +kernel)) (fun _ _ _ _ _ => (pg_tup rfl (pgs_cons (pg_name (i := 1) sc_numbers_of.nd rfl (.inl rfl) (.inr rfl)) (pgs_cons (pg_name (i := 2) sc_numbers_of.nd rfl (.inl rfl) (.inr rfl)) pgs_nil)))) (fun _ _ _ _ _ => (pts_one (pt_cmpR op_gt (pv 2) pe_int (nomark _)))) (fun _ _ _ _ _ => (pv 1))) pa_nil)))), ?_⟩
    refine ⟨_, rfl, a, _, rfl, SqL.of ea, fun D nD => ?_⟩
    refine lc_it (walk_enum (xs := ns.map V.int)) (fun i H' => Same H H' ∧ H' D = some (.lst ((numsFrom 0 (ns.take i)).map V.int)) ∧ i ≤ ns.length) ⟨same_new (Same.refl H) nD, upd_same, Nat.zero_le _⟩ (fun i H' hi hm => SqL.of (hm.1 _ _ ea)) (fun i x H' H2 hi hm hy => ?_) (fun H' hm => ?_)
    · obtain ⟨sm, eD, _⟩ := hm
      obtain ⟨T, x1, x2, rfl, nT, rfl, f1, f2⟩ := hy
      obtain ⟨n, rfl, en⟩ := int_get f2
      have e1 : x1 = .int (i : Nat) := (Option.some.inj f1).symm
      subst e1
      have hi' : i < ns.length := (List.getElem?_eq_some_iff.mp en).1
      have s1 : Same H (upd H' T (.tup [.int (i : Nat), .int n])) := same_new sm nT
      have eD1 : upd H' T (.tup [.int (i : Nat), .int n]) D = some (.lst ((numsFrom 0 (ns.take i)).map V.int)) := by
        rw [upd_ne (ne_of_none eD nT)]
        exact eD
      have hs : numsFrom 0 (ns.take (i + 1)) = numsFrom 0 (ns.take i) ++ (if 0 < n then [(i : Int)] else []) := by
        rw [List.take_add_one, en]
        show numsFrom 0 (ns.take i ++ [n]) = _
        rw [nums_snoc, List.length_take, Nat.min_eq_left (by omega), Nat.zero_add]
      refine ⟨T, _, rfl, SqT.of upd_same, rfl, _, _, rfl, _, _, rfl, rfl, rfl, ?_⟩
      refine ⟨_, rfl, _, _, rfl, rfl, _, rfl, ite2 (fun e => ?_) (fun e => ?_)⟩
      · refine ⟨_, rfl, _, eD1, ?_, same_mine s1 nD, ?_, by omega⟩
        · rw [List.length_map]
          have := nums_len (ns.take i) 0
          rw [List.length_take] at this
          exact small1000 (by omega)
        · rw [upd_same, hs, if_pos (of_decide_eq_true e), List.map_append]
          rfl
      · refine ⟨s1, ?_, by omega⟩
        rw [eD1, hs, if_neg (fun z => e (decide_eq_true z)), List.append_nil]
    · obtain ⟨sm, eD, _⟩ := hm
      rw [List.length_map, List.take_length] at eD
      refine ⟨D, _, rfl, .inl ⟨SqL.of eD, fun U nU => ?_⟩⟩
      exact q _ U (same_new sm nU) (Same.free sm nU) upd_same
theorem ok_running {f fT fN : Addr} {fd fdT fdN : FuncData} (F : Fun K "running" "running" s_running f fd) (bi : Bi mg) (C_thicknesses_at : Cal P w K mg base "thicknesses_at" P_thicknesses_at 3 spThicks fT fdT) (C_numbers_of : Cal P w K mg base "numbers_of" P_numbers_of 1 spNumbers fN fdN) : FnOk P w K mg base CX0 4 f fd P_running spRunning := by
  refine F.ok sc_running (fun vs H Q E h => ?_) (fun cdv A outer s H vs Q E hr h => ?_)
  · obtain ⟨a, Ls, p, rfl, _⟩ := h
    rfl
  · obtain ⟨a, Ls, p, rfl, hs, hl, q⟩ := h
    refine ⟨_, (pss_one (ps_ret (pe_call (C_numbers_of.G.mono (by decide)) hr (by rfl) C_numbers_of.g C_numbers_of.kp C_numbers_of.b .nil pass0 (pa_cons (pe_call (C_thicknesses_at.G.mono (by decide)) hr (by rfl) C_thicknesses_at.g C_thicknesses_at.kp C_thicknesses_at.b .nil pass0 (pa_cons (pv 0) (pa_cons (pv 1) pa_nil))) pa_nil)))), ?_⟩
    refine ⟨_, rfl, _, rfl, a, Ls, p, rfl, hs, hl, fun H1 o s1 no eo => ?_⟩
    refine ⟨o, _, rfl, eo, by rw [List.length_map]; exact hl, fun H2 u s2 nu eu => ?_⟩
    exact q _ u (s1.trans s2) (Same.free s1 nu) eu
theorem ok_sorts_of {f : Addr} {fd : FuncData} {k : Nat} (F : Fun K "sorts_of" "sorts_of" s_sorts_of f fd) (bi : Bi mg) : FnOk P w K mg base CX0 (k + 1) f fd P_sorts_of spSorts := by
  refine F.ok sc_sorts_of (fun vs H Q E h => ?_) (fun cdv A outer s H vs Q E hr h => ?_)
  · obtain ⟨a, t, Ls, p, rfl, _⟩ := h
    rfl
  · obtain ⟨a, t, Ls, p, rfl, ⟨as, ea, la⟩, et, hg, q⟩ := h
    refine ⟨_, (pss_cons (ps_asg2 pe_int (pg_name (i := 2) sc_sorts_of.nd rfl (.inl rfl)) (pg_name (i := 3) sc_sorts_of.nd rfl (.inl rfl)))
    (pss_cons (ps_for PassesOwn.never rfl (pi_mix (by rfl) bi.m_zip (pa_cons (pv 0) (pa_cons (pv 1) pa_nil))) (pg_tup rfl (pgs_cons (pg_name (i := 4) sc_sorts_of.nd rfl (.inl rfl)) (pgs_cons (pg_name (i := 5) sc_sorts_of.nd rfl (.inl rfl)) pgs_nil)))
      (pss_one (ps_if (pt_cmpR op_eq (pe_ix ix_tup (pe_ix ix_tup (pv 4) pe_int (fun _ _ => rfl)) pe_int (fun _ _ => rfl)) pe_int (nomark _))
          (pss_one (ps_aug (i := 2) sc_sorts_of.nd rfl (.inl rfl) (pv 5) ip_add))
          (pss_one (ps_aug (i := 3) sc_sorts_of.nd rfl (.inl rfl) (pv 5) ip_add)))))
    (pss_one (ps_ret (pe_tup (pa_cons (pv 2) (pa_cons (pv 3) pa_nil))))))), ?_⟩
    have hlen : (as.map V.ref).length = ((Ls.map fun L => thickL L p).map V.int).length := by
      rw [List.length_map, List.length_map, List.length_map]
      exact la.1
    refine ⟨_, rfl, _, rfl, a, t, _, _, rfl, SqT.of ea, SqL.of et, for_it (walk_mix hlen) (fun i σ' H' => ∃ (x4 x5 : Option V), σ' = [some (.ref a), some (.ref t), some (.int (s0 (Ls.take i) p)), some (.int (s1 (Ls.take i) p)), x4, x5] ∧ Same H H') ⟨_, _, rfl, Same.refl H⟩ (fun i σ' H' hi hm => ?_) (fun i x σ' H' H2 hi hm hy => ?_) (fun σ' H' hm => ?_)⟩
    · obtain ⟨x4, x5, rfl, sm⟩ := hm
      exact ⟨SqT.of (sm _ _ ea), SqL.of (sm _ _ et)⟩
    · obtain ⟨x4, x5, rfl, sm⟩ := hm
      obtain ⟨c, y1, y2, rfl, nc, rfl, f1, f2⟩ := hy
      obtain ⟨b, L, rfl, _, eL, hb⟩ := laid_get la f1
      obtain ⟨n, rfl, en⟩ := int_get f2
      rw [List.getElem?_map, eL] at en
      have en : thickL L p = n := Option.some.inj en
      subst en
      have s1' : Same H (upd H' c (.tup [.ref b, .int (thickL L p)])) := same_new sm nc
      obtain ⟨wa, eb, st, cs, ew, _⟩ := LaidAt.same s1' hb
      have e1 : Ls.take (i + 1) = Ls.take i ++ [L] := by
        rw [List.take_add_one, eL]
        rfl
      refine ⟨c, _, rfl, SqT.of upd_same, rfl, _, _, rfl, _, _, rfl, rfl, ?_⟩
      refine ⟨_, rfl, b, _, 0, _, rfl, rfl, SqT.of eb, atI_nat (j := 0) rfl, wa, _, 0, _, rfl, rfl, SqT.of ew, atI_nat (j := 0) rfl, rfl, _, rfl, ite2 (fun e => ?_) (fun e => ?_)⟩
      · have e0 : L.so = 0 := V.int.inj (of_decide_eq_true e)
        refine ⟨_, rfl, _, rfl, _, _, rfl, rfl, some (.ref b), some (.int (thickL L p)), ?_, s1'⟩
        rw [e1, s0_snoc, s1_snoc, if_pos e0, if_pos e0, Int.add_zero]
        rfl
      · have e0 : ¬ L.so = 0 := fun z => e (decide_eq_true (by rw [z]))
        refine ⟨_, rfl, _, rfl, _, _, rfl, rfl, some (.ref b), some (.int (thickL L p)), ?_, s1'⟩
        rw [e1, s0_snoc, s1_snoc, if_neg e0, if_neg e0, Int.add_zero]
        rfl
    · obtain ⟨x4, x5, rfl, sm⟩ := hm
      rw [List.length_map, la.1, List.take_length]
      refine ⟨_, rfl, _, rfl, (by show 2 ≤ sizeLine; decide), fun o no => ?_⟩
      exact q _ o (same_new sm no) (sm.free no) upd_same
theorem ok_by_sorts {f fT fS : Addr} {fd fdT fdS : FuncData} (F : Fun K "by_sorts" "by_sorts" s_by_sorts f fd) (bi : Bi mg) (C_thicknesses_at : Cal P w K mg base "thicknesses_at" P_thicknesses_at 3 spThicks fT fdT) (C_sorts_of : Cal P w K mg base "sorts_of" P_sorts_of 1 spSorts fS fdS) : FnOk P w K mg base CX0 4 f fd P_by_sorts spBy := by
  refine F.ok sc_by_sorts (fun vs H Q E h => ?_) (fun cdv A outer s H vs Q E hr h => ?_)
  · obtain ⟨a, Ls, p, rfl, _⟩ := h
    rfl
  · obtain ⟨a, Ls, p, rfl, hs, hl, hg, q⟩ := h
    refine ⟨_, (pss_one (ps_ret (pe_call (C_sorts_of.G.mono (by decide)) hr (by rfl) C_sorts_of.g C_sorts_of.kp C_sorts_of.b .nil pass0 (pa_cons (pv 0) (pa_cons (pe_call (C_thicknesses_at.G.mono (by decide)) hr (by rfl) C_thicknesses_at.g C_thicknesses_at.kp C_thicknesses_at.b .nil pass0 (pa_cons (pv 0) (pa_cons (pv 1) pa_nil))) pa_nil))))), ?_⟩
    refine ⟨_, rfl, _, rfl, _, rfl, a, Ls, p, rfl, hs, hl, fun H1 t s1 nt et => ?_⟩
    exact ⟨a, t, Ls, p, rfl, hs.mono (Tups.same s1), et, hg, fun H2 o s2 no eo => q _ o (s1.trans s2) (s1.free no) eo⟩
theorem ok_thick {f fP : Addr} {fd fdP : FuncData} (F : Fun K "thick" "thick" s_thick f fd) (bi : Bi mg) (C_thicknesses_at : Cal P w K mg base "thicknesses_at" P_thicknesses_at 3 spThicks fP fdP) : FnOk P w K mg base CX0 4 f fd P_thick spThickS := by
  refine F.ok sc_thick (fun vs H Q E h => ?_) (fun cdv A outer s H vs Q E hr h => ?_)
  · obtain ⟨a, Ls, p, rfl, _⟩ := h
    rfl
  · obtain ⟨a, Ls, p, rfl, hs, hl, q⟩ := h
    refine ⟨_, (pss_one (ps_ret (pe_callB (cr_sum rfl) (by rfl) bi.m_sum (by decide +kernel) (pa_cons (pe_call (C_thicknesses_at.G.mono (by decide)) hr (by rfl) C_thicknesses_at.g C_thicknesses_at.kp C_thicknesses_at.b .nil pass0 (pa_cons (pv 0) (pa_cons (pv 1) pa_nil))) pa_nil)))), ?_⟩
    refine ⟨_, rfl, _, rfl, a, Ls, p, rfl, hs, hl, fun H1 o s1 no eo => ?_⟩
    exact ⟨o, _, rfl, SqL.of eo, q _ s1⟩
theorem ok_end_of {f fP : Addr} {fd fdP : FuncData} (F : Fun K "end_of" "end_of" s_end_of f fd) (bi : Bi mg) (C_parts_of : Cal P w K mg base "parts_of" P_parts_of 1 spPartsOf fP fdP) : FnOk P w K mg base CX0 2 f fd P_end_of spEnd := by
  refine F.ok sc_end_of (fun vs H Q E h => ?_) (fun cdv A outer s H vs Q E hr h => ?_)
  · obtain ⟨a, Ls, rfl, _⟩ := h
    rfl
  · obtain ⟨a, Ls, rfl, ⟨as, ea, la⟩, hl, hg, q⟩ := h
    refine ⟨_, (pss_one (ps_ret (pe_callBK (call_maxD rfl) (by rfl) bi.m_max (by decide +kernel) (pa_cons (pe_lc2 (own := [("laid", 1), ("start", 2), ("end", 3), ("thickness", 4)]) (vs1 := [2, 3, 4]) (g := (gName 1)) (g1 := (gTup K 3 (gCons (gName 2) (gCons (gName 3) (gCons (gName 4) gNil))))) (tt := tYes) (tt1 := tYes) (wi1 := (iList K (tCall spPartsOf [] E0 (tCons (tVar 1) tNil)))) rfl sc_end_of.nd (pi_tup (pv 0)) (blkOk_by (N := N_end_of) (sc := defScope s_end_of) (by decide +kernel)) (by decide) (fun _ _ _ _ _ => (pg_name (i := 1) sc_end_of.nd rfl (.inl rfl) (.inr rfl))) (fun _ _ _ _ _ => pts_nil) (fun _ _ _ _ _ => (pi_list (pe_call (C_parts_of.G.mono (by decide)) hr (by rfl) C_parts_of.g C_parts_of.kp C_parts_of.b .nil pass0 (pa_cons (pv 1) pa_nil)))) (fun _ _ _ _ _ => (pg_tup rfl (pgs_cons (pg_name (i := 2) sc_end_of.nd rfl (.inl rfl) (.inr rfl)) (pgs_cons (pg_name (i := 3) sc_end_of.nd rfl (.inl rfl) (.inr rfl)) (pgs_cons (pg_name (i := 4) sc_end_of.nd rfl (.inl rfl) (.inr rfl)) pgs_nil))))) (fun _ _ _ _ _ => pts_nil) (fun _ _ _ _ _ => (pv 3))) pa_nil) (pk_cons pe_int pk_nil)))), ?_⟩
    refine ⟨_, rfl, a, rfl, ⟨_, SqT.of ea⟩, fun D nD => ?_⟩
    refine ⟨fun i m H' => i + m = as.length ∧ Same H H' ∧ H' D = some (.lst ((((Ls.take i).map endsOf).flatten).map V.int)) ∧ (((Ls.take i).map endsOf).flatten).length ≤ 10 * i, ⟨as.length, Nat.zero_add _, same_new (Same.refl H) nD, upd_same, Nat.zero_le _⟩, fun i m H' hm => ?_⟩
    obtain ⟨em, sm, eD, hle⟩ := hm
    have hT : SqT K H' a (as.map V.ref) := SqT.of (sm _ _ ea)
    by_cases hi : i < as.length
    · have g1 : (as.map V.ref)[i]? = some (.ref as[i]) := by
        rw [List.getElem?_map, List.getElem?_eq_getElem hi]
        rfl
      obtain ⟨b, L, eb, _, eL, hb⟩ := laid_get la g1
      have gL := hg L (List.mem_of_getElem? eL)
      have h10 := gL.1.2.1
      have htk : ((Ls.take (i + 1)).map endsOf).flatten = ((Ls.take i).map endsOf).flatten ++ endsOf L := by
        rw [take_map_succ _ eL, List.flatten_append]
        simp
      refine .inr ⟨⟨_, _, hT, g1⟩, fun H2 => Same H H2 ∧ H2 D = some (.lst ((((Ls.take (i + 1)).map endsOf).flatten).map V.int)) ∧ (((Ls.take (i + 1)).map endsOf).flatten).length ≤ 10 * (i + 1), fun H2 hN => ⟨m - 1, by omega, by omega, hN.1, hN.2.1, hN.2.2⟩, fun x H2 hy => ?_⟩
      obtain ⟨rfl, fx⟩ := hy
      have ex : x = .ref b := (Option.some.inj ((fx _ hT).symm.trans g1)).trans eb
      subst ex
      refine ⟨rfl, yesIte ?_⟩
      refine ⟨_, rfl, b, L, rfl, LaidAt.same sm hb, h10, fun H3 o s3 no ⟨bs, eo, tb⟩ => ?_⟩
      have hlb : bs.length = (partsOf L.le L.ps L.pl).length := by
        have := tb.1
        rw [List.length_map] at this
        exact this
      have hpl := part_len (le := L.le) L.ps L.pl
      have nDo : D ≠ o := ne_of_none eD no
      refine ⟨o, rfl, ⟨_, SqL.of eo⟩, fun j n H4 => j + n = bs.length ∧ Same H H4 ∧ H4 o = some (.lst (bs.map V.ref)) ∧ TupsAt H4 bs ((partsOf L.le L.ps L.pl).map rowV) ∧ H4 D = some (.lst ((((Ls.take i).map endsOf).flatten ++ ((partsOf L.le L.ps L.pl).take j).map fun t => t.2.1).map V.int)), ⟨bs.length, Nat.zero_add _, sm.trans s3, eo, tb, ?_⟩, fun j n H4 hm => ?_⟩
      · rw [s3 _ _ eD]
        show some (HO.lst (List.map V.int _)) = some (HO.lst (List.map V.int (_ ++ [])))
        rw [List.append_nil]
      obtain ⟨ej, s4, eo4, tb4, eD4⟩ := hm
      have hO : SqL K H4 o (bs.map V.ref) := SqL.of eo4
      by_cases hj : j < bs.length
      · have g2 : (bs.map V.ref)[j]? = some (.ref bs[j]) := by
          rw [List.getElem?_map, List.getElem?_eq_getElem hj]
          rfl
        obtain ⟨z, c1, c2, c3, ez0, et, ez⟩ := row_get tb4 g2
        refine .inr ⟨⟨_, _, hO, g2⟩, fun H5 => Same H H5 ∧ H5 o = some (.lst (bs.map V.ref)) ∧ TupsAt H5 bs ((partsOf L.le L.ps L.pl).map rowV) ∧ H5 D = some (.lst ((((Ls.take i).map endsOf).flatten ++ ((partsOf L.le L.ps L.pl).take (j + 1)).map fun t => t.2.1).map V.int)), fun H5 hN => ⟨n - 1, by omega, by omega, hN.1, hN.2.1, hN.2.2.1, hN.2.2.2⟩, fun x H5 hy => ?_⟩
        obtain ⟨rfl, fx⟩ := hy
        have ex : x = .ref z := (Option.some.inj ((fx _ hO).symm.trans g2)).trans ez0
        subst ex
        refine ⟨z, _, rfl, SqT.of ez, rfl, _, _, rfl, _, _, rfl, _, _, rfl, rfl, rfl, yesIte ?_⟩
        refine ⟨_, rfl, _, eD4, ?_, same_mine s4 nD, ?_, tb4.mono (Tups.ls eD4), ?_⟩
        · rw [List.length_map, List.length_append, List.length_map, List.length_take]
          have : i ≤ 60 := by have := la.1; omega
          exact small1000 (by omega)
        · rw [upd_ne nDo.symm]
          exact eo4
        · rw [upd_same, take_map_succ _ et, ← List.append_assoc, List.map_append (f := V.int) (l₂ := [_])]
          rfl
      · have ej2 : j = bs.length := by omega
        refine .inl ⟨⟨_, hO, by rw [List.length_map]; omega⟩, s4, ?_, ?_⟩
        · rw [eD4, ej2, hlb, List.take_length, htk]
          rfl
        · rw [htk, List.length_append]
          have : (endsOf L).length ≤ 10 := by
            unfold endsOf
            rw [List.length_map]
            omega
          omega
    · have ei : i = as.length := by omega
      refine .inl ⟨⟨_, hT, by rw [List.length_map]; omega⟩, ?_⟩
      rw [ei, la.1, List.take_length] at eD
      refine ⟨D, _, 0, rfl, rfl, SqL.of eD, fun mm hmm => ?_⟩
      exact q _ mm sm (ends_ok hg hmm)
theorem ok_weight_between {f fP : Addr} {fd fdP : FuncData} (F : Fun K "weight_between" "weight_between" s_weight_between f fd) (bi : Bi mg) (C_parts_of : Cal P w K mg base "parts_of" P_parts_of 1 spPartsOf fP fdP) : FnOk P w K mg base CX0 2 f fd P_weight_between spBetween := by
  refine F.ok sc_weight_between (fun vs H Q E h => ?_) (fun cdv A outer s H vs Q E hr h => ?_)
  · obtain ⟨a, Ls, x, y, rfl, _⟩ := h
    rfl
  · obtain ⟨a, Ls, x, y, rfl, ⟨as, ea, la⟩, hl, hg, q⟩ := h
    refine ⟨_, (pss_cons (ps_set (i := 3) sc_weight_between.nd rfl (.inl rfl) pe_int)
    (pss_cons (ps_for PassesOwn.never rfl (pi_tup (pv 0)) (pg_name (i := 4) sc_weight_between.nd rfl (.inl rfl))
      (pss_one (ps_for PassesOwn.never rfl (pi_list (pe_call (C_parts_of.G.mono (by decide)) hr (by rfl) C_parts_of.g C_parts_of.kp C_parts_of.b .nil pass0 (pa_cons (pv 4) pa_nil))) (pg_tup rfl (pgs_cons (pg_name (i := 5) sc_weight_between.nd rfl (.inl rfl)) (pgs_cons (pg_name (i := 6) sc_weight_between.nd rfl (.inl rfl)) (pgs_cons (pg_name (i := 7) sc_weight_between.nd rfl (.inl rfl)) pgs_nil))))
          (pss_one (ps_aug (i := 3) sc_weight_between.nd rfl (.inl rfl) (pe_op op_mulW (pv 7) (pe_callB (call_max2 rfl) (by rfl) bi.m_max (by decide +kernel) (pa_cons pe_int (pa_cons (pe_op op_sub (pe_callB (call_min2 rfl) (by rfl) bi.m_min (by decide +kernel) (pa_cons (pv 6) (pa_cons (pv 2) pa_nil))) (pe_callB (call_max2 rfl) (by rfl) bi.m_max (by decide +kernel) (pa_cons (pv 5) (pa_cons (pv 1) pa_nil)))) pa_nil)))) ip_add)))))
    (pss_one (ps_ret (pv 3))))), ?_⟩
    refine ⟨_, rfl, a, rfl, ⟨_, SqT.of ea⟩, for_tup (xs := as.map V.ref) (fun i σ' H' => ∃ (x4 x5 x6 x7 : Option V), σ' = [some (.ref a), some (.int x), some (.int y), some (.int (WL x y (Ls.take i))), x4, x5, x6, x7] ∧ Same H H') ⟨_, _, _, _, rfl, Same.refl H⟩ (fun i σ' H' hi hm => ?_) (fun i v σ' H' hx hm => ?_) (fun σ' H' hm => ?_)⟩
    · obtain ⟨x4, x5, x6, x7, rfl, sm⟩ := hm
      exact SqT.of (sm _ _ ea)
    · obtain ⟨x4, x5, x6, x7, rfl, sm⟩ := hm
      obtain ⟨b, L, rfl, _, eL, hb⟩ := laid_get la hx
      have gL := hg L (List.mem_of_getElem? eL)
      have e1 : Ls.take (i + 1) = Ls.take i ++ [L] := by
        rw [List.take_add_one, eL]
        rfl
      refine ⟨_, rfl, b, L, rfl, LaidAt.same sm hb, gL.1.2.1, fun H3 o s3 no ⟨bs, eo, tb⟩ => ?_⟩
      have hlb : bs.length = (partsOf L.le L.ps L.pl).length := by
        have := tb.1
        rw [List.length_map] at this
        exact this
      refine ⟨o, rfl, ⟨_, SqL.of eo⟩, for_list (xs := bs.map V.ref) (fun j σ' H4 => ∃ (x5 x6 x7 : Option V), σ' = [some (.ref a), some (.int x), some (.int y), some (.int (WL x y (Ls.take i) + wsum x y ((partsOf L.le L.ps L.pl).take j))), some (.ref b), x5, x6, x7] ∧ H4 = H3) ⟨x5, x6, x7, ?_, rfl⟩ (fun j σ' H4 hj hm => ?_) (fun j v σ' H4 hx hm => ?_) (fun σ' H4 hm => ?_)⟩
      · show _ = [_, _, _, some (V.int (WL x y (Ls.take i) + 0)), _, _, _, _]
        rw [Int.add_zero]
        rfl
      · obtain ⟨x5, x6, x7, rfl, rfl⟩ := hm
        exact SqL.of eo
      · obtain ⟨x5, x6, x7, rfl, rfl⟩ := hm
        obtain ⟨z, c1, c2, c3, rfl, et, ez⟩ := row_get tb hx
        have hmul := ovl_mul gL (List.mem_of_getElem? et) x y
        refine ⟨z, _, rfl, SqT.of ez, rfl, _, _, rfl, _, _, rfl, _, _, rfl, rfl, ?_⟩
        have e2 : (partsOf L.le L.ps L.pl).take (j + 1) = (partsOf L.le L.ps L.pl).take j ++ [(c1, c2, c3)] := by
          rw [List.take_add_one, et]
          rfl
        refine ⟨_, rfl, _, rfl, _, rfl, _, rfl, _, _, rfl, _, rfl, _, rfl, _, _, rfl, _, _, rfl, rfl, _, _, rfl, _, _, rfl, rfl, hmul, _, _, rfl, rfl, some (.int c1), some (.int c2), some (.int c3), ?_, rfl⟩
        rw [e2, wsum_app, wsum_cons, ← Int.add_assoc]
        show _ = [_, _, _, some (V.int (WL x y (Ls.take i) + wsum x y ((partsOf L.le L.ps L.pl).take j) + (c3 * ovl x y (c1, c2, c3) + 0))), _, _, _, _]
        rw [Int.add_zero]
        rfl
      · obtain ⟨x5, x6, x7, rfl, rfl⟩ := hm
        refine ⟨some (.ref b), x5, x6, x7, ?_, sm.trans s3⟩
        rw [List.length_map, hlb, List.take_length, e1, WL_snoc]
    · obtain ⟨x4, x5, x6, x7, rfl, sm⟩ := hm
      refine ⟨_, rfl, ?_⟩
      rw [List.length_map, la.1, List.take_length]
      exact q _ sm
theorem ok_changes_of {f fP : Addr} {fd fdP : FuncData} (F : Fun K "changes_of" "changes_of" s_changes_of f fd) (bi : Bi mg) (C_parts_of : Cal P w K mg base "parts_of" P_parts_of 1 spPartsOf fP fdP) : FnOk P w K mg base CX0 2 f fd P_changes_of spChanges := by
  refine F.ok sc_changes_of (fun vs H Q E h => ?_) (fun cdv A outer s H vs Q E hr h => ?_)
  · obtain ⟨a, Ls, rfl, _⟩ := h
    rfl
  · obtain ⟨a, Ls, rfl, ⟨as, ea, la⟩, hl, hg, q⟩ := h
    refine ⟨_, (pss_cons (ps_set (i := 1) sc_changes_of.nd rfl (.inl rfl) (pe_disp (pps_cons pe_int (pe_lst pa_nil) pps_nil) rfl rfl (by decide) (by decide)))
    (pss_cons (ps_for PassesOwn.never rfl (pi_enuT (by rfl) bi.m_enumerate (pa_cons (pv 0) pa_nil)) (pg_tup rfl (pgs_cons (pg_name (i := 2) sc_changes_of.nd rfl (.inl rfl)) (pgs_cons (pg_name (i := 3) sc_changes_of.nd rfl (.inl rfl)) pgs_nil)))
      (pss_one (ps_for PassesOwn.never rfl (pi_list (pe_call (C_parts_of.G.mono (by decide)) hr (by rfl) C_parts_of.g C_parts_of.kp C_parts_of.b .nil pass0 (pa_cons (pv 3) pa_nil))) (pg_tup rfl (pgs_cons (pg_name (i := 4) sc_changes_of.nd rfl (.inl rfl)) (pgs_cons (pg_name (i := 5) sc_changes_of.nd rfl (.inl rfl)) (pgs_cons (pg_name (i := 6) sc_changes_of.nd rfl (.inl rfl)) pgs_nil))))
          (C8.pss_cut (ps_expr (pe_bm PySem.F.plainAttrs_list PySem.F.slot_list_append PySem.F.type_list_append mt_append (pe_dsetd (pv 1) (pv 4) (pe_lst pa_nil) ⟨rfl, rfl, rfl, rfl⟩) (pa_cons (pe_tup (pa_cons (pv 2) (pa_cons (pv 6) pa_nil))) pa_nil)))
            (pss_one (ps_expr (pe_bm PySem.F.plainAttrs_list PySem.F.slot_list_append PySem.F.type_list_append mt_append (pe_dsetd (pv 1) (pv 5) (pe_lst pa_nil) ⟨rfl, rfl, rfl, rfl⟩) (pa_cons (pe_tup (pa_cons (pv 2) (pa_cons pe_int pa_nil))) pa_nil))))))))
    (pss_one (ps_ret (pv 1))))), ?_⟩
    intro d nd
    refine ⟨Nat.zero_le _, fun Z nZ => ?_⟩
    have ed0 : upd H d (.dK []) d = some (.dK []) := upd_same
    have ndZ : d ≠ Z := ne_of_none ed0 nZ
    have sZ : Same H (upd (upd H d (.dK [])) Z (.lst [])) := same_new (same_new (Same.refl H) nd) nZ
    have nZH : H Z = none := (same_new (o := .dK []) (Same.refl H) nd).free nZ
    refine ⟨by rw [upd_ne ndZ]; exact ed0, [(Sum.inl 0, .ref Z)], rfl, (by show 1 ≤ 15; decide), ?_⟩
    have e1 : mergeK [] [((Sum.inl 0 : Key), V.ref Z)] = [((Sum.inl 0 : Key), V.ref Z)] := rfl
    rw [e1]
    have sm0 : Same H (upd (upd (upd H d (.dK [])) Z (.lst [])) d (.dK [((Sum.inl 0 : Key), V.ref Z)])) := same_mine sZ nd
    have v0 : ∀ k : Int, valV [((Sum.inl 0 : Key), V.ref Z)] (Sum.inl k) = if k = 0 then some (.ref Z) else none := fun k => by
      by_cases h : k = 0
      · rw [if_pos h, h]
        rfl
      · rw [if_neg h, valV_neg (fun z => h (Sum.inl.inj z).symm)]
        rfl
    have D0 : DAtK H (upd (upd (upd H d (.dK [])) Z (.lst [])) d (.dK [((Sum.inl 0 : Key), V.ref Z)])) d [((Sum.inl 0 : Key), V.ref Z)] 1 (Keys []) (fun k => Wall k 0 []) := by
      refine ⟨upd_same, ⟨fun x hx => ?_, by simp⟩, Nat.le_refl _, fun k => ?_, fun _ _ => rfl, fun k v e => ?_, fun k k' v e e' => ?_⟩
      · simp only [List.mem_cons, List.not_mem_nil, or_false] at hx
        rw [hx]
        exact ⟨0, rfl⟩
      · rw [v0]
        constructor
        · rintro (h | ⟨L, hL, _⟩)
          · rw [if_pos h]
            exact ⟨_, rfl⟩
          · cases hL
        · rintro ⟨v, e⟩
          by_cases h : k = 0
          · exact .inl h
          · rw [if_neg h] at e
            cases e
      · rw [v0] at e
        by_cases h : k = 0
        · rw [if_pos h] at e
          cases e
          refine ⟨Z, [], rfl, nZH, ndZ.symm, ?_, TupsAt.nil⟩
          rw [upd_ne ndZ.symm]
          exact upd_same
        · rw [if_neg h] at e
          cases e
      · rw [v0] at e e'
        by_cases h : k = 0
        · by_cases h' : k' = 0
          · rw [h, h']
          · rw [if_neg h'] at e'
            cases e'
        · rw [if_neg h] at e
          cases e
    generalize upd (upd (upd H d (.dK [])) Z (.lst [])) d (.dK [((Sum.inl 0 : Key), V.ref Z)]) = H0 at sm0 D0
    refine ⟨_, rfl, a, _, rfl, SqT.of (sm0 _ _ ea), for_it (walk_enuT (xs := as.map V.ref)) (fun i σ' H' => ∃ (x2 x3 x4 x5 x6 : Option V) (kvs : List (Key × V)), σ' = [some (.ref a), some (.ref d), x2, x3, x4, x5, x6] ∧ Same H H' ∧ DAtK H H' d kvs (1 + 20 * i) (Keys (Ls.take i)) (fun k => Wall k 0 (Ls.take i))) ⟨_, _, _, _, _, _, rfl, sm0, D0⟩ (fun i σ' H' hi hm => ?_) (fun i x σ' H' H2 hi hm hy => ?_) (fun σ' H' hm => ?_)⟩
    · obtain ⟨x2, x3, x4, x5, x6, kvs, rfl, sm, _⟩ := hm
      exact SqT.of (sm _ _ ea)
    · obtain ⟨x2, x3, x4, x5, x6, kvs, rfl, sm, D⟩ := hm
      obtain ⟨c, y1, y2, rfl, nc, rfl, f1, f2⟩ := hy
      have ey : y1 = .int (i : Nat) := (Option.some.inj f1).symm
      subst ey
      obtain ⟨b, L, rfl, _, eL, hb⟩ := laid_get la f2
      have gL := hg L (List.mem_of_getElem? eL)
      have h10 := gL.1.2.1
      have hi60 : i < Ls.length := (List.getElem?_eq_some_iff.mp eL).1
      have e2 : Ls.take (i + 1) = Ls.take i ++ [L] := by
        rw [List.take_add_one, eL]
        rfl
      have s2 : Same H (upd H' c (.tup [.int (i : Nat), .ref b])) := same_new sm nc
      have D2 := D.new (o := .tup [.int (i : Nat), .ref b]) nc
      refine ⟨c, _, rfl, SqT.of upd_same, rfl, _, _, rfl, _, _, rfl, rfl, ?_⟩
      generalize upd H' c (.tup [.int (i : Nat), .ref b]) = H2 at s2 D2
      refine ⟨_, rfl, b, L, rfl, LaidAt.same s2 hb, h10, fun H3 o s3 no ⟨bs, eo, tb⟩ => ?_⟩
      have D3 := D2.same s3
      have s23 := s2.trans s3
      have hlb : bs.length = (partsOf L.le L.ps L.pl).length := by
        have := tb.1
        rw [List.length_map] at this
        exact this
      have hpl := part_len (le := L.le) L.ps L.pl
      have noH : H o = none := s2.free no
      refine ⟨o, rfl, ⟨_, SqL.of eo⟩, for_list (xs := bs.map V.ref) (fun j σ' H4 => ∃ (x4 x5 x6 : Option V) (kvs : List (Key × V)), σ' = [some (.ref a), some (.ref d), some (.int (i : Nat)), some (.ref b), x4, x5, x6] ∧ Same H H4 ∧ H4 o = some (.lst (bs.map V.ref)) ∧ TupsAt H4 bs ((partsOf L.le L.ps L.pl).map rowV) ∧ (∀ k v, valV kvs (Sum.inl k) = some v → v ≠ .ref o) ∧ DAtK H H4 d kvs (1 + 20 * i + 2 * j) (fun k => Keys (Ls.take i) k ∨ ∃ y ∈ (partsOf L.le L.ps L.pl).take j, y.1 = k ∨ y.2.1 = k) (fun k => Wall k 0 (Ls.take i) ++ (wr k ((partsOf L.le L.ps L.pl).take j)).map fun t => ((i : Int), t))) ⟨x4, x5, x6, kvs, rfl, s23, eo, tb, ?_, ?_⟩ (fun j σ' H4 hj hm => ?_) (fun j x σ' H4 hx hm => ?_) (fun σ' H4 hm => ?_)⟩
      · intro k v e z
        obtain ⟨q', as', z1, _, _, z4, _⟩ := D2.2.2.2.2.2.1 k v e
        rw [z] at z1
        cases z1
        rw [no] at z4
        cases z4
      · refine D3.congr (Nat.le_refl _) (fun k => ⟨.inl, fun h => h.elim id fun ⟨y, hy, _⟩ => by cases hy⟩) fun k => ?_
        show _ = _ ++ []
        rw [List.append_nil]
      · obtain ⟨x4, x5, x6, kvs, rfl, s4, eo4, _⟩ := hm
        exact SqL.of eo4
      · obtain ⟨x4, x5, x6, kvs, rfl, s4, eo4, tb4, nv, D4⟩ := hm
        obtain ⟨z, c1, c2, c3, rfl, et, ez⟩ := row_get tb4 hx
        have hse := (part_ok gL (List.mem_of_getElem? et)).1
        have hj10 : j < 10 := by
          have := (List.getElem?_eq_some_iff.mp hx).1
          rw [List.length_map] at this
          omega
        have e5 : (partsOf L.le L.ps L.pl).take (j + 1) = (partsOf L.le L.ps L.pl).take j ++ [(c1, c2, c3)] := by
          rw [List.take_add_one, et]
          rfl
        have wl : ∀ k, (Wall k 0 (Ls.take i) ++ (wr k ((partsOf L.le L.ps L.pl).take j)).map fun t => ((i : Int), t)).length ≤ 1500 := fun k => by
          have h1 := wall_len k (Ls.take i) 0 fun M hM => hg M (List.mem_of_mem_take hM)
          have h2 := wr_len k ((partsOf L.le L.ps L.pl).take j)
          rw [List.length_take] at h1 h2
          rw [List.length_append, List.length_map]
          omega
        refine ⟨z, _, rfl, SqT.of ez, rfl, _, _, rfl, _, _, rfl, _, _, rfl, rfl, ?_⟩
        refine ⟨fun σ' H6 => σ' = [some (.ref a), some (.ref d), some (.int (i : Nat)), some (.ref b), some (.int c1), some (.int c2), some (.int c3)] ∧ Aft H H4 d o (bs.map V.ref) (1 + 20 * i + 2 * j) (fun k => Keys (Ls.take i) k ∨ ∃ y ∈ (partsOf L.le L.ps L.pl).take j, y.1 = k ∨ y.2.1 = k) (fun k => Wall k 0 (Ls.take i) ++ (wr k ((partsOf L.le L.ps L.pl).take j)).map fun t => ((i : Int), t)) c1 ((i : Int), c3) H6, ?_, fun σ' H6 hm => ?_⟩
        · refine ⟨_, rfl, d, rfl, .inl ⟨_, .inl D4.1⟩, _, rfl, Nat.zero_le _, fun Z nZ => ⟨kvs, Sum.inl c1, (upd_ne (ne_of_none D4.1 nZ)).trans D4.1, rfl, small2000 (by have := D4.2.2.1; omega), fun v hv => ?_, fun hn => ?_⟩⟩
          · obtain ⟨q', qs, rfl, eq, hlen, aft⟩ := D4.found s4 eo4 nv nZ hv ((i : Int), c3)
            refine ⟨.inl ⟨rfl, _, SqL.of eq⟩, _, rfl, _, rfl, (by show 2 ≤ sizeLine; decide), fun R nR => ⟨q', _, _, rfl, rfl, (upd_ne (ne_of_none eq nR)).trans eq, ?_, rfl, aft R nR⟩⟩
            rw [List.length_map, hlen]
            exact small2000 (Nat.le_trans (wl c1) (by decide))
          · obtain ⟨eZ, aft⟩ := D4.fresh s4 nd eo4 nv nZ hn ((i : Int), c3)
            refine ⟨.inl ⟨rfl, _, SqL.of eZ⟩, _, rfl, _, rfl, (by show 2 ≤ sizeLine; decide), fun R nR => ⟨Z, _, _, rfl, rfl, (upd_ne (ne_of_none eZ nR)).trans eZ, Nat.zero_lt_succ _, rfl, aft R nR⟩⟩
        obtain ⟨rfl, kvs5, D5, s5, t5, eo5, nv5⟩ := hm
        have c21 : ¬ c2 = c1 := by
          have : c1 < c2 := hse
          omega
        have fin : ∀ H7, Aft H H6 d o (bs.map V.ref) (1 + 20 * i + 2 * j + 1) (fun x => (Keys (Ls.take i) x ∨ ∃ y ∈ (partsOf L.le L.ps L.pl).take j, y.1 = x ∨ y.2.1 = x) ∨ x = c1) (fun x => if x = c1 then (Wall c1 0 (Ls.take i) ++ (wr c1 ((partsOf L.le L.ps L.pl).take j)).map fun t => ((i : Int), t)) ++ [((i : Int), c3)] else Wall x 0 (Ls.take i) ++ (wr x ((partsOf L.le L.ps L.pl).take j)).map fun t => ((i : Int), t)) c2 ((i : Int), 0) H7 → ∃ (x4 x5 x6 : Option V) (kvs : List (Key × V)), [some (V.ref a), some (.ref d), some (.int (i : Nat)), some (.ref b), some (.int c1), some (.int c2), some (.int c3)] = [some (V.ref a), some (.ref d), some (.int (i : Nat)), some (.ref b), x4, x5, x6] ∧ Same H H7 ∧ H7 o = some (.lst (bs.map V.ref)) ∧ TupsAt H7 bs ((partsOf L.le L.ps L.pl).map rowV) ∧ (∀ k v, valV kvs (Sum.inl k) = some v → v ≠ .ref o) ∧ DAtK H H7 d kvs (1 + 20 * i + 2 * (j + 1)) (fun k => Keys (Ls.take i) k ∨ ∃ y ∈ (partsOf L.le L.ps L.pl).take (j + 1), y.1 = k ∨ y.2.1 = k) (fun k => Wall k 0 (Ls.take i) ++ (wr k ((partsOf L.le L.ps L.pl).take (j + 1))).map fun t => ((i : Int), t)) := fun H7 ⟨kvs7, D7, s7, t7, eo7, nv7⟩ => by
          refine ⟨_, _, _, kvs7, rfl, s7, eo7, (tb4.mono t5).mono t7, nv7, D7.congr (by omega) (fun k => ?_) fun k => ?_⟩
          · rw [e5]
            constructor
            · rintro (((h | ⟨y, hy, h⟩) | h) | h)
              · exact .inl h
              · exact .inr ⟨y, by simp [hy], h⟩
              · exact .inr ⟨(c1, c2, c3), by simp, .inl h.symm⟩
              · exact .inr ⟨(c1, c2, c3), by simp, .inr h.symm⟩
            · rintro (h | ⟨y, hy, h⟩)
              · exact .inl (.inl (.inl h))
              · rcases List.mem_append.mp hy with hy | hy
                · exact .inl (.inl (.inr ⟨y, hy, h⟩))
                · simp only [List.mem_cons, List.not_mem_nil, or_false] at hy
                  rw [hy] at h
                  rcases h with h | h
                  · exact .inl (.inr h.symm)
                  · exact .inr h.symm
          · rw [e5, wr_snoc, List.map_append, ← List.append_assoc]
            dsimp only
            by_cases h2 : k = c2
            · have h1 : ¬ k = c1 := fun z => c21 (h2.symm.trans z)
              have h1' : ¬ c2 = c1 := c21
              rw [if_pos h2, if_neg h1', if_neg (fun z => h1 z.symm), if_pos h2.symm, h2]
              rfl
            · rw [if_neg h2, if_neg (fun z => h2 z.symm : ¬ c2 = k), List.append_nil]
              by_cases h1 : k = c1
              · rw [if_pos h1, if_pos h1.symm, h1]
                rfl
              · rw [if_neg h1, if_neg (fun z => h1 z.symm : ¬ c1 = k)]
                show _ = _ ++ []
                rw [List.append_nil]
        refine ⟨_, rfl, d, rfl, .inl ⟨_, .inl D5.1⟩, _, rfl, Nat.zero_le _, fun Z nZ => ⟨kvs5, Sum.inl c2, (upd_ne (ne_of_none D5.1 nZ)).trans D5.1, rfl, small2000 (by have := D5.2.2.1; omega), fun v hv => ?_, fun hn => ?_⟩⟩
        · obtain ⟨q', qs, rfl, eq, hlen, aft⟩ := D5.found s5 eo5 nv5 nZ hv ((i : Int), 0)
          refine ⟨.inl ⟨rfl, _, SqL.of eq⟩, _, rfl, (by show 2 ≤ sizeLine; decide), fun R nR => ⟨q', _, _, rfl, rfl, (upd_ne (ne_of_none eq nR)).trans eq, ?_, fin _ (aft R nR)⟩⟩
          rw [List.length_map, hlen, if_neg c21]
          exact small2000 (Nat.le_trans (wl c2) (by decide))
        · obtain ⟨eZ, aft⟩ := D5.fresh s5 nd eo5 nv5 nZ hn ((i : Int), 0)
          exact ⟨.inl ⟨rfl, _, SqL.of eZ⟩, _, rfl, (by show 2 ≤ sizeLine; decide), fun R nR => ⟨Z, _, _, rfl, rfl, (upd_ne (ne_of_none eZ nR)).trans eZ, Nat.zero_lt_succ _, fin _ (aft R nR)⟩⟩
      · obtain ⟨x4, x5, x6, kvs, rfl, s4, eo4, tb4, nv, D4⟩ := hm
        refine ⟨_, _, _, _, _, kvs, rfl, s4, D4.congr ?_ (fun k => ?_) fun k => ?_⟩
        · rw [List.length_map]
          omega
        · rw [List.length_map, hlb, List.take_length, e2]
          unfold Keys
          constructor
          · rintro ((h | ⟨M, hM, h⟩) | h)
            · exact .inl h
            · exact .inr ⟨M, by simp [hM], h⟩
            · exact .inr ⟨L, by simp, h⟩
          · rintro (h | ⟨M, hM, h⟩)
            · exact .inl (.inl h)
            · rcases List.mem_append.mp hM with hM | hM
              · exact .inl (.inr ⟨M, hM, h⟩)
              · simp only [List.mem_cons, List.not_mem_nil, or_false] at hM
                rw [hM] at h
                exact .inr h
        · rw [List.length_map, hlb, List.take_length, e2, wall_snoc, List.length_take, Nat.min_eq_left (by omega), Nat.zero_add]
    · obtain ⟨x2, x3, x4, x5, x6, kvs, rfl, sm, D⟩ := hm
      rw [List.length_map, la.1, List.take_length] at D
      exact ⟨_, rfl, q _ d kvs sm nd (D.congr (by omega) (fun _ => Iff.rfl) fun _ => rfl)⟩
theorem ok_stretches {f fC fN fS : Addr} {fd fdC fdN fdS : FuncData} (F : Fun K "stretches" "stretches" s_stretches f fd) (bi : Bi mg) (C_changes_of : Cal P w K mg base "changes_of" P_changes_of 2 spChanges fC fdC) (C_numbers_of : Cal P w K mg base "numbers_of" P_numbers_of 1 spNumbers fN fdN)
    (C_sorts_of : Cal P w K mg base "sorts_of" P_sorts_of 1 spSorts fS fdS) : FnOk P w K mg base CX0 3 f fd P_stretches spStretches := by
  refine F.ok sc_stretches (fun vs H Q E h => ?_) (fun cdv A outer s H vs Q E hr h => ?_)
  · obtain ⟨a, Ls, rfl, _⟩ := h
    rfl
  · obtain ⟨a, Ls, rfl, hs, hl, hg, q⟩ := h
    have hu64 := hr.units
    refine ⟨_, (pss_cons (ps_set (i := 1) sc_stretches.nd rfl (.inl rfl) (pe_call (C_changes_of.G.mono (by decide)) hr (by rfl) C_changes_of.g C_changes_of.kp C_changes_of.b .nil pass0 (pa_cons (pv 0) pa_nil)))
    (pss_cons (ps_set (i := 2) sc_stretches.nd rfl (.inl rfl) (pe_callB (call_sortD rfl) (by rfl) bi.m_sorted (by decide +kernel) (pa_cons (pv 1) pa_nil)))
    (pss_cons (ps_set (i := 3) sc_stretches.nd rfl (.inl rfl) (pe_op op_rep (pe_lst (pa_cons pe_int pa_nil)) (pe_callB call_len_seq (by rfl) bi.m_len (by decide +kernel) (pa_cons (pv 0) pa_nil))))
    (pss_cons (ps_set (i := 4) sc_stretches.nd rfl (.inl rfl) (pe_lst pa_nil))
    (pss_cons (ps_for PassesOwn.never rfl (RZ.pi_zipA (by rfl) bi.m_zip (pa_cons (pv 2) (pa_cons (pe_slice sl_list (pv 2) (po_some pe_int) po_none) pa_nil))) (pg_tup rfl (pgs_cons (pg_name (i := 5) sc_stretches.nd rfl (.inl rfl)) (pgs_cons (pg_name (i := 6) sc_stretches.nd rfl (.inl rfl)) pgs_nil)))
      (pss_cons (ps_for PassesOwn.never rfl (pi_list (pe_dget (hu1 hu64) (pv 1) (pv 5) (fun _ _ => rfl))) (pg_tup rfl (pgs_cons (pg_name (i := 7) sc_stretches.nd rfl (.inl rfl)) (pgs_cons (pg_name (i := 8) sc_stretches.nd rfl (.inl rfl)) pgs_nil)))
          (pss_one (ps_asg (pv 8) (pg_sub (pv 3) (pv 7) set_list))))
        (pss_one (ps_expr (pe_bm PySem.F.plainAttrs_list PySem.F.slot_list_append PySem.F.type_list_append mt_append (pv 4) (pa_cons (pe_tup (pa_cons (pv 5) (pa_cons (pv 6) (pa_cons (pe_call (C_numbers_of.G.mono (by decide)) hr (by rfl) C_numbers_of.g C_numbers_of.kp C_numbers_of.b .nil pass0 (pa_cons (pv 3) pa_nil)) (pa_cons (pe_call (C_sorts_of.G.mono (by decide)) hr (by rfl) C_sorts_of.g C_sorts_of.kp C_sorts_of.b .nil pass0 (pa_cons (pv 0) (pa_cons (pv 3) pa_nil))) pa_nil))))) pa_nil))))))
    (pss_one (ps_ret (pe_callTy call_tuple_of (by rfl) bi.m_tuple (by decide +kernel) (pa_cons (pv 4) pa_nil))))))))), ?_⟩
    refine ⟨_, rfl, a, Ls, rfl, hs, hl, hg, fun H1 d kvs s1 nd D => ?_⟩
    obtain ⟨ks, e1, e2, e3, e4⟩ := keys_of D.2.1
    refine ⟨_, rfl, d, kvs, ks, rfl, D.1, e1, fun ys S hperm hsort nS => ?_⟩
    have hpl : Places Ls ys := ⟨sorted_strict hperm hsort e3, fun k => by rw [hperm.mem_iff, e4, ← D.2.2.2.1], by
      have h1 := hperm.length_eq
      have h2 := D.2.2.1
      omega⟩
    have sS : Same H1 (upd H1 S (.lst (ys.map V.int))) := same_new (Same.refl _) nS
    have eS : upd H1 S (.lst (ys.map V.int)) S = some (.lst (ys.map V.int)) := upd_same
    show tSeq _ _ _ _ (upd H1 S (.lst (ys.map V.int)))
    generalize upd H1 S (.lst (ys.map V.int)) = H2 at sS eS
    -- thicknesses
    obtain ⟨as, ea, la⟩ := id hs
    have ea2 := sS _ _ (s1 _ _ ea)
    refine ⟨(by show 1 ≤ sizeLine; decide), fun Z nZ => ?_⟩
    have sZ : Same H2 (upd H2 Z (.lst [.int 0])) := same_new (Same.refl _) nZ
    refine ⟨_, rfl, a, _, rfl, .inr (SqT.of (sZ _ _ ea2)), Z, _, _, rfl, rfl, upd_same, by omega, ?_, ?_, fun t nt => ?_⟩
    · rw [List.length_map, la.1]
      omega
    · rw [List.length_map, la.1]
      show 1 * ((Ls.length : Int)).toNat ≤ sizeLine
      rw [Int.toNat_natCast, Nat.one_mul]
      exact Nat.le_of_lt (small1000 (by omega))
    have ez : (List.replicate ((as.map V.ref).length : Int).toNat [V.int 0]).flatten = (Ls.map fun L => thickL L (prevOf ys 0)).map V.int := by
      rw [List.length_map, la.1, Int.toNat_natCast]
      show _ = (Ls.map fun L => thickL L (-1)).map V.int
      clear la ea2 ea hs hl D hpl q
      induction Ls with
      | nil => rfl
      | cons L r ih =>
        show [V.int 0] ++ (List.replicate r.length [V.int 0]).flatten = V.int (thickL L (-1)) :: _
        rw [ih fun M hM => hg M (by simp [hM]), thick_ahead (hg L (by simp))]
        rfl
    rw [ez]
    have st : Same H2 (upd (upd H2 Z (.lst [.int 0])) t (.lst ((Ls.map fun L => thickL L (prevOf ys 0)).map V.int))) := same_new sZ nt
    have et : upd (upd H2 Z (.lst [.int 0])) t (.lst ((Ls.map fun L => thickL L (prevOf ys 0)).map V.int)) t = some (.lst ((Ls.map fun L => thickL L (prevOf ys 0)).map V.int)) := upd_same
    have nt2 : H2 t = none := sZ.free nt
    show tSeq _ _ _ _ (upd (upd H2 Z (.lst [.int 0])) t (.lst ((Ls.map fun L => thickL L (prevOf ys 0)).map V.int)))
    generalize upd (upd H2 Z (.lst [.int 0])) t (.lst ((Ls.map fun L => thickL L (prevOf ys 0)).map V.int)) = H3 at st et
    -- told
    refine ⟨Nat.zero_le _, fun R nR => ?_⟩
    have nR2 : H2 R = none := st.free nR
    have tR : t ≠ R := ne_of_none et nR
    have sR : Same H2 (upd H3 R (.lst [])) := same_new st nR
    have eR : upd H3 R (.lst []) R = some (.lst []) := upd_same
    have etR : upd H3 R (.lst []) t = some (.lst ((Ls.map fun L => thickL L (prevOf ys 0)).map V.int)) := (upd_ne tR).trans et
    show tSeq _ _ _ _ (upd H3 R (.lst []))
    generalize upd H3 R (.lst []) = H4 at sR eR etR
    -- the walk
    have D2 := D.same sS
    obtain ⟨r0, er0⟩ := places_zero hg hpl
    refine ⟨_, rfl, _, rfl, _, rfl, S, ys.map V.int, rfl, SqL.of (sR _ _ eS), fun U nU => ?_⟩
    have eU : cutV (ys.map V.int) (some 1) none = (ys.drop 1).map V.int := by
      have h := cut_drop (ys.map V.int) 1 (by rw [List.length_map, er0]; exact Nat.succ_le_succ (Nat.zero_le _))
      rw [List.map_drop]
      exact h
    rw [eU]
    have sU : Same H2 (upd H4 U (.lst ((ys.drop 1).map V.int))) := same_new sR nU
    have nU2 : H2 U = none := sR.free nU
    have RU : R ≠ U := ne_of_none eR nU
    have tU : t ≠ U := ne_of_none etR nU
    have eU5 : upd H4 U (.lst ((ys.drop 1).map V.int)) U = some (.lst ((ys.drop 1).map V.int)) := upd_same
    have eR5 : upd H4 U (.lst ((ys.drop 1).map V.int)) R = some (.lst []) := (upd_ne RU).trans eR
    have et5 : upd H4 U (.lst ((ys.drop 1).map V.int)) t = some (.lst ((Ls.map fun L => thickL L (prevOf ys 0)).map V.int)) := (upd_ne tU).trans etR
    refine ⟨S, U, _, _, rfl, .inl ⟨SqL.of (sU _ _ eS), SqL.of eU5, ?_⟩⟩
    generalize upd H4 U (.lst ((ys.drop 1).map V.int)) = H5 at sU eU5 eR5 et5
    have hlen : min (ys.map V.int).length ((ys.drop 1).map V.int).length = (pairs ys).length := by
      rw [List.length_map, List.length_map, List.length_zip]
    have hpr : (pairs ys).length ≤ 1300 := by
      have := hpl.2.2
      rw [List.length_zip]
      omega
    refine for_it (walk_zip (xs := ys.map V.int) (ys := (ys.drop 1).map V.int) hlen.symm) (fun i σ' H' => ∃ (x5 x6 x7 x8 : Option V) (rs : List Addr), σ' = [some (.ref a), some (.ref d), some (.ref S), some (.ref t), some (.ref R), x5, x6, x7, x8] ∧ Same H2 H' ∧ H' U = some (.lst ((ys.drop 1).map V.int)) ∧ H' t = some (.lst ((Ls.map fun L => thickL L (prevOf ys i)).map V.int)) ∧ H' R = some (.lst (rs.map V.ref)) ∧ SegsAt H' rs Ls ((pairs ys).take i)) ⟨_, _, _, _, [], rfl, sU, eU5, et5, eR5, SegsAt.nil⟩ (fun i σ' H' hi hm => ?_) (fun i x σ' H' Hb hi hm hy => ?_) (fun σ' H' hm => ?_)
    · obtain ⟨x5, x6, x7, x8, rs, rfl, sm, eU', _⟩ := hm
      exact ⟨SqL.of (sm _ _ eS), SqL.of eU'⟩
    · obtain ⟨x5, x6, x7, x8, rs, rfl, sm, eU', et', eR', sg⟩ := hm
      obtain ⟨c, y1, y2, rfl, nc, rfl, f1, f2⟩ := hy
      obtain ⟨st', rfl, ek1⟩ := int_get f1
      obtain ⟨en', rfl, ek2⟩ := int_get f2
      have sc : Same H2 (upd H' c (.tup [.int st', .int en'])) := same_new sm nc
      refine ⟨c, _, rfl, SqT.of upd_same, rfl, _, _, rfl, _, _, rfl, rfl, ?_⟩
      have eUc : upd H' c (.tup [.int st', .int en']) U = some (.lst ((ys.drop 1).map V.int)) := (upd_ne (ne_of_none eU' nc)).trans eU'
      have etc : upd H' c (.tup [.int st', .int en']) t = some (.lst ((Ls.map fun L => thickL L (prevOf ys i)).map V.int)) := (upd_ne (ne_of_none et' nc)).trans et'
      have eRc : upd H' c (.tup [.int st', .int en']) R = some (.lst (rs.map V.ref)) := (upd_ne (ne_of_none eR' nc)).trans eR'
      have sgc := sg.mono (Tups.new (o := .tup [.int st', .int en']) nc)
      generalize upd H' c (.tup [.int st', .int en']) = H6 at sc eUc etc eRc sgc
      -- changes[start]
      have hst : Keys Ls st' := (hpl.2.1 st').mp (List.mem_of_getElem? ek1)
      obtain ⟨v, hv⟩ := (D2.2.2.2.1 st').mp hst
      have D6 := D2.same sc
      obtain ⟨qa, qs, rfl, nqH, qd, elq, etq⟩ := D2.2.2.2.2.2.1 st' v hv
      have ql : qs.length = (Wall st' 0 Ls).length := by rw [etq.1, List.length_map]
      have nqt : qa ≠ t := fun e => by
        have z := sS
        rw [e] at elq
        rw [nt2] at elq
        cases elq
      have nqR : qa ≠ R := fun e => by
        rw [e, nR2] at elq
        cases elq
      have dg : DGet H6 d (.int st') (some (.ref qa)) := by
        have z := DGet.k (k := Sum.inl st') D6.1
        rw [hv] at z
        exact z
      refine ⟨_, rfl, _, rfl, d, _, rfl, dg, qa, rfl, ⟨_, SqL.of (sc _ _ elq)⟩, ?_⟩
      have hjk := prev_lt hg hpl ek1
      have stp := places_step hg hpl hjk.1 hjk.2
      refine for_list (xs := qs.map V.ref) (fun j σ' H7 => ∃ (x7 x8 : Option V), σ' = [some (.ref a), some (.ref d), some (.ref S), some (.ref t), some (.ref R), some (.int st'), some (.int en'), x7, x8] ∧ Same H2 H7 ∧ H7 U = some (.lst ((ys.drop 1).map V.int)) ∧ H7 t = some (.lst ((wrt (Ls.map fun L => thickL L (prevOf ys i)) ((Wall st' 0 Ls).take j)).map V.int)) ∧ H7 R = some (.lst (rs.map V.ref)) ∧ SegsAt H7 rs Ls ((pairs ys).take i)) ⟨_, _, rfl, sc, eUc, etc, eRc, sgc⟩ (fun j σ' H7 hj hm => ?_) (fun j x σ' H7 hx hm => ?_) (fun σ' H7 hm => ?_)
      · obtain ⟨x7, x8, rfl, s7, _⟩ := hm
        exact SqL.of (s7 _ _ elq)
      · obtain ⟨x7, x8, rfl, s7, eU7, et7, eR7, sg7⟩ := hm
        obtain ⟨z, n, th, rfl, ew, ez⟩ := step_get etq hx
        obtain ⟨m, hm, rfl⟩ := wall_num st' Ls 0 (n, th) (List.mem_of_getElem? ew)
        refine ⟨z, _, rfl, SqT.of (s7 _ _ ez), rfl, _, _, rfl, _, _, rfl, rfl, ?_⟩
        refine ⟨_, rfl, _, rfl, _, rfl, t, _, _, m, rfl, rfl, et7, ?_, ?_⟩
        · rw [List.length_map, wrt_len, List.length_map]
          exact ixN_at (by omega)
        refine ⟨_, _, rfl, same_mine s7 nt2, ?_, ?_, ?_, sg7.mono (Tups.ls et7)⟩
        · rw [upd_ne tU.symm]
          exact eU7
        · rw [upd_same, List.take_add_one, ew, Option.toList_some, wrt_snoc, Int.toNat_natCast, List.map_set]
        · rw [upd_ne tR.symm]
          exact eR7
      obtain ⟨x7, x8, rfl, s7, eU7, et7, eR7, sg7⟩ := hm
      rw [List.length_map, ql, List.take_length] at et7
      have wa := wrt_all st' (prevOf ys i) Ls [] 0 rfl stp
      rw [List.nil_append, List.nil_append] at wa
      rw [wa] at et7
      refine ⟨_, rfl, .inl ⟨rfl, _, SqL.of eR7⟩, _, rfl, _, rfl, _, rfl, t, _, rfl, et7, (by rw [List.length_map]; exact hl), fun H8 n s8 nn en => ?_⟩
      have hs8 : StrandAt H8 a Ls := hs.mono (Tups.same (((s1.trans sS).trans s7).trans s8))
      refine ⟨_, rfl, _, rfl, a, t, Ls, st', rfl, hs8, s8 _ _ et7, hg, fun H9 u s9 nu eu => ?_⟩
      refine ⟨(by show 4 ≤ sizeLine; decide), fun z nz => ?_⟩
      have s89 := s8.trans s9
      have eR9 := s89 _ _ eR7
      have eRz : upd H9 z (.tup [.int st', .int en', .ref n, .ref u]) R = some (.lst (rs.map V.ref)) := (upd_ne (ne_of_none eR9 nz)).trans eR9
      have hrs : rs.length ≤ 1300 := by
        have := sg7.1
        rw [List.length_take] at this
        omega
      refine ⟨R, _, _, rfl, rfl, eRz, ?_, ?_⟩
      · rw [List.length_map]
        exact small2000 (by omega)
      have sz : Same H2 (upd H9 z (.tup [.int st', .int en', .ref n, .ref u])) := same_new (s7.trans s89) nz
      have sg9 := (sg7.mono (Tups.same s89)).mono (Tups.new (o := .tup [.int st', .int en', .ref n, .ref u]) nz)
      have gz : SegAt (upd H9 z (.tup [.int st', .int en', .ref n, .ref u])) z Ls st' en' := ⟨n, u, upd_same, by
        have := s9 _ _ en
        rw [upd_ne (ne_of_none this nz)]
        exact this, by
        rw [upd_ne (ne_of_none eu nz)]
        exact eu⟩
      refine ⟨_, _, _, _, rs ++ [z], rfl, same_mine sz nR2, ?_, ?_, ?_, ?_⟩
      · have h1 := s89 _ _ eU7
        rw [upd_ne RU.symm, upd_ne (ne_of_none h1 nz)]
        exact h1
      · have h1 := s89 _ _ et7
        rw [upd_ne tR, upd_ne (ne_of_none h1 nz), h1, prev_succ ek1]
      · rw [upd_same, List.map_append]
        rfl
      · rw [pairs_take ek1 ek2]
        exact (sg9.snoc gz).mono (Tups.ls eRz)
    · obtain ⟨x5, x6, x7, x8, rs, rfl, sm, eU', et', eR', sg⟩ := hm
      rw [List.take_length] at sg
      refine ⟨_, rfl, R, _, rfl, .inl ⟨SqL.of eR', fun o no => ?_⟩⟩
      have so : Same H2 (upd H' o (.tup (rs.map V.ref))) := same_new sm no
      exact q _ o rs ys ((s1.trans sS).trans so) ((s1.trans sS).free (sm.free no)) upd_same (sg.mono (Tups.new no)) hpl
theorem ok_let_by {f : Addr} {fd : FuncData} {k : Nat} (F : Fun K "let_by" "let_by" s_let_by f fd) (bi : Bi mg) : FnOk P w K mg base CX0 (k + 1) f fd P_let_by spLetBy := by
  refine F.ok sc_let_by (fun vs H Q E h => ?_) (fun cdv A outer s H vs Q E hr h => ?_)
  · obtain ⟨a, L, p, rfl, _⟩ := h
    rfl
  · obtain ⟨a, L, p, rfl, ⟨wa, ea, hw⟩, q⟩ := h
    refine ⟨_, (pss_cons (ps_asg (pv 0) (pg_tup rfl (pgs_cons (pg_name (i := 2) sc_let_by.nd rfl (.inl rfl)) (pgs_cons (pg_name (i := 3) sc_let_by.nd rfl (.inl rfl)) (pgs_cons (pg_name (i := 4) sc_let_by.nd rfl (.inl rfl)) pgs_nil)))))
    (pss_one (ps_ret (pe_tup (pa_cons (pv 2) (pa_cons (pv 3) (pa_cons (pe_ifExp (pt_cmpR op_isN (pv 4) pe_non (nomark _)) (pv 1) (pe_callB (call_min2 rfl) (by rfl) bi.m_min (by decide +kernel) (pa_cons (pv 4) (pa_cons (pv 1) pa_nil)))) pa_nil))))))), ?_⟩
    refine ⟨_, rfl, a, _, rfl, SqT.of ea, rfl, _, _, rfl, _, _, rfl, _, _, rfl, rfl, ?_⟩
    refine ⟨_, rfl, _, rfl, ?_⟩
    have fin : ∀ z, z = lessI L.le p → 3 ≤ sizeLine ∧ ∀ o, H o = none → Q (.ref o) (upd H o (.tup [.ref wa, .int L.pl, .int z])) := fun z e => by
      subst e
      exact ⟨by decide, fun o no => q _ o (same_new (Same.refl H) no) no ⟨wa, upd_same, hw.mono (Tups.new no)⟩⟩
    refine ⟨_, rfl, rfl, _, rfl, ?_⟩
    unfold lessI at fin
    cases hle : L.le with
    | none =>
      rw [hle] at fin
      refine iteT ?_
      exact ⟨_, rfl, fin _ rfl⟩
    | some n =>
      rw [hle] at fin
      refine iteEqF (letV_some' n) ?_
      exact ⟨_, rfl, _, rfl, _, _, rfl, fin _ rfl⟩
theorem ok_let_go {f fB : Addr} {fd fdB : FuncData} (F : Fun K "let_go" "let_go" s_let_go f fd) (bi : Bi mg) (C_let_by : Cal P w K mg base "let_by" P_let_by 1 spLetBy fB fdB) : FnOk P w K mg base CX0 2 f fd P_let_go spLetGo := by
  refine F.ok sc_let_go (fun vs H Q E h => ?_) (fun cdv A outer s H vs Q E hr h => ?_)
  · obtain ⟨a, Ls, n, p, L, rfl, _⟩ := h
    rfl
  · obtain ⟨a, Ls, n, p, L, rfl, ⟨as, ea, la⟩, hl, hn, q⟩ := h
    refine ⟨_, (pss_one (ps_ret (pe_callTy call_tuple_of (by rfl) bi.m_tuple (by decide +kernel) (pa_cons (pe_lc (own := [("k", 3), ("laid", 4)]) (g := (gTup K 2 (gCons (gName 3) (gCons (gName 4) gNil)))) (tt := tYes) rfl sc_let_go.nd (pi_enuT (by rfl) bi.m_enumerate (pa_cons (pv 0) pa_nil)) (blkOk_by (N := N_let_go) (sc := defScope s_let_go) (by decide +kernel)) (fun _ _ _ _ _ => (pg_tup rfl (pgs_cons (pg_name (i := 3) sc_let_go.nd rfl (.inl rfl) (.inr rfl)) (pgs_cons (pg_name (i := 4) sc_let_go.nd rfl (.inl rfl) (.inr rfl)) pgs_nil)))) (fun _ _ _ _ _ => pts_nil) (fun _ _ _ _ _ => (pe_ifExp (pt_cmpR op_eq (pv 3) (pv 1) (nomark _)) (pe_call (C_let_by.G.mono (by decide)) hr (by rfl) C_let_by.g C_let_by.kp C_let_by.b .nil pass0 (pa_cons (pv 4) (pa_cons (pv 2) pa_nil))) (pv 4)))) pa_nil)))), ?_⟩
    refine ⟨_, rfl, a, _, rfl, SqT.of ea, fun D nD => ?_⟩
    refine lc_it (walk_enuT (xs := as.map V.ref)) (fun i H' => Same H H' ∧ ∃ cs : List Addr, H' D = some (.lst (cs.map V.ref)) ∧ LaidsAt H' cs ((Ls.set n (letL L p)).take i)) ⟨same_new (Same.refl H) nD, [], upd_same, LaidsAt.nil⟩ (fun i H' hi hm => SqT.of (hm.1 _ _ ea)) (fun i x H' H2 hi hm hy => ?_) (fun H' hm => ?_)
    · obtain ⟨sm, cs, eD, lc⟩ := hm
      obtain ⟨T, x1, x2, rfl, nT, rfl, f1, f2⟩ := hy
      obtain ⟨b, M, rfl, _, eM, hb⟩ := laid_get la f2
      have e1 : x1 = .int (i : Nat) := (Option.some.inj f1).symm
      subst e1
      have hi' : i < Ls.length := (List.getElem?_eq_some_iff.mp eM).1
      have s1 : Same H (upd H' T (.tup [.int (i : Nat), .ref b])) := same_new sm nT
      have eD1 : upd H' T (.tup [.int (i : Nat), .ref b]) D = some (.lst (cs.map V.ref)) := by
        rw [upd_ne (ne_of_none eD nT)]
        exact eD
      have lc1 := lc.mono (Tups.new (o := .tup [.int (i : Nat), .ref b]) nT)
      have hcl : cs.length = i := by
        rw [lc.1, List.length_take, List.length_set]
        omega
      refine ⟨T, _, rfl, SqT.of upd_same, rfl, _, _, rfl, _, _, rfl, rfl, rfl, yesIte ?_⟩
      generalize upd H' T (.tup [.int (i : Nat), .ref b]) = H2 at s1 eD1 lc1
      have hb2 := hb.mono (Tups.same s1)
      refine ⟨_, rfl, _, rfl, rfl, _, rfl, ite2 (fun e => ?_) (fun e => ?_)⟩
      · have e : (i : Int) = n := V.int.inj (of_decide_eq_true e)
        have e : i = n := by omega
        subst e
        have eLM : M = L := Option.some.inj (eM.symm.trans hn)
        subst eLM
        refine ⟨_, rfl, _, rfl, b, M, p, rfl, hb2, fun H3 o s3 no lo => ?_⟩
        have eD3 := s3 _ _ eD1
        refine ⟨_, eD3, (by rw [List.length_map]; exact small1000 (by omega)), same_mine (s1.trans s3) nD, cs ++ [o], ?_, ?_⟩
        · rw [List.map_append]
          exact upd_same
        · rw [List.take_add_one, List.getElem?_set_self hi']
          exact ((lc1.mono (Tups.same s3)).snoc lo).mono (Tups.ls eD3)
      · have e : ¬ (i : Int) = n := fun z => e (decide_eq_true (congrArg V.int z))
        have e : n ≠ i := by omega
        refine ⟨_, rfl, _, eD1, (by rw [List.length_map]; exact small1000 (by omega)), same_mine s1 nD, cs ++ [b], ?_, ?_⟩
        · rw [List.map_append]
          exact upd_same
        · rw [List.take_add_one, List.getElem?_set_ne e, eM]
          exact (lc1.snoc hb2).mono (Tups.ls eD1)
    · obtain ⟨sm, cs, eD, lc⟩ := hm
      rw [List.length_map, la.1, List.take_of_length_le (by rw [List.length_set]; exact Nat.le_refl _)] at lc
      refine ⟨D, _, rfl, .inl ⟨SqL.of eD, fun U nU => ?_⟩⟩
      exact q _ U (same_new sm nU) (Same.free sm nU) ⟨cs, upd_same, lc.mono (Tups.new nU)⟩
theorem ok_moved {f : Addr} {fd : FuncData} {k : Nat} (F : Fun K "moved" "moved" s_moved f fd) (bi : Bi mg) : FnOk P w K mg base CX0 (k + 1) f fd P_moved spMoved := by
  refine F.ok sc_moved (fun vs H Q E h => ?_) (fun cdv A outer s H vs Q E hr h => ?_)
  · obtain ⟨a, L, p, rfl, _⟩ := h
    rfl
  · obtain ⟨a, L, d, rfl, ⟨wa, ea, hw⟩, q⟩ := h
    refine ⟨_, (pss_cons (ps_asg (pv 0) (pg_tup rfl (pgs_cons (pg_name (i := 2) sc_moved.nd rfl (.inl rfl)) (pgs_cons (pg_name (i := 3) sc_moved.nd rfl (.inl rfl)) (pgs_cons (pg_name (i := 4) sc_moved.nd rfl (.inl rfl)) pgs_nil)))))
    (pss_one (ps_ret (pe_tup (pa_cons (pv 2) (pa_cons (pe_op op_add (pv 3) (pv 1)) (pa_cons (pe_ifExp (pt_cmpR op_isN (pv 4) pe_non (nomark _)) pe_non (pe_op op_add (pv 4) (pv 1))) pa_nil))))))), ?_⟩
    refine ⟨_, rfl, a, _, rfl, SqT.of ea, rfl, _, _, rfl, _, _, rfl, _, _, rfl, rfl, ?_⟩
    refine ⟨_, rfl, _, rfl, _, rfl, _, _, rfl, rfl, ?_⟩
    have fin : ∀ z, z = letV (L.le.map (· + d)) → 3 ≤ sizeLine ∧ ∀ o, H o = none → Q (.ref o) (upd H o (.tup [.ref wa, .int (L.pl + d), z])) := fun z e => by
      subst e
      exact ⟨by decide, fun o no => q _ o (same_new (Same.refl H) no) no ⟨wa, upd_same, hw.mono (Tups.new no)⟩⟩
    refine ⟨_, rfl, rfl, _, rfl, ?_⟩
    cases hle : L.le with
    | none =>
      rw [hle] at fin
      refine iteT ?_
      exact fin _ rfl
    | some n =>
      rw [hle] at fin
      refine iteEqF (letV_some' n) ?_
      exact ⟨_, rfl, _, rfl, _, _, rfl, rfl, fin _ rfl⟩
theorem ok_behind {f fM : Addr} {fd fdM : FuncData} (F : Fun K "behind" "behind" s_behind f fd) (bi : Bi mg) (C_moved : Cal P w K mg base "moved" P_moved 1 spMoved fM fdM) : FnOk P w K mg base CX0 2 f fd P_behind spBehind := by
  refine F.ok sc_behind (fun vs H Q E h => ?_) (fun cdv A outer s H vs Q E hr h => ?_)
  · obtain ⟨a, b, Ls, Ms, d, rfl, _⟩ := h
    rfl
  · obtain ⟨a, b, Ls, Ms, d, rfl, ⟨as, ea, la⟩, ⟨bs, eb, lb⟩, hl, q⟩ := h
    refine ⟨_, (pss_one (ps_ret (pe_op op_catA (pv 0) (pe_callTy call_tuple_of (by rfl) bi.m_tuple (by decide +kernel) (pa_cons (pe_lc (own := [("laid", 3)]) (g := (gName 3)) (tt := tYes) rfl sc_behind.nd (pi_tup (pv 1)) (blkOk_by (N := N_behind) (sc := defScope s_behind) (by decide +kernel)) (fun _ _ _ _ _ => (pg_name (i := 3) sc_behind.nd rfl (.inl rfl) (.inr rfl))) (fun _ _ _ _ _ => pts_nil) (fun _ _ _ _ _ => (pe_call (C_moved.G.mono (by decide)) hr (by rfl) C_moved.g C_moved.kp C_moved.b .nil pass0 (pa_cons (pv 3) (pa_cons (pv 2) pa_nil))))) pa_nil))))), ?_⟩
    refine ⟨_, rfl, _, rfl, b, rfl, ⟨_, SqT.of eb⟩, fun D nD => ?_⟩
    refine lc_tup (xs := bs.map V.ref) (fun i H' => Same H H' ∧ ∃ cs : List Addr, H' D = some (.lst (cs.map V.ref)) ∧ LaidsAt H' cs ((Ms.take i).map fun L => movL L d)) ⟨same_new (Same.refl H) nD, [], upd_same, LaidsAt.nil⟩ (fun i H' hi hm => SqT.of (hm.1 _ _ eb)) (fun i x H' hx hm => ?_) (fun H' hm => ?_)
    · obtain ⟨sm, cs, eD, lc⟩ := hm
      obtain ⟨c, M, rfl, _, eM, hc⟩ := laid_get lb hx
      have hi' : i < Ms.length := (List.getElem?_eq_some_iff.mp eM).1
      have hcl : cs.length ≤ 60 := by
        rw [lc.1, List.length_map, List.length_take]
        omega
      refine ⟨rfl, yesIte ?_⟩
      refine ⟨_, rfl, _, rfl, c, M, d, rfl, hc.mono (Tups.same sm), fun H3 o s3 no lo => ?_⟩
      have eD3 := s3 _ _ eD
      refine ⟨_, eD3, (by rw [List.length_map]; exact small1000 (by omega)), same_mine (sm.trans s3) nD, cs ++ [o], ?_, ?_⟩
      · rw [List.map_append]
        exact upd_same
      · rw [take_map_succ _ eM]
        exact ((lc.mono (Tups.same s3)).snoc lo).mono (Tups.ls eD3)
    · obtain ⟨sm, cs, eD, lc⟩ := hm
      rw [List.length_map, lb.1, List.take_length] at lc
      refine ⟨D, _, rfl, .inl ⟨SqL.of eD, fun U nU => ?_⟩⟩
      have sU : Same H (upd H' U (.tup (cs.map V.ref))) := same_new sm nU
      have eU : upd H' U (.tup (cs.map V.ref)) U = some (.tup (cs.map V.ref)) := upd_same
      have lU := lc.mono (Tups.new (o := .tup (cs.map V.ref)) nU)
      generalize upd H' U (.tup (cs.map V.ref)) = H2 at sU eU lU
      have hcl : cs.length = Ms.length := by rw [lU.1, List.length_map]
      refine ⟨a, U, _, _, rfl, rfl, SqT.of (sU _ _ ea), SqT.of eU, ?_, fun e1 => ?_, fun e1 e2 => ?_, fun e1 e2 W nW => ?_⟩
      · rw [List.length_map, List.length_map, la.1, hcl, sizeLine_eq]
        omega
      · have : Ls = [] := by
          have := congrArg List.length e1
          rw [List.length_map, la.1] at this
          exact List.length_eq_zero_iff.mp this
        subst this
        exact q _ U sU ⟨cs, eU, lU⟩
      · have : Ms = [] := by
          have := congrArg List.length e2
          rw [List.length_map, hcl] at this
          exact List.length_eq_zero_iff.mp this
        subst this
        refine q _ a sU ⟨as, sU _ _ ea, ?_⟩
        rw [List.map_nil, List.append_nil]
        exact la.mono (Tups.same sU)
      · refine q _ W (same_new sU nW) ⟨as ++ cs, ?_, ((la.mono (Tups.same sU)).app lU).mono (Tups.new nW)⟩
        rw [List.map_append]
        exact upd_same
theorem ok_cut_off {f fB : Addr} {fd fdB : FuncData} (F : Fun K "cut_off" "cut_off" s_cut_off f fd) (bi : Bi mg) (C_let_by : Cal P w K mg base "let_by" P_let_by 1 spLetBy fB fdB) : FnOk P w K mg base CX0 2 f fd P_cut_off spCutOff := by
  refine F.ok sc_cut_off (fun vs H Q E h => ?_) (fun cdv A outer s H vs Q E hr h => ?_)
  · obtain ⟨a, Ls, p, rfl, _⟩ := h
    rfl
  · obtain ⟨a, Ls, p, rfl, ⟨as, ea, la⟩, hl, q⟩ := h
    refine ⟨_, (pss_one (ps_ret (pe_callTy call_tuple_of (by rfl) bi.m_tuple (by decide +kernel) (pa_cons (pe_lc (own := [("laid", 2)]) (g := (gName 2)) (tt := (tTest (tOp (rI0 fun i j => V.bl (decide (i < j))) (tOp (rIxT K) (tVar 2) (tC (.int 1))) (tVar 1)))) rfl sc_cut_off.nd (pi_tup (pv 0)) (blkOk_by (N := N_cut_off) (sc := defScope s_cut_off) (by decide +kernel)) (fun _ _ _ _ _ => (pg_name (i := 2) sc_cut_off.nd rfl (.inl rfl) (.inr rfl))) (fun _ _ _ _ _ => (pts_one (pt_cmpR op_lt (pe_ix ix_tup (pv 2) pe_int (fun _ _ => rfl)) (pv 1) (nomark _)))) (fun _ _ _ _ _ => (pe_call (C_let_by.G.mono (by decide)) hr (by rfl) C_let_by.g C_let_by.kp C_let_by.b .nil pass0 (pa_cons (pv 2) (pa_cons (pv 1) pa_nil))))) pa_nil)))), ?_⟩
    refine ⟨_, rfl, a, rfl, ⟨_, SqT.of ea⟩, fun D nD => ?_⟩
    refine lc_tup (xs := as.map V.ref) (fun i H' => Same H H' ∧ ∃ cs : List Addr, H' D = some (.lst (cs.map V.ref)) ∧ LaidsAt H' cs (belowOf p (Ls.take i))) ⟨same_new (Same.refl H) nD, [], upd_same, LaidsAt.nil⟩ (fun i H' hi hm => SqT.of (hm.1 _ _ ea)) (fun i x H' hx hm => ?_) (fun H' hm => ?_)
    · obtain ⟨sm, cs, eD, lc⟩ := hm
      obtain ⟨b, L, rfl, _, eL, hb⟩ := laid_get la hx
      have hi' : i < Ls.length := (List.getElem?_eq_some_iff.mp eL).1
      have ht : Ls.take (i + 1) = Ls.take i ++ [L] := by
        rw [List.take_add_one, eL]
        rfl
      have hcl : cs.length ≤ 60 := by
        rw [lc.1]
        refine Nat.le_trans (below_len _ _) ?_
        rw [List.length_take]
        omega
      obtain ⟨wa, eb, hw⟩ := id hb
      refine ⟨rfl, ?_⟩
      refine ⟨_, rfl, b, _, 1, _, rfl, rfl, SqT.of (sm _ _ eb), atI_nat (j := 1) rfl, _, rfl, _, _, rfl, rfl, _, rfl, ite2 (fun e => ?_) (fun e => ?_)⟩
      · have e : L.pl < p := of_decide_eq_true e
        refine ⟨_, rfl, _, rfl, b, L, p, rfl, hb.mono (Tups.same sm), fun H3 o s3 no lo => ?_⟩
        have eD3 := s3 _ _ eD
        refine ⟨_, eD3, (by rw [List.length_map]; exact small1000 (by omega)), same_mine (sm.trans s3) nD, cs ++ [o], ?_, ?_⟩
        · rw [List.map_append]
          exact upd_same
        · rw [ht, below_snoc, if_pos e]
          exact ((lc.mono (Tups.same s3)).snoc lo).mono (Tups.ls eD3)
      · have e : ¬ L.pl < p := of_decide_eq_false (Bool.eq_false_iff.mpr e)
        refine ⟨sm, cs, eD, ?_⟩
        rw [ht, below_snoc, if_neg e, List.append_nil]
        exact lc
    · obtain ⟨sm, cs, eD, lc⟩ := hm
      rw [List.length_map, la.1, List.take_length] at lc
      refine ⟨D, _, rfl, .inl ⟨SqL.of eD, fun U nU => ?_⟩⟩
      exact q _ U (same_new sm nU) (Same.free sm nU) ⟨cs, upd_same, lc.mono (Tups.new nU)⟩
theorem ok_rest_from {f fM fT : Addr} {fd fdM fdT : FuncData} (F : Fun K "rest_from" "rest_from" s_rest_from f fd) (bi : Bi mg) (C_moved : Cal P w K mg base "moved" P_moved 1 spMoved fM fdM) (C_tail : Cal P w K mg base "tail" P_tail 1 spTail fT fdT) : FnOk P w K mg base CX0 2 f fd P_rest_from spRestFrom := by
  refine F.ok sc_rest_from (fun vs H Q E h => ?_) (fun cdv A outer s H vs Q E hr h => ?_)
  · obtain ⟨a, L, p, rfl, _⟩ := h
    rfl
  · obtain ⟨a, L, p, rfl, hb, h10, q⟩ := h
    refine ⟨_, (pss_cons (ps_asg (pv 0) (pg_tup rfl (pgs_cons (pg_name (i := 2) sc_rest_from.nd rfl (.inl rfl)) (pgs_cons (pg_name (i := 3) sc_rest_from.nd rfl (.inl rfl)) (pgs_cons (pg_name (i := 4) sc_rest_from.nd rfl (.inl rfl)) pgs_nil)))))
    (pss_cons (ps_if (pt_cmpR op_lt (pv 3) (pv 1) (nomark _))
      (pss_one (ps_ret (pe_call (C_moved.G.mono (by decide)) hr (by rfl) C_moved.g C_moved.kp C_moved.b .nil pass0 (pa_cons (pe_tup (pa_cons (pe_call (C_tail.G.mono (by decide)) hr (by rfl) C_tail.g C_tail.kp C_tail.b .nil pass0 (pa_cons (pv 2) (pa_cons (pe_op op_sub (pv 1) (pv 3)) pa_nil))) (pa_cons (pv 1) (pa_cons (pv 4) pa_nil)))) (pa_cons (pe_un un_neg (pv 1)) pa_nil)))))
      pss_nil)
    (pss_one (ps_ret (pe_call (C_moved.G.mono (by decide)) hr (by rfl) C_moved.g C_moved.kp C_moved.b .nil pass0 (pa_cons (pv 0) (pa_cons (pe_un un_neg (pv 1)) pa_nil))))))), ?_⟩
    obtain ⟨wa, ea, hw⟩ := id hb
    refine ⟨_, rfl, a, _, rfl, SqT.of ea, rfl, _, _, rfl, _, _, rfl, _, _, rfl, rfl, ?_⟩
    refine ⟨_, rfl, _, rfl, _, _, rfl, rfl, _, rfl, ite2 (fun e => ?_) (fun e => ?_)⟩
    · have e : L.pl < p := of_decide_eq_true e
      refine ⟨_, rfl, _, rfl, _, rfl, _, _, rfl, rfl, wa, L.so, L.ps, _, rfl, hw, h10, fun H1 t s1 nt ht => ?_⟩
      refine ⟨_, rfl, _, rfl, (by show 3 ≤ sizeLine; decide), fun z nz => ?_⟩
      have lz : LaidAt (upd H1 z (.tup [.ref t, .int p, letV L.le])) z (cutL L p) := ⟨t, upd_same, ht.mono (Tups.new nz)⟩
      refine ⟨_, rfl, _, rfl, z, cutL L p, -p, rfl, lz, fun H2 o s2 no lo => ?_⟩
      have sz : Same H (upd H1 z (.tup [.ref t, .int p, letV L.le])) := same_new s1 nz
      refine q _ o (sz.trans s2) (sz.free no) ?_
      unfold restL
      rw [if_pos e]
      exact lo
    · have e : ¬ L.pl < p := of_decide_eq_false (Bool.eq_false_iff.mpr e)
      refine ⟨_, rfl, _, rfl, _, rfl, a, L, -p, rfl, hb, fun H2 o s2 no lo => ?_⟩
      refine q _ o s2 no ?_
      unfold restL
      rw [if_neg e]
      exact lo
theorem ok_from_on {f fR fK : Addr} {fd fdR fdK : FuncData} (F : Fun K "from_on" "from_on" s_from_on f fd) (bi : Bi mg) (C_thick_of : Cal P w K mg base "thick_of" P_thick_of 2 spThickOf fK fdK) (C_rest_from : Cal P w K mg base "rest_from" P_rest_from 2 spRestFrom fR fdR) : FnOk P w K mg base CX0 3 f fd P_from_on spFromOn := by
  refine F.ok sc_from_on (fun vs H Q E h => ?_) (fun cdv A outer s H vs Q E hr h => ?_)
  · obtain ⟨a, Ls, p, rfl, _⟩ := h
    rfl
  · obtain ⟨a, Ls, p, rfl, ⟨as, ea, la⟩, hl, h10, q⟩ := h
    refine ⟨_, (pss_cons (ps_setLc (i := 2) (own := [("laid", 3)]) (g := (gName 3)) (tt := (tOr (tTest (tOp (rI0 fun i j => V.bl (decide (j ≤ i))) (tOp (rIxT K) (tVar 3) (tC (.int 1))) (tVar 1))) (tTest (tOp (rI0 fun i j => V.bl (decide (j < i))) (tCall spThickOf [] E0 (tCons (tVar 3) (tCons (tVar 1) tNil))) (tC (.int 0)))))) rfl sc_from_on.nd rfl rfl (sw_true rfl rfl rfl (by decide +kernel)) (pi_tup (pv 0)) (blkOk_by (N := N_from_on) (sc := defScope s_from_on) (by decide +kernel)) (fun _ _ _ _ _ => (pg_name (i := 3) sc_from_on.nd rfl (.inl rfl) (.inr rfl))) (fun _ _ _ _ _ => (pts_one (pw_or (pt_cmpR op_ge (pe_ix ix_tup (pv 3) pe_int (fun _ _ => rfl)) (pv 1) (nomark _)) (pw_or1 (pt_cmpR op_gt (pe_call (C_thick_of.G.mono (by decide)) hr (by rfl) C_thick_of.g C_thick_of.kp C_thick_of.b .nil pass0 (pa_cons (pv 3) (pa_cons (pv 1) pa_nil))) pe_int (nomark _)))).pt)) (fun _ _ _ _ _ => (pv 3)))
    (pss_one (ps_ret (pe_callTy call_tuple_of (by rfl) bi.m_tuple (by decide +kernel) (pa_cons (pe_lc (own := [("laid", 3)]) (g := (gName 3)) (tt := tYes) rfl sc_from_on.nd (pi_list (pv 2)) (blkOk_by (N := N_from_on) (sc := defScope s_from_on) (by decide +kernel)) (fun _ _ _ _ _ => (pg_name (i := 3) sc_from_on.nd rfl (.inl rfl) (.inr rfl))) (fun _ _ _ _ _ => pts_nil) (fun _ _ _ _ _ => (pe_call (C_rest_from.G.mono (by decide)) hr (by rfl) C_rest_from.g C_rest_from.kp C_rest_from.b .nil pass0 (pa_cons (pv 3) (pa_cons (pv 1) pa_nil))))) pa_nil))))), ?_⟩
    refine ⟨_, rfl, a, rfl, ⟨_, SqT.of ea⟩, fun D nD => ?_⟩
    refine lc_tup (xs := as.map V.ref) (fun i H' => Same H H' ∧ ∃ cs : List Addr, H' D = some (.lst (cs.map V.ref)) ∧ LaidsAt H' cs ((Ls.take i).filter (isKept p))) ⟨same_new (Same.refl H) nD, [], upd_same, LaidsAt.nil⟩ (fun i H' hi hm => SqT.of (hm.1 _ _ ea)) (fun i x H' hx hm => ?_) (fun H' hm => ?_)
    · obtain ⟨sm, cs, eD, lc⟩ := hm
      obtain ⟨b, L, rfl, _, eL, hb⟩ := laid_get la hx
      have hi' : i < Ls.length := (List.getElem?_eq_some_iff.mp eL).1
      have ht : (Ls.take (i + 1)).filter (isKept p) = (Ls.take i).filter (isKept p) ++ (if isKept p L = true then [L] else []) := by
        rw [List.take_add_one, eL]
        show (Ls.take i ++ [L]).filter (isKept p) = _
        rw [List.filter_append]
        congr 1
        by_cases h : isKept p L = true <;> simp [h]
      have hcl : cs.length ≤ 60 := by
        rw [lc.1]
        refine Nat.le_trans (List.length_filter_le _ _) ?_
        rw [List.length_take]
        omega
      obtain ⟨wa, eb, hw⟩ := id hb
      have yes : isKept p L = true → ∃ acc, H' D = some (.lst acc) ∧ acc.length < sizeLine ∧ (Same H (upd H' D (.lst (acc ++ [.ref b]))) ∧ ∃ cs : List Addr, upd H' D (.lst (acc ++ [.ref b])) D = some (.lst (cs.map V.ref)) ∧ LaidsAt (upd H' D (.lst (acc ++ [.ref b]))) cs ((Ls.take (i + 1)).filter (isKept p))) := fun hk => by
        refine ⟨_, eD, (by rw [List.length_map]; exact small1000 (by omega)), same_mine sm nD, cs ++ [b], ?_, ?_⟩
        · rw [List.map_append]
          exact upd_same
        · rw [ht, if_pos hk]
          exact (lc.snoc (hb.mono (Tups.same sm))).mono (Tups.ls eD)
      refine ⟨rfl, ?_⟩
      refine ⟨_, rfl, b, _, 1, _, rfl, rfl, SqT.of (sm _ _ eb), atI_nat (j := 1) rfl, _, rfl, _, _, rfl, rfl, _, rfl, ite2 (fun e => ?_) (fun e => ?_)⟩
      · have e : p ≤ L.pl := of_decide_eq_true e
        exact iteT ⟨_, rfl, yes (by unfold isKept; rw [decide_eq_true e]; rfl)⟩
      · have e : ¬ p ≤ L.pl := of_decide_eq_false (Bool.eq_false_iff.mpr e)
        refine ⟨_, rfl, _, rfl, b, L, p, rfl, hb.mono (Tups.same sm), _, _, rfl, rfl, _, rfl, ite2 (fun e2 => ?_) (fun e2 => ?_)⟩
        · have e2 : 0 < thickL L p := of_decide_eq_true e2
          exact ⟨_, rfl, yes (by unfold isKept; rw [decide_eq_true e2]; simp)⟩
        · have e2 : ¬ 0 < thickL L p := of_decide_eq_false (Bool.eq_false_iff.mpr e2)
          refine ⟨sm, cs, eD, ?_⟩
          rw [ht, if_neg (by unfold isKept; rw [decide_eq_false e, decide_eq_false e2]; decide), List.append_nil]
          exact lc
    · obtain ⟨sm, cs, eD, lc⟩ := hm
      rw [List.length_map, la.1, List.take_length] at lc
      have hk10 : ∀ L ∈ Ls.filter (isKept p), L.ps.length ≤ 10 := fun L hL => h10 L (List.mem_filter.mp hL).1
      have hk60 : (Ls.filter (isKept p)).length ≤ 60 := Nat.le_trans kept_len hl
      have ab : aboveOf p Ls = (Ls.filter (isKept p)).map (restL p) := rfl
      generalize Ls.filter (isKept p) = Ks at lc hk10 hk60 ab
      refine ⟨_, rfl, D, rfl, ⟨_, SqL.of eD⟩, fun D2 nD2 => ?_⟩
      refine lc_list (xs := cs.map V.ref) (fun i H2 => Same H' H2 ∧ ∃ ds : List Addr, H2 D2 = some (.lst (ds.map V.ref)) ∧ LaidsAt H2 ds ((Ks.take i).map (restL p))) ⟨same_new (Same.refl _) nD2, [], upd_same, LaidsAt.nil⟩ (fun i H2 hi hm => SqL.of (hm.1 _ _ eD)) (fun i x H2 hx hm => ?_) (fun H2 hm => ?_)
      · obtain ⟨sm2, ds, eD2, ld⟩ := hm
        obtain ⟨b, L, rfl, _, eL, hb⟩ := laid_get lc hx
        have hi' : i < Ks.length := (List.getElem?_eq_some_iff.mp eL).1
        have hdl : ds.length ≤ 60 := by
          rw [ld.1, List.length_map, List.length_take]
          omega
        refine ⟨rfl, yesIte ?_⟩
        refine ⟨_, rfl, _, rfl, b, L, p, rfl, hb.mono (Tups.same sm2), hk10 L (List.mem_of_getElem? eL), fun H3 o s3 no lo => ?_⟩
        have eD3 := s3 _ _ eD2
        refine ⟨_, eD3, (by rw [List.length_map]; exact small1000 (by omega)), same_mine (sm2.trans s3) nD2, ds ++ [o], ?_, ?_⟩
        · rw [List.map_append]
          exact upd_same
        · rw [take_map_succ _ eL]
          exact ((ld.mono (Tups.same s3)).snoc lo).mono (Tups.ls eD3)
      · obtain ⟨sm2, ds, eD2, ld⟩ := hm
        rw [List.length_map, lc.1, List.take_length, ← ab] at ld
        refine ⟨D2, _, rfl, .inl ⟨SqL.of eD2, fun U nU => ?_⟩⟩
        have s2 := sm.trans sm2
        exact q _ U (same_new s2 nU) (Same.free s2 nU) ⟨ds, upd_same, ld.mono (Tups.new nU)⟩
theorem ok__law_blend {f : Addr} {fd : FuncData} {k : Nat} (F : Fun K "_law_blend" "_law_blend" s__law_blend f fd) : FnOk P w K mg base CX0 (k + 1) f fd P__law_blend spBlend := by
  refine F.ok sc__law_blend (fun vs H Q E h => ?_) (fun cdv A outer s H vs Q E hr h => ?_)
  · obtain ⟨n, t, rfl, _⟩ := h
    rfl
  · obtain ⟨n, t, rfl, h0, h1, q⟩ := h
    refine ⟨_, (pss_cons (ps_set (i := 2) sc__law_blend.nd rfl (.inl rfl) (pe_op op_add (pe_op op_add (pe_op op_add (pe_op op_mod (pv 0) pe_int) (pe_op op_mul (pe_op op_mul pe_int (pv 1)) (pv 1))) (pe_op op_mul pe_int (pv 1))) pe_int))
    (pss_cons (ps_set (i := 3) sc__law_blend.nd rfl (.inl rfl) (pe_op op_mod (pe_op op_mul (pv 2) pe_int) pe_int))
    (pss_one (ps_ret (pe_op op_mod (pe_op op_add (pe_op op_mul (pv 3) (pe_op op_add (pe_op op_mod (pv 3) pe_int) (pe_op op_mul pe_int (pv 1)))) (pe_op op_fdiv (pv 3) pe_int)) pe_int))))), ?_⟩
    have b1 : -(2 ^ 64) < t ∧ t < 2 ^ 64 := ⟨by omega, by omega⟩
    have b2 : ∀ x : Int, -(2 ^ 64) < x % 2305843009213693921 ∧ x % 2305843009213693921 < 2 ^ 64 := fun x => ⟨by omega, by omega⟩
    refine ⟨_, rfl, _, _, rfl, rfl, (by show (0 : Int) < 2305843009213693951; decide), _, rfl, _, _, rfl, rfl, .inl ⟨by decide, by decide⟩, _, rfl, _, _, rfl, rfl, .inr b1, _, _, rfl, rfl, _, rfl, _, _, rfl, rfl, .inl ⟨by decide, by decide⟩, _, _, rfl, rfl, _, _, rfl, rfl, ?_⟩
    refine ⟨_, rfl, _, _, rfl, rfl, .inr ⟨by decide, by decide⟩, _, _, rfl, rfl, (by show (0 : Int) < 2305843009213693921; decide), ?_⟩
    refine ⟨_, rfl, _, rfl, _, _, rfl, rfl, (by show (0 : Int) < 1000003; decide), _, rfl, _, _, rfl, rfl, .inl ⟨by decide, by decide⟩, _, _, rfl, rfl, _, _, rfl, rfl, .inl (b2 _), _, rfl, _, _, rfl, rfl, ⟨by decide, by decide⟩, _, _, rfl, rfl, _, _, rfl, rfl, (by show (0 : Int) < 2305843009213693907; decide), q _⟩
theorem ok__law_pot {f : Addr} {fd : FuncData} {k : Nat} (F : Fun K "_law_pot" "_law_pot" s__law_pot f fd) (bi : Bi mg) : FnOk P w K mg base CX0 (k + 1) f fd P__law_pot (spPot K) := by
  refine F.ok sc__law_pot (fun vs H Q E h => ?_) (fun cdv A outer s H vs Q E hr h => ?_)
  · obtain ⟨a, ns, rfl, _⟩ := h
    rfl
  · obtain ⟨a, ns, rfl, hS, hn, q⟩ := h
    refine ⟨_, (pss_one (ps_ret (pe_lst (pa_cons (pe_callTy call_list_of (by rfl) bi.m_list (by decide +kernel) (pa_cons (pv 0) pa_nil)) (pa_cons pe_int (pa_cons pe_int (pa_cons pe_int pa_nil))))))), ?_⟩
    refine ⟨_, rfl, a, _, rfl, .inl hS, fun l nl => ?_⟩
    refine ⟨(by show 4 ≤ sizeLine; decide), fun p np => ?_⟩
    have hpl : l ≠ p := fun e => by
      rw [← e, upd_same] at np
      cases np
    have np' : H p = none := by
      rw [upd_ne hpl.symm] at np
      exact np
    refine q _ p l (fun b o e => ?_) np' nl ⟨ns, 0, 3, 0, upd_same, ?_, by decide, Nat.le_refl _, hn⟩
    · rw [upd_ne (ne_of_none e np'), upd_ne (ne_of_none e nl)]
      exact e
    · rw [upd_ne hpl, upd_same]
theorem ok__law_whole {f : Addr} {fd : FuncData} {k : Nat} (F : Fun K "_law_whole" "_law_whole" s__law_whole f fd) (bi : Bi mg) : FnOk P w K mg base CX0 (k + 1) f fd P__law_whole spWhole := by
  refine F.ok sc__law_whole (fun vs H Q E h => ?_) (fun cdv A outer s H vs Q E hr h => ?_)
  · obtain ⟨i, rfl, _⟩ := h
    rfl
  · obtain ⟨i, rfl, q⟩ := h
    refine ⟨_, (pss_one (ps_ret (pe_and (pe_callB call_isi (by rfl) bi.m_isinstance (by decide +kernel) (pa_cons (pv 0) (pa_cons (pe_bltn (v := .ty "int") (by rfl) bi.m_int (by decide +kernel) rfl) pa_nil))) (pe_one (pe_not (pe_callB call_isi (by rfl) bi.m_isinstance (by decide +kernel) (pa_cons (pv 0) (pa_cons (pe_bltn (v := .ty "bool") (by rfl) bi.m_bool (by decide +kernel) rfl) pa_nil)))))))), ?_⟩
    refine ⟨_, rfl, _, _, _, _, true, rfl, ClsV.ty "int", .base (.int i), kit_ty (by decide +kernel), true, rfl, iteT ?_⟩
    exact ⟨_, rfl, _, _, _, _, false, rfl, ClsV.ty "bool", .base (.int i), kit_ty (by decide +kernel), false, rfl, q⟩
theorem ok__law_draw {f fB : Addr} {fd fdB : FuncData} (F : Fun K "_law_draw" "_law_draw" s__law_draw f fd) (bi : Bi mg) (C__law_blend : Cal P w K mg base "_law_blend" P__law_blend 1 spBlend fB fdB) : FnOk P w K mg base CX0 2 f fd P__law_draw spDraw := by
  refine F.ok sc__law_draw (fun vs H Q E h => ?_) (fun cdv A outer s H vs Q E hr h => ?_)
  · obtain ⟨p, l, T, many, rfl, _⟩ := h
    rfl
  · obtain ⟨p, l, T, many, rfl, hp, hT, m0, q⟩ := h
    have hu64 := hr.units
    refine ⟨_, (pss_cons (ps_asg (pe_op op_add (pe_ix ix_list (pv 0) pe_int (fun _ _ => rfl)) pe_int) (pg_sub (pv 0) pe_int set_list))
    (C8.pss_cut (ps_if (pw_and (pt_cmpR op_eq (pe_ix ix_list (pv 0) pe_int (fun _ _ => rfl)) pe_int (nomark _)) (pw_and1 (pt_cmpR (op_neD hu64) (pe_ix ix_list (pv 0) pe_int (fun _ _ => rfl)) (pe_lst pa_nil) (nomark _)))).pt
      (pss_cons (ps_set (i := 2) sc__law_draw.nd rfl (.inl rfl) (pe_bm PySem.F.plainAttrs_list PySem.F.slot_list_pop PySem.F.type_list_pop mt_popAt (pe_ix ix_list (pv 0) pe_int (fun _ _ => rfl)) (pa_cons pe_int pa_nil)))
        (pss_cons (ps_asg (pe_call (C__law_blend.G.mono (by decide)) hr (by rfl) C__law_blend.g C__law_blend.kp C__law_blend.b .nil pass0 (pa_cons (pe_op op_add (pe_ix ix_list (pv 0) pe_int (fun _ _ => rfl)) (pv 2)) (pa_cons (pe_callB call_len_seq (by rfl) bi.m_len (by decide +kernel) (pa_cons (pe_ix ix_list (pv 0) pe_int (fun _ _ => rfl)) pa_nil)) pa_nil))) (pg_sub (pv 0) pe_int set_list))
        (pss_one (ps_if (pt_cmpR op_ge (pe_callB call_abs (by rfl) bi.m_abs (by decide +kernel) (pa_cons (pv 2) pa_nil)) (pe_op op_pow pe_int pe_int) (nomark _))
          (pss_one (ps_asg (pe_callB call_abs (by rfl) bi.m_abs (by decide +kernel) (pa_cons (pv 2) pa_nil)) (pg_sub (pv 0) pe_int set_list)))
          pss_nil))))
      pss_nil)
    (pss_cons (ps_if (pt_cmpR op_gt (pe_ix ix_list (pv 0) pe_int (fun _ _ => rfl)) pe_int (nomark _))
      (pss_cons (ps_set (i := 3) sc__law_draw.nd rfl (.inl rfl) (pe_op op_mod (pe_ix ix_list (pv 0) pe_int (fun _ _ => rfl)) (pv 1)))
        (pss_cons (ps_asg (pe_op op_fdivW (pe_ix ix_list (pv 0) pe_int (fun _ _ => rfl)) (pv 1)) (pg_sub (pv 0) pe_int set_list))
        (pss_one (ps_ret (pv 3)))))
      pss_nil)
    (pss_one (ps_ret (pe_op op_mod (pe_op op_fdiv (pe_call (C__law_blend.G.mono (by decide)) hr (by rfl) C__law_blend.g C__law_blend.kp C__law_blend.b .nil pass0 (pa_cons (pe_ix ix_list (pv 0) pe_int (fun _ _ => rfl)) (pa_cons (pe_ix ix_list (pv 0) pe_int (fun _ _ => rfl)) pa_nil))) pe_int) (pv 1))))))), ?_⟩
    have hne := hp.ne
    obtain ⟨ns, c, m, t, ep, el, c0, tT, hn⟩ := hp
    -- pot[3] = pot[3] + 1
    refine ⟨_, rfl, p, _, 3, _, rfl, rfl, SqL.of ep, atI_nat (j := 3) rfl, _, _, rfl, rfl, _, rfl, p, _, 3, 3, rfl, rfl, ep, rfl, ?_⟩
    have ep1 : upd H p (.lst [.ref l, .int c, .int m, .int ((t : Int) + 1)]) p = some (.lst [.ref l, .int c, .int m, .int ((t : Int) + 1)]) := upd_same
    have el1 : upd H p (.lst [.ref l, .int c, .int m, .int ((t : Int) + 1)]) l = some (.lst (ns.map V.int)) := by rw [upd_ne hne.symm]; exact el
    have k1 : Keep p l H (upd H p (.lst [.ref l, .int c, .int m, .int ((t : Int) + 1)])) := Keep.refl.own
    show C8.tCut _ _ _ _ (upd H p (.lst [.ref l, .int c, .int m, .int ((t : Int) + 1)]))
    generalize upd H p (.lst [.ref l, .int c, .int m, .int ((t : Int) + 1)]) = H1 at ep1 el1 k1
    -- the middle
    refine ⟨fun σ' H' => ∃ (x2 x3 : Option V) (ns' : List Int) (c' m' : Int), σ' = [some (.ref p), some (.int many), x2, x3] ∧ H' p = some (.lst [.ref l, .int c', .int m', .int ((t : Int) + 1)]) ∧ H' l = some (.lst (ns'.map V.int)) ∧ 0 ≤ c' ∧ ns'.length ≤ 63 ∧ Keep p l H H', ?_, fun σ' H' hm => ?_⟩
    · refine ⟨_, rfl, p, _, 1, _, rfl, rfl, SqL.of ep1, atI_nat (j := 1) rfl, rfl, _, rfl, ite2 (fun e => ?_) (fun e => ?_)⟩
      · refine ⟨_, rfl, p, _, 0, _, rfl, rfl, SqL.of ep1, atI_nat (j := 0) rfl, Nat.zero_le _, fun z nz => ?_⟩
        have elz : upd H1 z (.lst []) l = some (.lst (ns.map V.int)) := by
          rw [upd_ne (ne_of_none el1 nz)]
          exact el1
        have epz : upd H1 z (.lst []) p = some (.lst [.ref l, .int c, .int m, .int ((t : Int) + 1)]) := by
          rw [upd_ne (ne_of_none ep1 nz)]
          exact ep1
        have k2 : Keep p l H (upd H1 z (.lst [])) := k1.new nz
        refine ⟨_, _, .lst (SqL.of elz) (dpInts _ ns), .lst (SqL.of upd_same) .nil, shInts ns, rfl, _, rfl, ite2 (fun e2 => ?_) (fun e2 => ?_)⟩
        · show tSeq _ _ _ _ (upd H1 z (.lst []))
          generalize upd H1 z (.lst []) = H2 at elz epz k2
          cases ns with
          | nil => exact absurd e2 (by decide)
          | cons n r =>
            -- cell = pot[0].pop(0)
            refine ⟨_, rfl, p, _, 0, _, rfl, rfl, SqL.of epz, atI_nat (j := 0) rfl, Or.inl ⟨rfl, _, SqL.of elz⟩, l, _, 0, 0, .int n, rfl, rfl, elz, by decide, by decide, ?_, rfl, ?_⟩
            · show seqIndex? 0 ((r.map V.int).length + 1) = some 0
              unfold seqIndex?
              simp
            have elz2 : upd H2 l (.lst (r.map V.int)) l = some (.lst (r.map V.int)) := upd_same
            have epz2 : upd H2 l (.lst (r.map V.int)) p = some (.lst [.ref l, .int c, .int m, .int ((t : Int) + 1)]) := by
              rw [upd_ne hne]
              exact epz
            have k3 : Keep p l H (upd H2 l (.lst (r.map V.int))) := k2.own2
            show tSeq _ _ _ _ (upd H2 l (.lst (r.map V.int)))
            generalize upd H2 l (.lst (r.map V.int)) = H3 at elz2 epz2 k3
            have hr63 : r.length ≤ 63 := Nat.le_trans (Nat.le_succ _) hn
            -- pot[2] = blend(pot[2] + cell, len(pot[0]))
            refine ⟨_, rfl, p, _, 2, _, rfl, rfl, SqL.of epz2, atI_nat (j := 2) rfl, _, rfl, _, _, rfl, rfl, _, rfl, p, _, 0, _, rfl, rfl, SqL.of epz2, atI_nat (j := 0) rfl, l, _, rfl, .inl (SqL.of elz2), _, _, rfl, ?_, ?_, fun m2 => ?_⟩
            · omega
            · rw [List.length_map]
              omega
            refine ⟨_, rfl, p, _, 2, 2, rfl, rfl, epz2, rfl, ?_⟩
            have ep4 : upd H3 p (.lst [.ref l, .int c, .int m2, .int ((t : Int) + 1)]) p = some (.lst [.ref l, .int c, .int m2, .int ((t : Int) + 1)]) := upd_same
            have el4 : upd H3 p (.lst [.ref l, .int c, .int m2, .int ((t : Int) + 1)]) l = some (.lst (r.map V.int)) := by
              rw [upd_ne hne.symm]
              exact elz2
            have k4 : Keep p l H (upd H3 p (.lst [.ref l, .int c, .int m2, .int ((t : Int) + 1)])) := k3.own
            refine ⟨_, rfl, n, rfl, _, _, rfl, rfl, ⟨by decide, by decide, by decide⟩, _, _, rfl, rfl, _, rfl, ite2 (fun e3 => ?_) (fun e3 => ?_)⟩
            · refine ⟨_, rfl, n, rfl, _, rfl, p, _, 1, 1, rfl, rfl, ep4, rfl, ?_⟩
              refine ⟨_, _, r, (if n < 0 then -n else n), m2, rfl, upd_same, ?_, ?_, hr63, k4.own⟩
              · rw [upd_ne hne.symm]
                exact el4
              · split <;> omega
            · exact ⟨_, _, r, c, m2, rfl, ep4, el4, c0, hr63, k4⟩
        · exact ⟨_, _, ns, c, m, rfl, epz, elz, c0, hn, k2⟩
      · exact ⟨_, _, ns, c, m, rfl, ep1, el1, c0, hn, k1⟩
    · obtain ⟨x2, x3, ns', c', m', rfl, ep', el', c0', hn', k'⟩ := hm
      have pt : ∀ c2 : Int, 0 ≤ c2 → Pot (upd H' p (.lst [.ref l, .int c2, .int m', .int ((t : Int) + 1)])) p l (T + 1) := fun c2 h2 =>
        ⟨ns', c2, m', t + 1, upd_same, by rw [upd_ne hne.symm]; exact el', h2, by omega, hn'⟩
      refine ⟨_, rfl, p, _, 1, _, rfl, rfl, SqL.of ep', atI_nat (j := 1) rfl, _, _, rfl, rfl, _, rfl, ite2 (fun e => ?_) (fun e => ?_)⟩
      · refine ⟨_, rfl, p, _, 1, _, rfl, rfl, SqL.of ep', atI_nat (j := 1) rfl, _, rfl, _, _, rfl, rfl, m0.1, ?_⟩
        refine ⟨_, rfl, p, _, 1, _, rfl, rfl, SqL.of ep', atI_nat (j := 1) rfl, _, rfl, _, _, rfl, rfl, m0, _, rfl, p, _, 1, 1, rfl, rfl, ep', rfl, ?_⟩
        exact ⟨_, rfl, q _ _ (Int.emod_nonneg _ (Int.ne_of_gt m0.1)) (Int.emod_lt_of_pos _ m0.1) (pt _ (Int.ediv_nonneg c0' (Int.le_of_lt m0.1))) k'.own⟩
      · refine ⟨_, rfl, p, _, 2, _, rfl, rfl, SqL.of ep', atI_nat (j := 2) rfl, _, rfl, p, _, 3, _, rfl, rfl, SqL.of ep', atI_nat (j := 3) rfl, _, _, rfl, by omega, by omega, fun r => ?_⟩
        refine ⟨_, _, rfl, rfl, ⟨by decide, by decide⟩, _, rfl, _, _, rfl, rfl, m0.1, ?_⟩
        exact q _ _ (Int.emod_nonneg _ (Int.ne_of_gt m0.1)) (Int.emod_lt_of_pos _ m0.1) ⟨ns', c', m', t + 1, ep', el', c0', by omega, hn'⟩ k'
theorem ok__law_pick {f fD : Addr} {fd fdD : FuncData} (F : Fun K "_law_pick" "_law_pick" s__law_pick f fd) (bi : Bi mg) (C__law_draw : Cal P w K mg base "_law_draw" P__law_draw 2 spDraw fD fdD) : FnOk P w K mg base CX0 3 f fd P__law_pick spPick := by
  refine F.ok sc__law_pick (fun vs H Q E h => ?_) (fun cdv A outer s H vs Q E hr h => ?_)
  · obtain ⟨p, l, T, a, xs, rfl, _⟩ := h
    rfl
  · obtain ⟨p, l, T, a, xs, rfl, hp, hT, ea, nap, nal, h1, h2, q⟩ := h
    refine ⟨_, (pss_one (ps_ret (pe_ix ix_list (pv 1) (pe_call (C__law_draw.G.mono (by decide)) hr (by rfl) C__law_draw.g C__law_draw.kp C__law_draw.b .nil pass0 (pa_cons (pv 0) (pa_cons (pe_callB call_len_seq (by rfl) bi.m_len (by decide +kernel) (pa_cons (pv 1) pa_nil)) pa_nil))) (fun _ _ => rfl)))), ?_⟩
    refine ⟨_, rfl, _, rfl, _, rfl, a, xs, rfl, .inl (SqL.of ea), p, l, T, (xs.length : Int), rfl, hp, by omega, wide_div (b := 11) (by omega) (by omega) (by decide) (by decide), fun d H1 d0 d1 hp1 k1 => ?_⟩
    obtain ⟨j, rfl⟩ : ∃ j : Nat, d = j := ⟨d.toNat, by omega⟩
    have hj : j < xs.length := by omega
    refine ⟨a, xs, _, xs[j], rfl, rfl, SqL.of (k1 _ _ nap nal ea), atI_nat (List.getElem?_eq_getElem hj), ?_⟩
    exact q _ j _ (List.getElem?_eq_getElem hj) hp1 k1
theorem ok__law_great {f fB : Addr} {fd fdB : FuncData} (F : Fun K "_law_great" "_law_great" s__law_great f fd) (bi : Bi mg) (C__law_draw : Cal P w K mg base "_law_draw" P__law_draw 2 spDraw fB fdB) : FnOk P w K mg base CX0 3 f fd P__law_great spGreat := by
  refine F.ok sc__law_great (fun vs H Q E h => ?_) (fun cdv A outer s H vs Q E hr h => ?_)
  · obtain ⟨p, l, T, rfl, _⟩ := h
    rfl
  · obtain ⟨p, l, T, rfl, hp, hT, q⟩ := h
    refine ⟨_, (pss_cons (ps_set (i := 1) sc__law_great.nd rfl (.inl rfl) (pe_call (C__law_draw.G.mono (by decide)) hr (by rfl) C__law_draw.g C__law_draw.kp C__law_draw.b .nil pass0 (pa_cons (pv 0) (pa_cons pe_int pa_nil))))
    (pss_cons (ps_set (i := 2) sc__law_great.nd rfl (.inl rfl) (pe_call (C__law_draw.G.mono (by decide)) hr (by rfl) C__law_draw.g C__law_draw.kp C__law_draw.b .nil pass0 (pa_cons (pv 0) (pa_cons (pe_ix ix_list (pe_lst (pa_cons pe_int (pa_cons pe_int (pa_cons pe_int (pa_cons pe_int pa_nil))))) (pv 1) (fun _ _ => rfl)) pa_nil))))
    (C8.pss_cut (ps_if (pt_cmpR op_eq (pv 1) pe_int (nomark _))
      (pss_one (ps_for PassesOwn.never rfl (pi_range1 rfl bi.m_range (pa_cons pe_int pa_nil)) (pg_name (i := 3) sc__law_great.nd rfl (.inl rfl))
          (pss_one (ps_set (i := 2) sc__law_great.nd rfl (.inl rfl) (pe_op op_add (pe_op op_mul (pv 2) (pe_op op_pow pe_int pe_int)) (pe_call (C__law_draw.G.mono (by decide)) hr (by rfl) C__law_draw.g C__law_draw.kp C__law_draw.b .nil pass0 (pa_cons (pv 0) (pa_cons (pe_op op_pow pe_int pe_int) pa_nil))))))))
      pss_nil)
    (pss_one (ps_ret (pv 2)))))), ?_⟩
    refine ⟨_, rfl, p, l, T, 4, rfl, hp, by omega, ⟨by decide, by decide⟩, fun way H1 w0 w1 hp1 k1 => ?_⟩
    refine ⟨_, rfl, by decide, fun z nz => ?_⟩
    have hq : ∀ b : Int, 0 < b → b ≤ 1000 → CDivW 0 b := fun b h0 h1 => wide_div (b := 10) h0 (by omega) (by decide) (by decide)
    have ix : ∃ b : Int, 0 < b ∧ b ≤ 1000 ∧ (way = 1 → b = 3) ∧ atI [V.int 3, V.int 3, V.int 12, V.int 1000] way = some (.int b) := by
      have hw : way = 0 ∨ way = 1 ∨ way = 2 ∨ way = 3 := by omega
      rcases hw with rfl | rfl | rfl | rfl
      · exact ⟨3, by decide, by decide, by decide, rfl⟩
      · exact ⟨3, by decide, by decide, by decide, rfl⟩
      · exact ⟨12, by decide, by decide, by decide, rfl⟩
      · exact ⟨1000, by decide, by decide, by decide, rfl⟩
    obtain ⟨b, b0, b1, b2, eb⟩ := ix
    refine ⟨_, rfl, z, _, way, _, rfl, rfl, SqL.of upd_same, eb, p, l, T + 1, b, rfl, hp1.new nz, by omega, hq b b0 b1, fun d H2 d0 d1 hp2 k2 => ?_⟩
    have k02 : Keep p l H H2 := (k1.new nz).trans k2
    refine ⟨fun σ' H' => ∃ (n : Int) (x3 : Option V), σ' = [some (.ref p), some (.int way), some (.int n), x3] ∧ 0 ≤ n ∧ n < 2 ^ 122 ∧ Pot H' p l (T + 5) ∧ Keep p l H H', ?_, fun σ' H' hm => ?_⟩
    · refine ⟨_, rfl, rfl, _, rfl, ite2 (fun e => ?_) (fun e => ?_)⟩
      · have ew : way = 1 := V.int.inj (of_decide_eq_true e)
        have eb3 := b2 ew
        refine ⟨3, rfl, by decide, by decide, for_range (n := 3) (fun i σ' H' => ∃ (n : Int) (x3 : Option V), σ' = [some (.ref p), some (.int way), some (.int n), x3] ∧ 0 ≤ n ∧ n < 3 * 1000000000000 ^ i ∧ Pot H' p l (T + 2 + i) ∧ Keep p l H H') ⟨d, _, rfl, d0, by rw [eb3] at d1; simpa using d1, hp2, k02⟩ (fun i σ' H' hi hm => ?_) (fun σ' H' hm => ?_)⟩
        · obtain ⟨n, x3, rfl, n0, n1, hpi, ki⟩ := hm
          refine ⟨_, rfl, _, _, rfl, rfl, ⟨by decide, by decide, by decide⟩, _, _, rfl, rfl, .inr ⟨by decide, by decide⟩, ?_⟩
          refine ⟨_, rfl, _, _, rfl, rfl, ⟨by decide, by decide, by decide⟩, p, l, T + 2 + i, _, rfl, hpi, by omega, ⟨by decide, by decide⟩, fun d2 H3 e0 e1 hp3 k3 => ?_⟩
          refine ⟨_, _, rfl, rfl, ?_⟩
          refine ⟨_, _, rfl, ?_, ?_, hp3, ki.trans k3⟩
          · show 0 ≤ n * 10 ^ 12 + d2
            have : 0 ≤ n * 10 ^ 12 := Int.mul_nonneg n0 (by decide)
            omega
          · have e12 : (10 : Int) ^ (12 : Int).toNat = 1000000000000 := by decide
            have e1' : d2 < 10 ^ (12 : Int).toNat := e1
            show n * 10 ^ (12 : Int).toNat + d2 < 3 * 1000000000000 ^ (i + 1)
            rw [e12] at e1'
            rw [e12, Int.pow_succ]
            generalize (1000000000000 : Int) ^ i = y at n1
            omega
        · obtain ⟨n, x3, rfl, n0, n1, hpi, ki⟩ := hm
          exact ⟨n, x3, rfl, n0, Int.lt_trans n1 (by decide), hpi, ki⟩
      · exact ⟨d, _, rfl, d0, Int.lt_trans d1 (Int.lt_of_le_of_lt b1 (by decide)), hp2.mono (by omega), k02⟩
    · obtain ⟨n, x3, rfl, n0, n1, hpi, ki⟩ := hm
      exact ⟨_, rfl, q _ _ n0 n1 hpi ki⟩
theorem ok__law_wisp {f fB fG : Addr} {fd fdB fdG : FuncData} (F : Fun K "_law_wisp" "_law_wisp" s__law_wisp f fd) (bi : Bi mg) (C__law_draw : Cal P w K mg base "_law_draw" P__law_draw 2 spDraw fB fdB) (C__law_great : Cal P w K mg base "_law_great" P__law_great 3 spGreat fG fdG) : FnOk P w K mg base CX0 4 f fd P__law_wisp spWispP := by
  refine F.ok sc__law_wisp (fun vs H Q E h => ?_) (fun cdv A outer s H vs Q E hr h => ?_)
  · obtain ⟨p, l, T, most, small, rfl, _⟩ := h
    rfl
  · obtain ⟨p, l, T, most, small, rfl, hp, hT, m3, m10, q⟩ := h
    refine ⟨_, (pss_cons (ps_set (i := 3) sc__law_wisp.nd rfl (.inl rfl) (pe_ix ix_list (pe_lst (pa_cons (pe_op op_add pe_int (pe_call (C__law_draw.G.mono (by decide)) hr (by rfl) C__law_draw.g C__law_draw.kp C__law_draw.b .nil pass0 (pa_cons (pv 0) (pa_cons (pv 1) pa_nil)))) (pa_cons (pv 1) (pa_cons pe_int (pa_cons (pe_op op_add pe_int (pe_call (C__law_draw.G.mono (by decide)) hr (by rfl) C__law_draw.g C__law_draw.kp C__law_draw.b .nil pass0 (pa_cons (pv 0) (pa_cons pe_int pa_nil)))) pa_nil))))) (pe_call (C__law_draw.G.mono (by decide)) hr (by rfl) C__law_draw.g C__law_draw.kp C__law_draw.b .nil pass0 (pa_cons (pv 0) (pa_cons pe_int pa_nil))) (fun _ _ => rfl)))
    (pss_cons (ps_par (i := 4) (j := 5) rfl sc__law_wisp.nd rfl rfl (by decide) rfl rfl (pa_cons (pe_lst pa_nil) (pa_cons pe_int pa_nil)) rfl)
    (pss_cons (ps_for PassesOwn.never rfl (pi_range1 rfl bi.m_range (pa_cons (pe_callB (call_min2 rfl) (by rfl) bi.m_min (by decide +kernel) (pa_cons (pv 3) (pa_cons (pv 1) pa_nil))) pa_nil)) (pg_name (i := 6) sc__law_wisp.nd rfl (.inl rfl))
      (pss_cons (ps_set (i := 7) sc__law_wisp.nd rfl (.inl rfl) (pe_lst (pa_cons (pe_call (C__law_draw.G.mono (by decide)) hr (by rfl) C__law_draw.g C__law_draw.kp C__law_draw.b .nil pass0 (pa_cons (pv 0) (pa_cons pe_int pa_nil))) (pa_cons (pe_call (C__law_draw.G.mono (by decide)) hr (by rfl) C__law_draw.g C__law_draw.kp C__law_draw.b .nil pass0 (pa_cons (pv 0) (pa_cons pe_int pa_nil))) pa_nil))))
        (C8.pss_cut (ps_if (pt_not (pt_val (pv 2)))
          (pss_one (ps_set (i := 7) sc__law_wisp.nd rfl (.inl rfl) (pe_lst (pa_cons (pe_call (C__law_great.G.mono (by decide)) hr (by rfl) C__law_great.g C__law_great.kp C__law_great.b .nil pass0 (pa_cons (pv 0) pa_nil)) (pa_cons (pe_call (C__law_great.G.mono (by decide)) hr (by rfl) C__law_great.g C__law_great.kp C__law_great.b .nil pass0 (pa_cons (pv 0) pa_nil)) pa_nil)))))
          pss_nil)
        (pss_cons (ps_set (i := 5) sc__law_wisp.nd rfl (.inl rfl) (pe_op op_add (pe_op op_add (pv 5) pe_int) (pe_ix ix_list (pv 7) pe_int (fun _ _ => rfl))))
        (pss_one (ps_expr (pe_bm PySem.F.plainAttrs_list PySem.F.slot_list_insert PySem.F.type_list_insert mt_insert (pv 4) (pa_cons pe_int (pa_cons (pe_tup (pa_cons (pv 5) (pa_cons (pe_op op_add pe_int (pe_ix ix_list (pv 7) pe_int (fun _ _ => rfl))) pa_nil))) pa_nil)))))))))
    (pss_one (ps_ret (pe_tup (pa_cons (pe_call (C__law_draw.G.mono (by decide)) hr (by rfl) C__law_draw.g C__law_draw.kp C__law_draw.b .nil pass0 (pa_cons (pv 0) (pa_cons pe_int pa_nil))) (pa_cons (pe_callTy call_tuple_of (by rfl) bi.m_tuple (by decide +kernel) (pa_cons (pv 4) pa_nil)) pa_nil)))))))), ?_⟩
    have hq : ∀ b : Int, 0 < b → b ≤ 1000 → CDivW 0 b := fun b h0 h1 => wide_div (b := 10) h0 (by omega) (by decide) (by decide)
    refine ⟨_, rfl, _, rfl, p, l, T, most, rfl, hp, by omega, hq _ (by omega) (by omega), fun d1 H1 d10 d11 hp1 k1 => ?_⟩
    refine ⟨_, _, rfl, rfl, _, rfl, _, rfl, p, l, T + 1, 3, rfl, hp1, by omega, hq _ (by omega) (by omega), fun d2 H2 d20 d21 hp2 k2 => ?_⟩
    refine ⟨_, _, rfl, rfl, (by show 4 ≤ sizeLine; decide), fun z nz => ?_⟩
    refine ⟨_, rfl, p, l, T + 2, 4, rfl, hp2.new nz, by omega, hq _ (by omega) (by omega), fun d3 H3 d30 d31 hp3 k3 => ?_⟩
    have kz : Keep p l H2 H3 := (Keep.refl.new nz).trans k3
    have k03 : Keep p l H H3 := (k1.trans k2).trans kz
    obtain ⟨nz1, nz2⟩ := hp2.fresh nz
    have ez : H3 z = some (.lst [.int (1 + d1), .int most, .int 1, .int (1 + d2)]) := k3 z _ nz1 nz2 upd_same
    have ix : ∃ b : Int, 1 ≤ b ∧ b ≤ 10 ∧ atI [V.int (1 + d1), V.int most, V.int 1, V.int (1 + d2)] d3 = some (.int b) := by
      have hw : d3 = 0 ∨ d3 = 1 ∨ d3 = 2 ∨ d3 = 3 := by omega
      rcases hw with rfl | rfl | rfl | rfl
      · exact ⟨1 + d1, by omega, by omega, rfl⟩
      · exact ⟨most, by omega, by omega, rfl⟩
      · exact ⟨1, by omega, by omega, rfl⟩
      · exact ⟨1 + d2, by omega, by omega, rfl⟩
    obtain ⟨b, b1, b2, eb⟩ := ix
    refine ⟨z, _, d3, _, rfl, rfl, SqL.of ez, eb, ?_⟩
    -- steps, strong = [], 0
    refine ⟨Nat.zero_le _, fun S nS => ?_⟩
    have nSH : H S = none := k03.free hp3 nS
    obtain ⟨nSp, nSl⟩ := hp3.fresh nS
    refine ⟨_, _, rfl, ?_⟩
    obtain ⟨n, hmin, n1, n2⟩ : ∃ n, (if most < b then most else b) = n ∧ 1 ≤ n ∧ n ≤ most := ⟨_, rfl, by split <;> omega, by split <;> omega⟩
    refine ⟨_, rfl, _, rfl, _, _, rfl, (if most < b then most else b), rfl, by omega, by omega, ?_⟩
    rw [hmin]
    have PB : (2 : Int) ^ 122 + 1 ≤ 2 ^ 123 := by decide
    refine for_range (n := n.toNat) (fun i σ' H' => ∃ (x6 x7 : Option V) (as : List Addr) (ps : List (Int × Int)) (st : Int), σ' = [some (.ref p), some (.int most), some (.bl small), some (.int b), some (.ref S), some (.int st), x6, x7] ∧ ps.length = i ∧ H' S = some (.lst (as.map V.ref)) ∧ TupsAt H' as (ps.map stepV) ∧ Pot H' p l (T + 3 + 12 * i) ∧ Keep p l H H' ∧ Falls ps ∧ (∀ x ∈ ps, 1 ≤ x.1 ∧ x.1 ≤ st ∧ 1 ≤ x.2 ∧ x.2 ≤ 2 ^ 123) ∧ 0 ≤ st ∧ st ≤ i * 2 ^ 123 ∧ (small = true → (∀ x ∈ ps, x.2 ≤ 3) ∧ st ≤ 3 * i))
      ⟨_, _, [], [], 0, rfl, rfl, upd_same, TupsAt.nil, hp3.new nS, k03.new nS, List.Pairwise.nil, (fun x hx => by simp at hx), by decide, by decide, fun _ => ⟨(fun x hx => by simp at hx), by decide⟩⟩ (fun i σ' H' hi hm => ?_) (fun σ' H' hm => ?_)
    · obtain ⟨x6, x7, as, ps, st, rfl, hl, eS, tu, hpi, ki, fa, bo, st0, st1, sm⟩ := hm
      -- more = [draw, draw]
      refine ⟨_, rfl, p, l, T + 3 + 12 * i, 3, rfl, hpi, by omega, hq _ (by omega) (by omega), fun e1 H4 e10 e11 hp4 k4 => ?_⟩
      refine ⟨_, rfl, p, l, T + 3 + 12 * i + 1, 3, rfl, hp4, by omega, hq _ (by omega) (by omega), fun e2 H5 e20 e21 hp5 k5 => ?_⟩
      refine ⟨(by show 2 ≤ sizeLine; decide), fun M nM => ?_⟩
      have eS5 : H5 S = some (.lst (as.map V.ref)) := k5 _ _ nSp nSl (k4 _ _ nSp nSl eS)
      have tu5 : TupsAt H5 as (ps.map stepV) := (tu.mono (k4.tups hpi)).mono (k5.tups hp4)
      have nMS : S ≠ M := ne_of_none eS5 nM
      have kM : Keep p l H (upd H5 M (.lst [.int e1, .int e2])) := ((ki.trans k4).trans k5).new nM
      have eS6 : upd H5 M (.lst [.int e1, .int e2]) S = some (.lst (as.map V.ref)) := by
        rw [upd_ne nMS]
        exact eS5
      have tu6 : TupsAt (upd H5 M (.lst [.int e1, .int e2])) as (ps.map stepV) := tu5.mono (Tups.new nM)
      have hp6 : Pot (upd H5 M (.lst [.int e1, .int e2])) p l (T + 3 + 12 * i + 2) := hp5.new nM
      refine ⟨fun σ' H' => ∃ (M : Addr) (x6 : Option V) (a1 a2 : Int), σ' = [some (.ref p), some (.int most), some (.bl small), some (.int b), some (.ref S), some (.int st), x6, some (.ref M)] ∧ H' M = some (.lst [.int a1, .int a2]) ∧ 0 ≤ a1 ∧ a1 < 2 ^ 122 ∧ 0 ≤ a2 ∧ a2 < 2 ^ 122 ∧ (small = true → a1 ≤ 2 ∧ a2 ≤ 2) ∧ H' S = some (.lst (as.map V.ref)) ∧ TupsAt H' as (ps.map stepV) ∧ Pot H' p l (T + 3 + 12 * i + 12) ∧ Keep p l H H', ?_, fun σ' H' hm => ?_⟩
      · refine ⟨_, rfl, small, rfl, ?_⟩
        cases small with
        | true => exact ⟨M, _, e1, e2, rfl, upd_same, e10, by omega, e20, by omega, fun _ => ⟨by omega, by omega⟩, eS6, tu6, hp6.mono (by omega), kM⟩
        | false =>
          refine ⟨_, rfl, p, l, T + 3 + 12 * i + 2, rfl, hp6, by omega, fun g1 H7 g10 g11 hp7 k7 => ?_⟩
          refine ⟨_, rfl, p, l, T + 3 + 12 * i + 2 + 5, rfl, hp7, by omega, fun g2 H8 g20 g21 hp8 k8 => ?_⟩
          refine ⟨(by show 2 ≤ sizeLine; decide), fun M2 nM2 => ?_⟩
          have eS8 : H8 S = some (.lst (as.map V.ref)) := k8 _ _ nSp nSl (k7 _ _ nSp nSl eS6)
          refine ⟨M2, _, g1, g2, rfl, upd_same, g10, g11, g20, g21, (fun h => by cases h), ?_, ?_, hp8.new nM2, ((kM.trans k7).trans k8).new nM2⟩
          · rw [upd_ne (ne_of_none eS8 nM2)]
            exact eS8
          · exact (((tu6.mono (k7.tups hp6)).mono (k8.tups hp7)).mono (Tups.new nM2))
      · obtain ⟨M, x6, a1, a2, rfl, eM, a10, a11, a20, a21, asm, eS9, tu9, hp9, k9⟩ := hm
        refine ⟨_, rfl, _, _, rfl, rfl, _, rfl, M, _, 0, _, rfl, rfl, SqL.of eM, atI_nat (j := 0) rfl, _, _, rfl, rfl, ?_⟩
        refine ⟨_, rfl, .inl ⟨rfl, _, SqL.of eS9⟩, _, rfl, _, rfl, M, _, 1, _, rfl, rfl, SqL.of eM, atI_nat (j := 1) rfl, _, _, rfl, rfl, (by show 2 ≤ sizeLine; decide), fun t nt => ?_⟩
        have nSt : S ≠ t := ne_of_none eS9 nt
        have eS10 : upd H' t (.tup [.int (st + 1 + a1), .int (1 + a2)]) S = some (.lst (as.map V.ref)) := by
          rw [upd_ne nSt]
          exact eS9
        have lenas : as.length = i := by
          have := tu.1
          rw [List.length_map, hl] at this
          exact this
        refine ⟨S, _, 0, _, rfl, rfl, eS10, ?_, by decide, by decide, ?_⟩
        · rw [List.length_map]
          exact small1000 (by omega)
        have tu10 : TupsAt (upd H' t (.tup [.int (st + 1 + a1), .int (1 + a2)])) (t :: as) (((st + 1 + a1, 1 + a2) :: ps).map stepV) := (tu9.mono (Tups.new nt)).cons upd_same
        refine ⟨_, _, t :: as, (st + 1 + a1, 1 + a2) :: ps, st + 1 + a1, rfl, by simp [hl], upd_same, tu10.mono (Tups.ls eS10), ((hp9.new nt).other nSp nSl).mono (by omega), (k9.new nt).mine nSH, ?_, ?_, by omega, ?_, fun h => ⟨?_, ?_⟩⟩
        · refine List.Pairwise.cons (fun x hx => ?_) fa
          have := bo x hx
          show x.1 < st + 1 + a1
          omega
        · intro x hx
          rcases List.mem_cons.mp hx with rfl | hx
          · refine ⟨?_, ?_, ?_, ?_⟩
            · show 1 ≤ st + 1 + a1
              omega
            · exact Int.le_refl _
            · show 1 ≤ 1 + a2
              omega
            · show 1 + a2 ≤ 2 ^ 123
              omega
          · have := bo x hx
            omega
        · have : ((i + 1 : Nat) : Int) * 2 ^ 123 = (i : Int) * 2 ^ 123 + 2 ^ 123 := by
            rw [Int.natCast_add, Int.add_mul]
            simp
          rw [this]
          omega
        · intro x hx
          obtain ⟨s1, s2⟩ := sm h
          obtain ⟨s3, s4⟩ := asm h
          rcases List.mem_cons.mp hx with rfl | hx
          · show 1 + a2 ≤ 3
            omega
          · exact s1 x hx
        · obtain ⟨s1, s2⟩ := sm h
          obtain ⟨s3, s4⟩ := asm h
          omega
    · obtain ⟨x6, x7, as, ps, st, rfl, hl, eS, tu, hpi, ki, fa, bo, st0, st1, sm⟩ := hm
      refine ⟨_, rfl, p, l, T + 3 + 12 * n.toNat, 2, rfl, hpi, by omega, hq _ (by omega) (by omega), fun so H4 so0 so1 hp4 k4 => ?_⟩
      have eS4 : H4 S = some (.lst (as.map V.ref)) := k4 _ _ nSp nSl eS
      refine ⟨_, rfl, S, _, rfl, .inl ⟨SqL.of eS4, fun U nU => ?_⟩⟩
      refine ⟨(by show 2 ≤ sizeLine; decide), fun W nW => ?_⟩
      have nWU : U ≠ W := fun e => by
        rw [← e, upd_same] at nW
        cases nW
      have nW4 : H4 W = none := by
        rw [upd_ne nWU.symm] at nW
        exact nW
      have k5 : Keep p l H (upd (upd H4 U (.tup (as.map V.ref))) W (.tup [.int so, .ref U])) := ((ki.trans k4).new nU).new nW
      have tu4 : TupsAt (upd (upd H4 U (.tup (as.map V.ref))) W (.tup [.int so, .ref U])) as (ps.map stepV) := ((tu.mono (k4.tups hpi)).mono (Tups.new nU)).mono (Tups.new nW)
      have hb : (n.toNat : Int) = n := Int.toNat_of_nonneg (by omega)
      refine q _ W so ps (((hp4.new nU).new nW).mono (by omega)) k5 ⟨U, as, upd_same, ?_, tu4⟩ so0 (by omega) ⟨by omega, by omega, fun x hx => ?_⟩ (by omega) fa (fun h => ?_) ((ki.trans k4).free hp4 nW4)
      · rw [upd_ne nWU, upd_same]
      · have h1 := bo x hx
        have h3 : (n.toNat : Int) * 2 ^ 123 ≤ 10 * 2 ^ 123 := Int.mul_le_mul_of_nonneg_right (by omega) (by decide)
        omega
      · obtain ⟨s1, s2⟩ := sm h
        intro x hx
        have h1 := bo x hx
        exact ⟨by omega, s1 x hx⟩
theorem ok__law_same {f fO : Addr} {fd fdO : FuncData} (F : Fun K "_law_same" "_law_same" s__law_same f fd) (gs : mg "_law_same" = some (.ref f)) (bs : Binds K fd P__law_same []) (bi : Bi mg) (C__law_whole : Cal P w K mg base "_law_whole" P__law_whole 1 spWhole fO fdO) : ∀ n : Nat, FnOk P w K mg base CX0 (n + 1) f fd P__law_same (spSame K n)
  | 0 => ⟨fun vs H Q E h => by
      obtain ⟨x, y, d, rfl, _⟩ := h
      rfl, fun A outer s H args us vs Q E _ _ _ _ h => by
      obtain ⟨x, y, d, rfl, _, h0, _⟩ := h
      exact absurd h0 (Nat.not_lt_zero _)⟩
  | n + 1 => by
    have C__law_same : Cal P w K mg base "_law_same" P__law_same (n + 1) (spSame K n) f fd := ⟨ok__law_same F gs bs bi C__law_whole n, gs, F.kp, bs⟩
    refine F.ok sc__law_same (fun vs H Q E h => ?_) (fun cdv A outer s H vs Q E hr h => ?_)
    · obtain ⟨x, y, d, rfl, _⟩ := h
      rfl
    · obtain ⟨x, y, d, rfl, ti, hd, dx, dy, q⟩ := h
      have hu64 := hr.units
      refine ⟨_, (pss_cons (ps_if (pt_val (pe_callB call_isi (by rfl) bi.m_isinstance (by decide +kernel) (pa_cons (pv 1) (pa_cons (pe_bltn (v := .ty "tuple") (by rfl) bi.m_tuple (by decide +kernel) rfl) pa_nil))))
      (pss_cons (ps_if (pw_or (pt_not (pt_val (pe_callB call_isi (by rfl) bi.m_isinstance (by decide +kernel) (pa_cons (pv 0) (pa_cons (pe_bltn (v := .ty "tuple") (by rfl) bi.m_tuple (by decide +kernel) rfl) pa_nil))))) (pw_or1 (pt_cmpR op_ne (pe_callB call_len_seq (by rfl) bi.m_len (by decide +kernel) (pa_cons (pv 0) pa_nil)) (pe_callB call_len_seq (by rfl) bi.m_len (by decide +kernel) (pa_cons (pv 1) pa_nil)) (nomark _)))).pt
          (pss_one (ps_ret pe_bl))
          pss_nil)
        (pss_one (ps_ret (pe_callB (cr_all rfl) (by rfl) bi.m_all (by decide +kernel) (pa_cons (pe_lc (own := [("_law_one", 2), ("_law_other", 3)]) (g := (gTup K 2 (gCons (gName 2) (gCons (gName 3) gNil)))) (tt := tYes) rfl sc__law_same.nd (RZ.pi_zipA (by rfl) bi.m_zip (pa_cons (pv 0) (pa_cons (pv 1) pa_nil))) (blkOk_by (N := N__law_same) (sc := defScope s__law_same) (by decide +kernel)) (fun _ _ _ _ _ => (pg_tup rfl (pgs_cons (pg_name (i := 2) sc__law_same.nd rfl (.inl rfl) (.inr rfl)) (pgs_cons (pg_name (i := 3) sc__law_same.nd rfl (.inl rfl) (.inr rfl)) pgs_nil)))) (fun _ _ _ _ _ => pts_nil) (fun _ _ _ _ _ => (pe_call (C__law_same.G.mono (by omega)) hr (by rfl) C__law_same.g C__law_same.kp C__law_same.b .nil pass0 (pa_cons (pv 2) (pa_cons (pv 3) pa_nil))))) pa_nil)))))
      pss_nil)
    (pss_cons (ps_if (pt_val (pe_call (C__law_whole.G.mono (by omega)) hr (by rfl) C__law_whole.g C__law_whole.kp C__law_whole.b .nil pass0 (pa_cons (pv 1) pa_nil)))
      (pss_one (ps_ret (pe_and (pe_call (C__law_whole.G.mono (by omega)) hr (by rfl) C__law_whole.g C__law_whole.kp C__law_whole.b .nil pass0 (pa_cons (pv 0) pa_nil)) (pe_one (pe_cmpR (op_eqD hu64) (pv 0) (pv 1) (nomark _))))))
      pss_nil)
    (pss_cons (ps_if (pw_or (pt_cmpR op_isN (pv 1) pe_non (nomark _)) (pw_or1 (pt_val (pe_callB call_isi (by rfl) bi.m_isinstance (by decide +kernel) (pa_cons (pv 1) (pa_cons (pe_bltn (v := .ty "bool") (by rfl) bi.m_bool (by decide +kernel) rfl) pa_nil)))))).pt
      (pss_one (ps_ret (pe_and (pe_cmpR op_eq (pe_callB call_isi (by rfl) bi.m_isinstance (by decide +kernel) (pa_cons (pv 0) (pa_cons (pe_bltn (v := .ty "bool") (by rfl) bi.m_bool (by decide +kernel) rfl) pa_nil))) (pe_callB call_isi (by rfl) bi.m_isinstance (by decide +kernel) (pa_cons (pv 1) (pa_cons (pe_bltn (v := .ty "bool") (by rfl) bi.m_bool (by decide +kernel) rfl) pa_nil))) (nomark _)) (pe_one (pe_cmpR (op_eqD hu64) (pv 0) (pv 1) (nomark _))))))
      pss_nil)
    (pss_one (ps_ret (pe_and (pe_callB call_isi (by rfl) bi.m_isinstance (by decide +kernel) (pa_cons (pv 0) (pa_cons (pe_bltn (v := .ty "str") (by rfl) bi.m_str (by decide +kernel) rfl) pa_nil))) (pe_one (pe_cmpR (op_eqD hu64) (pv 0) (pv 1) (nomark _))))))))), ?_⟩
      cases ti with
      | int i =>
        cases dx
        cases dy
        refine ⟨_, rfl, _, _, _, _, false, rfl, ClsV.ty "tuple", .base (.int i), kit_ty (by decide +kernel), false, rfl, ?_⟩
        refine iteF ?_
        refine ⟨_, rfl, i, rfl, true, rfl, ?_⟩
        refine iteT ?_
        refine ⟨_, rfl, i, rfl, true, rfl, ?_⟩
        refine iteT ?_
        refine ⟨_, rfl, _, rfl, .int i, .int i, .int i, .int i, rfl, rfl, ?_⟩
        have e : PyData.eqv (.int i) (.int i) = true := by
          show (i == i) = true
          exact beq_self_eq_true i
        rw [e]
        exact q _ (Same.refl H)
      | @tup ds hds hl =>
        cases dx with
        | @tup a xs _ sa da =>
        cases dy with
        | @tup b ys _ sb db =>
        refine ⟨_, rfl, _, _, _, _, true, rfl, ClsV.ty "tuple", sqt_ty sb, kit_ty (by decide +kernel), true, rfl, ?_⟩
        refine iteT ?_
        refine ⟨_, rfl, _, _, _, _, true, rfl, ClsV.ty "tuple", sqt_ty sa, kit_ty (by decide +kernel), true, rfl, ?_⟩
        refine iteNT ?_
        refine ⟨_, rfl, a, _, rfl, .inr sa, _, rfl, b, _, rfl, .inr sb, rfl, _, rfl, ?_⟩
        have la := DpAll.len da
        have lb := DpAll.len db
        rw [show V.int (xs.length : Int) = V.int (ys.length : Int) by rw [la, lb]]
        refine iteNS rfl ?_
        refine ⟨_, rfl, _, rfl, a, b, xs, ys, rfl, .inr ⟨sa, sb, fun D nD => ?_⟩⟩
        refine lcZip (xs := xs) (ys := ys) (by omega) (fun i H' => Same H H' ∧ H' D = some (.lst ((List.replicate i true).map V.bl)) ∧ i ≤ xs.length) ⟨same_new (Same.refl H) nD, upd_same, Nat.zero_le _⟩ (fun i H' hm => ⟨Same.sqt hm.1 sa, Same.sqt hm.1 sb⟩) (fun i x y T H' hx hy nT hm => ?_) (fun H' hm => ?_)
        · obtain ⟨sm, eD, hi⟩ := hm
          have hix : i < xs.length := (List.getElem?_eq_some_iff.mp hx).1
          obtain ⟨d1, e1, p1⟩ := DpAll.at da hx
          obtain ⟨d2, e2, p2⟩ := DpAll.at db hy
          have ed : d1 = d2 := Option.some.inj (e1.symm.trans e2)
          subst ed
          have md := List.mem_of_getElem? e1
          have sT : Same H (upd H' T (.tup [x, y])) := same_new sm nT
          have eDT : upd H' T (.tup [x, y]) D = some (.lst ((List.replicate i true).map V.bl)) := by
            rw [upd_ne (ne_of_none eD nT)]
            exact eD
          have dd : d1.depth < n := by
            have h1 := depth_mem md
            have h2 : PyData.depthAll ds + 1 < n + 1 := hd
            omega
          refine ⟨T, _, rfl, SqT.of upd_same, rfl, _, _, rfl, _, _, rfl, rfl, rfl, yesIte ?_⟩
          refine ⟨_, rfl, _, rfl, x, y, d1, rfl, hds d1 md, dd, Dp.same sT d1 p1, Dp.same sT d1 p2, fun H2 s2 => ?_⟩
          refine ⟨_, s2 _ _ eDT, ?_, ?_, ?_, hix⟩
          · rw [List.length_map, List.length_replicate]
            exact small2000 (by omega)
          · exact same_mine (sT.trans s2) nD
          · rw [upd_same, List.replicate_succ', List.map_append]
            rfl
        · obtain ⟨sm, eD, _⟩ := hm
          refine ⟨D, _, rfl, SqL.of eD, ?_⟩
          rw [show (List.replicate xs.length true).all id = true by simp]
          exact q _ sm
theorem ok__law_strand {f fB fG fW fP : Addr} {fd fdB fdG fdW fdP : FuncData} (F : Fun K "_law_strand" "_law_strand" s__law_strand f fd) (bi : Bi mg) (C__law_draw : Cal P w K mg base "_law_draw" P__law_draw 2 spDraw fB fdB) (C__law_great : Cal P w K mg base "_law_great" P__law_great 3 spGreat fG fdG)
    (C__law_wisp : Cal P w K mg base "_law_wisp" P__law_wisp 4 spWispP fW fdW) (C__law_pick : Cal P w K mg base "_law_pick" P__law_pick 3 spPick fP fdP) : FnOk P w K mg base CX0 5 f fd P__law_strand spStrandP := by
  refine F.ok sc__law_strand (fun vs H Q E h => ?_) (fun cdv A outer s H vs Q E hr h => ?_)
  · obtain ⟨p, l, T, most, small, rfl, _⟩ := h
    rfl
  · obtain ⟨p, l, T, most, small, rfl, hp, hT, hmost, q⟩ := h
    refine ⟨_, (pss_cons (ps_set (i := 3) sc__law_strand.nd rfl (.inl rfl) (pe_ix ix_list (pe_lst (pa_cons (pe_call (C__law_draw.G.mono (by decide)) hr (by rfl) C__law_draw.g C__law_draw.kp C__law_draw.b .nil pass0 (pa_cons (pv 0) (pa_cons pe_int pa_nil))) (pa_cons (pe_call (C__law_draw.G.mono (by decide)) hr (by rfl) C__law_draw.g C__law_draw.kp C__law_draw.b .nil pass0 (pa_cons (pv 0) (pa_cons (pe_op op_add (pv 1) pe_int) pa_nil))) (pa_cons pe_int (pa_cons (pe_op op_add pe_int (pe_call (C__law_draw.G.mono (by decide)) hr (by rfl) C__law_draw.g C__law_draw.kp C__law_draw.b .nil pass0 (pa_cons (pv 0) (pa_cons pe_int pa_nil)))) pa_nil))))) (pe_call (C__law_draw.G.mono (by decide)) hr (by rfl) C__law_draw.g C__law_draw.kp C__law_draw.b .nil pass0 (pa_cons (pv 0) (pa_cons pe_int pa_nil))) (fun _ _ => rfl)))
    (pss_cons (ps_set (i := 4) sc__law_strand.nd rfl (.inl rfl) (pe_lst pa_nil))
    (pss_cons (ps_for PassesOwn.never rfl (pi_range1 rfl bi.m_range (pa_cons (pe_callB (call_min2 rfl) (by rfl) bi.m_min (by decide +kernel) (pa_cons (pv 3) (pa_cons (pv 1) pa_nil))) pa_nil)) (pg_name (i := 5) sc__law_strand.nd rfl (.inl rfl))
      (pss_cons (ps_set (i := 6) sc__law_strand.nd rfl (.inl rfl) (pe_call (C__law_wisp.G.mono (by decide)) hr (by rfl) C__law_wisp.g C__law_wisp.kp C__law_wisp.b .nil pass0 (pa_cons (pv 0) (pa_cons (pe_ix ix_list (pe_lst (pa_cons pe_int (pa_cons pe_int (pa_cons pe_int pa_nil)))) (pe_call (C__law_draw.G.mono (by decide)) hr (by rfl) C__law_draw.g C__law_draw.kp C__law_draw.b .nil pass0 (pa_cons (pv 0) (pa_cons pe_int pa_nil))) (fun _ _ => rfl)) (pa_cons (pv 2) pa_nil)))))
        (pss_cons (ps_par (i := 7) (j := 8) rfl sc__law_strand.nd rfl rfl (by decide) rfl rfl (pa_cons (pe_call (C__law_draw.G.mono (by decide)) hr (by rfl) C__law_draw.g C__law_draw.kp C__law_draw.b .nil pass0 (pa_cons (pv 0) (pa_cons pe_int pa_nil))) (pa_cons pe_non pa_nil)) rfl)
        (C8.pss_cut (ps_if (pt_not (pt_val (pv 2)))
          (pss_one (ps_set (i := 7) sc__law_strand.nd rfl (.inl rfl) (pe_op op_add (pv 7) (pe_op op_mul (pe_call (C__law_great.G.mono (by decide)) hr (by rfl) C__law_great.g C__law_great.kp C__law_great.b .nil pass0 (pa_cons (pv 0) pa_nil)) (pe_call (C__law_draw.G.mono (by decide)) hr (by rfl) C__law_draw.g C__law_draw.kp C__law_draw.b .nil pass0 (pa_cons (pv 0) (pa_cons pe_int pa_nil)))))))
          pss_nil)
        (C8.pss_cut (ps_if (pt_cmpR op_eq (pe_call (C__law_draw.G.mono (by decide)) hr (by rfl) C__law_draw.g C__law_draw.kp C__law_draw.b .nil pass0 (pa_cons (pv 0) (pa_cons pe_int pa_nil))) pe_int (nomark _))
          (pss_cons (ps_set (i := 9) sc__law_strand.nd rfl (.inl rfl) (pe_lst (pa_cons (pe_call (C__law_draw.G.mono (by decide)) hr (by rfl) C__law_draw.g C__law_draw.kp C__law_draw.b .nil pass0 (pa_cons (pv 0) (pa_cons pe_int pa_nil))) (pa_cons (pe_call (C__law_draw.G.mono (by decide)) hr (by rfl) C__law_draw.g C__law_draw.kp C__law_draw.b .nil pass0 (pa_cons (pv 0) (pa_cons pe_int pa_nil))) (pa_cons (pe_call (C__law_great.G.mono (by decide)) hr (by rfl) C__law_great.g C__law_great.kp C__law_great.b .nil pass0 (pa_cons (pv 0) pa_nil)) pa_nil)))))
            (pss_one (ps_set (i := 8) sc__law_strand.nd rfl (.inl rfl) (pe_op op_add (pe_op op_add (pv 7) pe_int) (pe_ix ix_list (pv 9) (pe_call (C__law_draw.G.mono (by decide)) hr (by rfl) C__law_draw.g C__law_draw.kp C__law_draw.b .nil pass0 (pa_cons (pv 0) (pa_cons (pe_op op_sub pe_int (pe_callTy call_int1 (by rfl) bi.m_int (by decide +kernel) (pa_cons (pv 2) pa_nil))) pa_nil))) (fun _ _ => rfl))))))
          pss_nil)
        (pss_cons (ps_expr (pe_bm PySem.F.plainAttrs_list PySem.F.slot_list_append PySem.F.type_list_append mt_append (pv 4) (pa_cons (pe_tup (pa_cons (pv 6) (pa_cons (pv 7) (pa_cons (pv 8) pa_nil)))) pa_nil)))
        (pss_one (ps_if (pw_and (pt_cmpR op_eq (pe_call (C__law_draw.G.mono (by decide)) hr (by rfl) C__law_draw.g C__law_draw.kp C__law_draw.b .nil pass0 (pa_cons (pv 0) (pa_cons pe_int pa_nil))) pe_int (nomark _)) (pw_and1 (pt_cmpR op_lt (pe_callB call_len_seq (by rfl) bi.m_len (by decide +kernel) (pa_cons (pv 4) pa_nil)) (pv 1) (nomark _)))).pt
          (pss_one (ps_expr (pe_bm PySem.F.plainAttrs_list PySem.F.slot_list_append PySem.F.type_list_append mt_append (pv 4) (pa_cons (pe_call (C__law_pick.G.mono (by decide)) hr (by rfl) C__law_pick.g C__law_pick.kp C__law_pick.b .nil pass0 (pa_cons (pv 0) (pa_cons (pv 4) pa_nil))) pa_nil))))
          pss_nil))))))))
    (pss_one (ps_ret (pe_callTy call_tuple_of (by rfl) bi.m_tuple (by decide +kernel) (pa_cons (pe_slice sl_list (pv 4) po_none (po_some (pv 1))) pa_nil))))))), ?_⟩
    have hq : ∀ b : Int, 0 < b → b ≤ 1000 → CDivW 0 b := fun b h0 h1 => wide_div (b := 10) h0 (by omega) (by decide) (by decide)
    refine ⟨_, rfl, p, l, T, 5, rfl, hp, by omega, hq _ (by omega) (by omega), fun d1 H1 d10 d11 hp1 k1 => ?_⟩
    refine ⟨_, rfl, _, rfl, _, _, rfl, rfl, p, l, T + 1, most + 1, rfl, hp1, by omega, hq _ (by omega) (by omega), fun d2 H2 d20 d21 hp2 k2 => ?_⟩
    refine ⟨_, rfl, p, l, T + 1 + 1, 3, rfl, hp2, by omega, hq _ (by omega) (by omega), fun d3 H3 d30 d31 hp3 k3 => ?_⟩
    refine ⟨_, _, rfl, rfl, (by show 4 ≤ sizeLine; decide), fun z nz => ?_⟩
    refine ⟨_, rfl, p, l, T + 1 + 1 + 1, 4, rfl, hp3.new nz, by omega, hq _ (by omega) (by omega), fun d4 H4 d40 d41 hp4 k4 => ?_⟩
    have k04 : Keep p l H H4 := ((((k1.trans k2).trans k3)).new nz).trans k4
    obtain ⟨nz1, nz2⟩ := hp3.fresh nz
    have ez : H4 z = some (.lst [.int d1, .int d2, .int 2, .int (1 + d3)]) := k4 z _ nz1 nz2 upd_same
    have ix : ∃ b : Int, 0 ≤ b ∧ b ≤ 60 ∧ atI [V.int d1, V.int d2, V.int 2, V.int (1 + d3)] d4 = some (.int b) := by
      have hw : d4 = 0 ∨ d4 = 1 ∨ d4 = 2 ∨ d4 = 3 := by omega
      rcases hw with rfl | rfl | rfl | rfl
      · exact ⟨d1, by omega, by omega, rfl⟩
      · exact ⟨d2, by omega, by omega, rfl⟩
      · exact ⟨2, by omega, by omega, rfl⟩
      · exact ⟨1 + d3, by omega, by omega, rfl⟩
    obtain ⟨b, b1, b2, eb⟩ := ix
    refine ⟨z, _, d4, _, rfl, rfl, SqL.of ez, eb, ?_⟩
    refine ⟨Nat.zero_le _, fun S nS => ?_⟩
    have nSH : H S = none := k04.free hp4 nS
    obtain ⟨nSp, nSl⟩ := hp4.fresh nS
    obtain ⟨n, hmin, n1, n2⟩ : ∃ n, (if most < b then most else b) = n ∧ 0 ≤ n ∧ n ≤ 60 := ⟨_, rfl, by split <;> omega, by split <;> omega⟩
    refine ⟨_, rfl, _, rfl, _, _, rfl, (if most < b then most else b), rfl, by omega, by omega, ?_⟩
    rw [hmin]
    refine for_range (n := n.toNat) (fun i σ' H' => ∃ (x5 x6 x7 x8 x9 : Option V) (as : List Addr) (Ls : List Lw), σ' = [some (.ref p), some (.int most), some (.bl small), some (.int b), some (.ref S), x5, x6, x7, x8, x9] ∧ Sf p l S as Ls H H' (T + 4 + 200 * i) ∧ Ls.length ≤ 2 * i ∧ ∀ L ∈ Ls, GoodE (2 ^ 126) L)
      ⟨_, _, _, _, _, [], [], rfl, ⟨upd_same, LaidsAt.nil, hp4.new nS, k04.new nS⟩, Nat.le_refl _, fun L hL => by cases hL⟩ (fun i σ' H' hi hm => ?_) (fun σ' H' hm => ?_)
    · obtain ⟨x5, x6, x7, x8, x9, as, Ls, rfl, sf, hll, hg⟩ := hm
      have hi60 : i < 60 := by omega
      refine ⟨_, rfl, (by show 3 ≤ sizeLine; decide), fun Z nZ => ?_⟩
      have sfZ := sf.new (o := .lst [.int 8, .int 3, .int 2]) nZ
      obtain ⟨nZp, nZl⟩ := sf.2.2.1.fresh nZ
      refine ⟨_, rfl, p, l, T + 4 + 200 * i, 3, rfl, sfZ.2.2.1, by omega, hq _ (by omega) (by omega), fun e1 H5 e10 e11 hp5 k5 => ?_⟩
      have sf5 := sfZ.keep nSp nSl k5 hp5
      have eZ : H5 Z = some (.lst [.int 8, .int 3, .int 2]) := k5 _ _ nZp nZl upd_same
      obtain ⟨sz, z1, z2, esz⟩ : ∃ b : Int, 2 ≤ b ∧ b ≤ 8 ∧ atI [V.int 8, V.int 3, V.int 2] e1 = some (.int b) := by
        have hw : e1 = 0 ∨ e1 = 1 ∨ e1 = 2 := by omega
        rcases hw with rfl | rfl | rfl
        · exact ⟨8, by omega, by omega, rfl⟩
        · exact ⟨3, by omega, by omega, rfl⟩
        · exact ⟨2, by omega, by omega, rfl⟩
      refine ⟨Z, _, e1, _, rfl, rfl, SqL.of eZ, esz, ?_⟩
      refine ⟨_, rfl, p, l, T + 4 + 200 * i + 1, _, small, rfl, hp5, by omega, by omega, by omega, fun H6 wr so ps hp6 k6 hw6 so0 so1 gp _ faW _ nwr => ?_⟩
      have sf6 := sf5.keep nSp nSl k6 hp6
      -- at, let
      refine ⟨_, rfl, p, l, T + 4 + 200 * i + 1 + 150, 9, rfl, hp6, by omega, hq _ (by omega) (by omega), fun at0 H7 a00 a01 hp7 k7 => ⟨_, _, rfl, ?_⟩⟩
      have sf7 := sf6.keep nSp nSl k7 hp7
      have hw7 := hw6.keep k7 hp6
      refine ⟨fun σ' H8 => ∃ (x5 : Option V) (at1 : Int), σ' = [some (.ref p), some (.int most), some (.bl small), some (.int b), some (.ref S), x5, some (.ref wr), some (.int at1), some .non, x9] ∧ 0 ≤ at1 ∧ at1 < 2 ^ 124 ∧ Sf p l S as Ls H H8 (T + 4 + 200 * i + 160) ∧ WispAt H8 wr so ps, ?_, fun σ' H8 hm => ?_⟩
      · refine ⟨_, rfl, small, rfl, ?_⟩
        cases small with
        | true => exact ⟨_, at0, rfl, a00, by omega, sf7.up (by omega), hw7⟩
        | false =>
          refine ⟨_, rfl, _, rfl, p, l, T + 4 + 200 * i + 1 + 150 + 1, rfl, hp7, by omega, fun gr H8 gr0 gr1 hp8 k8 => ?_⟩
          refine ⟨_, rfl, p, l, T + 4 + 200 * i + 1 + 150 + 1 + 5, 2, rfl, hp8, by omega, hq _ (by omega) (by omega), fun d H9 d0 d1 hp9 k9 => ?_⟩
          have hd : d = 0 ∨ d = 1 := by omega
          have hb : 0 ≤ gr * d ∧ gr * d < 2 ^ 122 := by
            rcases hd with rfl | rfl
            · rw [Int.mul_zero]
              exact ⟨by decide, by decide⟩
            · rw [Int.mul_one]
              exact ⟨gr0, gr1⟩
          refine ⟨_, _, rfl, rfl, .inr ⟨by omega, by omega⟩, _, _, rfl, rfl, ?_⟩
          refine ⟨_, at0 + gr * d, rfl, ?_, ?_, ((sf7.keep nSp nSl k8 hp8).keep nSp nSl k9 hp9).up (by omega), (hw7.keep k8 hp7).keep k9 hp8⟩
          · omega
          · have : (2 : Int) ^ 122 + 9 < 2 ^ 124 := by decide
            omega
      obtain ⟨x5, at1, rfl, at0', at1', sf8, hw8⟩ := hm
      have hp8 := sf8.2.2.1
      -- let
      refine ⟨fun σ' H9 => ∃ (x5 x9 : Option V) (le : Option Int), σ' = [some (.ref p), some (.int most), some (.bl small), some (.int b), some (.ref S), x5, some (.ref wr), some (.int at1), some (letV le), x9] ∧ (∀ n, le = some n → at1 < n ∧ n < 2 ^ 126) ∧ Sf p l S as Ls H H9 (T + 4 + 200 * i + 180) ∧ WispAt H9 wr so ps, ?_, fun σ' H9 hm => ?_⟩
      · refine ⟨_, rfl, p, l, T + 4 + 200 * i + 160, 3, rfl, hp8, by omega, hq _ (by omega) (by omega), fun d H9 d0 d1 hp9 k9 => ?_⟩
        have sf9 := sf8.keep nSp nSl k9 hp9
        have hw9 := hw8.keep k9 hp8
        refine ⟨rfl, _, rfl, ite2 (fun e => ?_) (fun e => ?_)⟩
        · refine ⟨_, rfl, p, l, T + 4 + 200 * i + 160 + 1, 6, rfl, hp9, by omega, hq _ (by omega) (by omega), fun f1 H10 f10 f11 hp10 k10 => ?_⟩
          refine ⟨_, rfl, p, l, T + 4 + 200 * i + 160 + 1 + 1, 30, rfl, hp10, by omega, hq _ (by omega) (by omega), fun f2 H11 f20 f21 hp11 k11 => ?_⟩
          refine ⟨_, rfl, p, l, T + 4 + 200 * i + 160 + 1 + 1 + 1, rfl, hp11, by omega, fun f3 H12 f30 f31 hp12 k12 => ?_⟩
          refine ⟨(by show 3 ≤ sizeLine; decide), fun M nM => ?_⟩
          have sf12 := (((sf9.keep nSp nSl k10 hp10).keep nSp nSl k11 hp11).keep nSp nSl k12 hp12).new (o := .lst [.int f1, .int f2, .int f3]) nM
          have hw12 := (((hw9.keep k10 hp9).keep k11 hp10).keep k12 hp11).mono (Tups.new (o := .lst [.int f1, .int f2, .int f3]) nM)
          obtain ⟨nMp, nMl⟩ := hp12.fresh nM
          refine ⟨_, rfl, _, _, rfl, rfl, _, rfl, _, rfl, _, rfl, .inr ⟨_, rfl, ?_⟩⟩
          refine ⟨_, _, rfl, rfl, p, l, T + 4 + 200 * i + 160 + 1 + 1 + 1 + 5, (3 - if small = true then 1 else 0), rfl, sf12.2.2.1, by omega, hq _ (by split <;> omega) (by split <;> omega), fun d5 H13 d50 d51 hp13 k13 => ?_⟩
          have hd5 : d5 < 3 := by
            split at d51 <;> omega
          have eM : H13 M = some (.lst [.int f1, .int f2, .int f3]) := k13 _ _ nMp nMl upd_same
          obtain ⟨v, v1, v2, ev⟩ : ∃ v : Int, 0 ≤ v ∧ v < 2 ^ 122 ∧ atI [V.int f1, V.int f2, V.int f3] d5 = some (.int v) := by
            have hw : d5 = 0 ∨ d5 = 1 ∨ d5 = 2 := by omega
            rcases hw with rfl | rfl | rfl
            · exact ⟨f1, by omega, by omega, rfl⟩
            · exact ⟨f2, by omega, by omega, rfl⟩
            · exact ⟨f3, by omega, by omega, rfl⟩
          refine ⟨M, _, d5, _, rfl, rfl, SqL.of eM, ev, _, _, rfl, rfl, ?_⟩
          refine ⟨_, _, some (at1 + 1 + v), rfl, fun n hn => ?_, (sf12.keep nSp nSl k13 hp13).up (by omega), hw12.keep k13 sf12.2.2.1⟩
          have hn : at1 + 1 + v = n := Option.some.inj hn
          have h3 : (2 : Int) ^ 124 + 1 + 2 ^ 122 < 2 ^ 206 := by decide
          omega
        · exact ⟨_, _, none, rfl, (fun n hn => by cases hn), sf9.up (by omega), hw9⟩
      obtain ⟨x5, x9, le, rfl, hle, sf9, hw9⟩ := hm
      -- found.append
      refine ⟨_, rfl, .inl ⟨rfl, _, SqL.of sf9.1⟩, _, rfl, _, rfl, _, rfl, (by show 3 ≤ sizeLine; decide), fun t nt => ?_⟩
      have sft := sf9.new (o := .tup [.ref wr, .int at1, letV le]) nt
      have lat : LaidAt (upd H9 t (.tup [.ref wr, .int at1, letV le])) t ⟨so, ps, at1, le⟩ := ⟨wr, upd_same, hw9.mono (Tups.new nt)⟩
      have hal : as.length = Ls.length := sf9.2.1.1
      refine ⟨S, _, _, rfl, rfl, sft.1, ?_, ?_⟩
      · rw [List.length_map]
        exact small1000 (by omega)
      have sfA : Sf p l S (as ++ [t]) (Ls ++ [⟨so, ps, at1, le⟩]) H (upd (upd H9 t (.tup [.ref wr, .int at1, letV le])) S (.lst (as.map V.ref ++ [.ref t]))) (T + 4 + 200 * i + 180) :=
        ⟨by rw [upd_same, List.map_append]; rfl, (sft.2.1.snoc lat).mono (Tups.ls sft.1), sft.2.2.1.other nSp nSl, sft.2.2.2.mine nSH⟩
      have hgA : ∀ L ∈ Ls ++ [⟨so, ps, at1, le⟩], GoodE (2 ^ 126) L := fun L hL => by
        rcases List.mem_append.mp hL with h | h
        · exact hg L h
        · simp only [List.mem_cons, List.not_mem_nil, or_false] at h
          subst h
          exact ⟨gp, so0, so1, at0', Int.lt_trans at1' (by decide), faW, hle⟩
      have hlA : (Ls ++ [(⟨so, ps, at1, le⟩ : Lw)]).length ≤ 2 * i + 1 := by
        rw [List.length_append]
        show Ls.length + 1 ≤ _
        omega
      have hneA : 1 ≤ (as ++ [t]).length := by
        rw [List.length_append]
        show 1 ≤ as.length + 1
        omega
      generalize as ++ [t] = as2 at sfA hneA
      generalize Ls ++ [(⟨so, ps, at1, le⟩ : Lw)] = Ls2 at sfA hgA hlA
      have hpA := sfA.2.2.1
      have halA := sfA.2.1.1
      refine ⟨_, rfl, p, l, T + 4 + 200 * i + 180, 6, rfl, hpA, by omega, hq _ (by omega) (by omega), fun d H10 d0 d1 hp10 k10 => ?_⟩
      have sf10 := sfA.keep nSp nSl k10 hp10
      refine ⟨rfl, _, rfl, ite2 (fun e => ?_) (fun e => ?_)⟩
      · refine ⟨_, rfl, S, _, rfl, .inl (SqL.of sf10.1), _, rfl, _, _, rfl, rfl, _, rfl, ite2 (fun e2 => ?_) (fun e2 => ?_)⟩
        · refine ⟨_, rfl, .inl ⟨rfl, _, SqL.of sf10.1⟩, _, rfl, _, rfl, p, l, T + 4 + 200 * i + 180 + 1, S, _, rfl, hp10, by omega, sf10.1, nSp, nSl, by rw [List.length_map]; exact hneA, by rw [List.length_map]; omega, fun H11 j x hx hp11 k11 => ?_⟩
          have sf11 := sf10.keep nSp nSl k11 hp11
          obtain ⟨aj, Lj, rfl, _, eLj, hLj⟩ := laid_get sf11.2.1 hx
          refine ⟨S, _, _, rfl, rfl, sf11.1, ?_, ?_⟩
          · rw [List.length_map]
            exact small1000 (by omega)
          refine ⟨_, _, _, _, _, as2 ++ [aj], Ls2 ++ [Lj], rfl, ⟨by rw [upd_same, List.map_append]; rfl, (sf11.2.1.snoc hLj).mono (Tups.ls sf11.1), (sf11.2.2.1.other nSp nSl).mono (by omega), sf11.2.2.2.mine nSH⟩, ?_, fun L hL => ?_⟩
          · rw [List.length_append]
            show Ls2.length + 1 ≤ _
            omega
          · rcases List.mem_append.mp hL with h | h
            · exact hgA L h
            · simp only [List.mem_cons, List.not_mem_nil, or_false] at h
              rw [h]
              exact hgA Lj (List.mem_of_getElem? eLj)
        · exact ⟨_, _, _, _, _, as2, Ls2, rfl, sf10.up (by omega), by omega, hgA⟩
      · refine iteF ?_
        exact ⟨_, _, _, _, _, as2, Ls2, rfl, sf10.up (by omega), by omega, hgA⟩
    · obtain ⟨x5, x6, x7, x8, x9, as, Ls, rfl, sf, hll, hg⟩ := hm
      refine ⟨_, rfl, _, rfl, _, rfl, S, _, rfl, SqL.of sf.1, fun C nC => ?_⟩
      have hmn : most = (most.toNat : Int) := by omega
      refine ⟨C, _, rfl, .inl ⟨SqL.of upd_same, fun U nU => ?_⟩⟩
      have e1 : cutV (as.map V.ref) none (some most) = (as.take most.toNat).map V.ref := by
        rw [hmn, cut_take, ← List.map_take]
        rfl
      refine q _ U (Ls.take most.toNat) (((sf.2.2.1.new nC).new nU).mono (by omega)) ((sf.2.2.2.new nC).new nU) ⟨as.take most.toNat, ?_, ((sf.2.1.take _).mono (Tups.new nC)).mono (Tups.new nU)⟩ ?_ (fun L hL => hg L (List.mem_of_mem_take hL))
      · rw [upd_same, e1]
      · rw [List.length_take]
        omega
theorem ok__law_parts {f : Addr} {fd : FuncData} {k : Nat} (F : Fun K "_law_parts" "_law_parts" s__law_parts f fd) (bi : Bi mg) : FnOk P w K mg base CX0 (k + 1) f fd P__law_parts spLawPartsF := by
  refine F.ok sc__law_parts (fun vs H Q E h => ?_) (fun cdv A outer s H vs Q E hr h => ?_)
  · obtain ⟨a, Ls, rfl, _⟩ := h
    rfl
  · obtain ⟨a, Ls, rfl, ⟨as, ea, la⟩, hl, hg, q⟩ := h
    refine ⟨_, (pss_cons (ps_set (i := 1) sc__law_parts.nd rfl (.inl rfl) (pe_lst pa_nil))
    (pss_cons (ps_for PassesOwn.never rfl (pi_tup (pv 0)) (pg_tup rfl (pgs_cons (pg_name (i := 2) sc__law_parts.nd rfl (.inl rfl)) (pgs_cons (pg_name (i := 3) sc__law_parts.nd rfl (.inl rfl)) (pgs_cons (pg_name (i := 4) sc__law_parts.nd rfl (.inl rfl)) pgs_nil))))
      (pss_cons (ps_par (i := 5) (j := 6) rfl sc__law_parts.nd rfl rfl (by decide) rfl rfl (pa_cons (pe_lst pa_nil) (pa_cons (pv 3) pa_nil)) rfl)
        (pss_cons (ps_for PassesOwn.never rfl (pi_tup (pe_ix ix_tup (pv 2) pe_int (fun _ _ => rfl))) (pg_tup rfl (pgs_cons (pg_name (i := 7) sc__law_parts.nd rfl (.inl rfl)) (pgs_cons (pg_name (i := 8) sc__law_parts.nd rfl (.inl rfl)) pgs_nil)))
          (C8.pss_cut (ps_set (i := 9) sc__law_parts.nd rfl (.inl rfl) (pe_ifExp (pt_cmpR op_isN (pv 4) pe_non (nomark _)) (pe_op op_add (pv 6) (pv 8)) (pe_callB (call_min2 rfl) (by rfl) bi.m_min (by decide +kernel) (pa_cons (pe_op op_add (pv 6) (pv 8)) (pa_cons (pv 4) pa_nil)))))
            (C8.pss_cut (ps_if (pt_cmpR op_gt (pv 9) (pv 6) (nomark _))
              (pss_one (ps_expr (pe_bm PySem.F.plainAttrs_list PySem.F.slot_list_append PySem.F.type_list_append mt_append (pv 5) (pa_cons (pe_tup (pa_cons (pv 6) (pa_cons (pv 9) (pa_cons (pv 7) pa_nil)))) pa_nil))))
              pss_nil)
            (pss_one (ps_set (i := 6) sc__law_parts.nd rfl (.inl rfl) (pe_op op_add (pv 6) (pv 8)))))))
        (pss_one (ps_expr (pe_bm PySem.F.plainAttrs_list PySem.F.slot_list_append PySem.F.type_list_append mt_append (pv 1) (pa_cons (pv 5) pa_nil)))))))
    (pss_one (ps_ret (pv 1))))), ?_⟩
    refine ⟨Nat.zero_le _, fun o no => ?_⟩
    have ea' : upd H o (.lst []) a = some (.tup (as.map V.ref)) := same_new (Same.refl H) no _ _ ea
    refine ⟨_, rfl, a, rfl, ⟨_, SqT.of ea'⟩, for_tup (xs := as.map V.ref) (fun i σ' H' => ∃ (x2 x3 x4 x5 x6 x7 x8 x9 : Option V) (bs : List Addr), σ' = [some (.ref a), some (.ref o), x2, x3, x4, x5, x6, x7, x8, x9] ∧ Same H H' ∧ H' o = some (.lst (bs.map V.ref)) ∧ (∀ b ∈ bs, b ≠ o ∧ H b = none) ∧ LPartsAt H' bs (Ls.take i)) ⟨_, _, _, _, _, _, _, _, [], rfl, same_new (Same.refl H) no, upd_same, (fun b hb => by cases hb), LPartsAt.nil⟩ (fun i σ' H' hi hm => ?_) (fun i x σ' H' hx hm => ?_) (fun σ' H' hm => ?_)⟩
    · obtain ⟨x2, x3, x4, x5, x6, x7, x8, x9, bs, rfl, sm, _⟩ := hm
      exact SqT.of (sm _ _ ea)
    · obtain ⟨x2, x3, x4, x5, x6, x7, x8, x9, bs, rfl, sm, eo, hbo, lp⟩ := hm
      obtain ⟨b, L, rfl, _, eL, hb⟩ := laid_get la hx
      have gL := hg L (List.mem_of_getElem? eL)
      have h10 := gL.1.2.1
      obtain ⟨wa, eb, st, cs0, ew, es, tu⟩ := LaidAt.same sm hb
      have hlen : cs0.length = L.ps.length := by
        have := tu.1
        rw [List.length_map] at this
        exact this
      have hi60 : i < 60 := by
        have h1 := (List.getElem?_eq_some_iff.mp eL).1
        omega
      have hbl : bs.length ≤ i := by
        have := lp.1
        rw [List.length_take] at this
        omega
      refine ⟨b, _, rfl, SqT.of eb, rfl, _, _, rfl, _, _, rfl, _, _, rfl, rfl, ?_⟩
      refine ⟨Nat.zero_le _, fun M nM => ⟨_, rfl, _, _, rfl, ?_⟩⟩
      have s0 : Same H' (upd H' M (.lst [])) := same_new (Same.refl H') nM
      have nMo : o ≠ M := ne_of_none eo nM
      refine ⟨_, rfl, wa, _, 1, _, rfl, rfl, SqT.of (s0 _ _ ew), atI_nat (j := 1) rfl, st, rfl, ⟨_, SqT.of (s0 _ _ es)⟩, for_tup (xs := cs0.map V.ref) (fun j σ' H2 => ∃ (x7 x8 x9 : Option V) (pl : Int) (cs : List Addr) (qs : List (Int × Int × Int)), σ' = [some (.ref a), some (.ref o), some (.ref wa), some (.int L.pl), some (letV L.le), some (.ref M), some (.int pl), x7, x8, x9] ∧ Same H' H2 ∧ H2 M = some (.lst (cs.map V.ref)) ∧ TupsAt H2 cs (qs.map rowV) ∧ qs.length ≤ j ∧ qs ++ lawParts L.le (L.ps.drop j) pl = lawParts L.le L.ps L.pl) ⟨_, _, _, L.pl, [], [], rfl, s0, upd_same, TupsAt.nil, Nat.le_refl _, rfl⟩ (fun j σ' H2 hj hm => ?_) (fun j x σ' H2 hx hm => ?_) (fun σ' H2 hm => ?_)⟩
      · obtain ⟨x7, x8, x9, pl, cs, qs, rfl, s2, _⟩ := hm
        exact SqT.of (s2 _ _ es)
      · obtain ⟨x7, x8, x9, pl, cs, qs, rfl, s2, eM, tb, hq, et⟩ := hm
        obtain ⟨c, t, g, rfl, ep, ec⟩ := step_get tu hx
        have hd : L.ps.drop j = (t, g) :: L.ps.drop (j + 1) := by
          obtain ⟨hi, e⟩ := List.getElem?_eq_some_iff.mp ep
          rw [List.drop_eq_getElem_cons hi, e]
        rw [hd] at et
        have et : qs ++ ((if pl < clip L.le (pl + g) then [(pl, clip L.le (pl + g), t)] else []) ++ lawParts L.le (L.ps.drop (j + 1)) (pl + g)) = lawParts L.le L.ps L.pl := et
        have hjps : j < L.ps.length := (List.getElem?_eq_some_iff.mp ep).1
        refine ⟨c, _, rfl, SqT.of (s2 _ _ ec), rfl, _, _, rfl, _, _, rfl, rfl, ?_⟩
        refine ⟨fun σ' H3 => σ' = [some (.ref a), some (.ref o), some (.ref wa), some (.int L.pl), some (letV L.le), some (.ref M), some (.int pl), some (.int t), some (.int g), some (.int (clip L.le (pl + g)))] ∧ H3 = H2, ?_, fun σ' H3 hm => ?_⟩
        · refine ⟨_, rfl, rfl, _, rfl, ?_⟩
          cases hle : L.le with
          | none => exact iteEqT (by decide) ⟨_, rfl, _, rfl, _, _, rfl, rfl, rfl, rfl⟩
          | some n => exact iteEqF (letV_some' n) ⟨_, rfl, _, rfl, _, _, rfl, rfl, _, rfl, _, _, rfl, rfl, rfl⟩
        obtain ⟨rfl, rfl⟩ := hm
        refine ⟨fun σ' H4 => ∃ (cs : List Addr) (qs : List (Int × Int × Int)), σ' = [some (.ref a), some (.ref o), some (.ref wa), some (.int L.pl), some (letV L.le), some (.ref M), some (.int pl), some (.int t), some (.int g), some (.int (clip L.le (pl + g)))] ∧ Same H' H4 ∧ H4 M = some (.lst (cs.map V.ref)) ∧ TupsAt H4 cs (qs.map rowV) ∧ qs.length ≤ j + 1 ∧ qs ++ lawParts L.le (L.ps.drop (j + 1)) (pl + g) = lawParts L.le L.ps L.pl, ?_, fun σ' H4 hm => ?_⟩
        · refine ⟨_, rfl, _, rfl, _, _, rfl, rfl, _, rfl, ite2 (fun e => ?_) (fun e => ?_)⟩
          · refine ⟨_, rfl, .inl ⟨rfl, _, SqL.of eM⟩, _, rfl, _, rfl, _, rfl, (by show 3 ≤ sizeLine; decide), fun z nz => ?_⟩
            have eM' : upd H3 z (.tup [.int pl, .int (clip L.le (pl + g)), .int t]) M = some (.lst (cs.map V.ref)) := by
              rw [upd_ne (ne_of_none eM nz)]
              exact eM
            refine ⟨M, _, _, rfl, rfl, eM', ?_, ?_⟩
            · have := tb.1
              rw [List.length_map] at this
              rw [List.length_map]
              exact small1000 (by omega)
            refine ⟨cs ++ [z], qs ++ [(pl, clip L.le (pl + g), t)], rfl, same_mine (same_new s2 nz) nM, ?_, ?_, ?_, ?_⟩
            · rw [upd_same, List.map_append]
              rfl
            · rw [List.map_append]
              exact ((tb.mono (Tups.new nz)).snoc upd_same).mono (Tups.ls eM')
            · rw [List.length_append]
              show qs.length + 1 ≤ j + 1
              omega
            · rw [if_pos (of_decide_eq_true e)] at et
              rw [← et, List.append_assoc]
          · rw [if_neg (fun z => e (decide_eq_true z)), List.nil_append] at et
            exact ⟨cs, qs, rfl, s2, eM, tb, by omega, et⟩
        · obtain ⟨cs, qs, rfl, s2, eM, tb, hq, et⟩ := hm
          exact ⟨_, rfl, _, rfl, _, _, rfl, rfl, _, _, _, _, cs, qs, rfl, s2, eM, tb, hq, et⟩
      · obtain ⟨x7, x8, x9, pl, cs, qs, rfl, s2, eM, tb, hq, et⟩ := hm
        rw [List.length_map, hlen, List.drop_length] at et
        have et : qs ++ [] = lawParts L.le L.ps L.pl := et
        rw [List.append_nil] at et
        subst et
        have eo2 := s2 _ _ eo
        refine ⟨_, rfl, .inl ⟨rfl, _, SqL.of eo2⟩, _, rfl, o, _, _, rfl, rfl, eo2, ?_, ?_⟩
        · rw [List.length_map]
          exact small1000 (by omega)
        refine ⟨_, _, _, _, _, _, _, _, bs ++ [M], rfl, same_mine (sm.trans s2) no, ?_, ?_, ?_⟩
        · rw [upd_same, List.map_append]
          rfl
        · intro b' hb'
          rcases List.mem_append.mp hb' with h | h
          · exact hbo b' h
          · simp only [List.mem_cons, List.not_mem_nil, or_false] at h
            rw [h]
            exact ⟨nMo.symm, sm.free nM⟩
        · have e1 : Ls.take (i + 1) = Ls.take i ++ [L] := by
            rw [List.take_add_one, eL]
            rfl
          rw [e1]
          refine ((LPartsAt.same s2 lp).other (fun b hb => (hbo b hb).1) eo2).snoc ⟨cs, ?_, tb.mono (Tups.ls eo2)⟩
          rw [upd_ne nMo.symm]
          exact eM
    · obtain ⟨x2, x3, x4, x5, x6, x7, x8, x9, bs, rfl, sm, eo, hbo, lp⟩ := hm
      rw [List.length_map, la.1, List.take_length] at lp
      exact ⟨_, rfl, q _ o bs sm no eo (fun b hb => (hbo b hb).2) lp⟩
theorem ok__law_model {f fP : Addr} {fd fdP : FuncData} (F : Fun K "_law_model" "_law_model" s__law_model f fd) (bi : Bi mg) (C__law_parts : Cal P w K mg base "_law_parts" P__law_parts 1 spLawPartsF fP fdP) : FnOk P w K mg base CX0 2 f fd P__law_model spModel := by
  refine F.ok sc__law_model (fun vs H Q E h => ?_) (fun cdv A outer s H vs Q E hr h => ?_)
  · obtain ⟨X, a, Ls, rfl, _⟩ := h
    rfl
  · obtain ⟨X, a, Ls, rfl, hp, hs, hl, hg, q⟩ := h
    refine ⟨_, (pss_one (ps_ret (pe_lc (own := [("_law_laid", 1), ("_law_mine", 2)]) (g := (gTup K 2 (gCons (gName 1) (gCons (gName 2) gNil)))) (tt := tYes) (te := (tTup (tCons (tOp (rIxT K) (tOp (rIxT K) (tVar 1) (tC (.int 0))) (tC (.int 0))) (tCons (tOp (rIxT K) (tVar 1) (tC (.int 1))) (tCons (tVar 2) tNil))))) rfl sc__law_model.nd (pi_mix (by rfl) bi.m_zip (pa_cons (pv 0) (pa_cons (pe_call (C__law_parts.G.mono (by decide)) hr (by rfl) C__law_parts.g C__law_parts.kp C__law_parts.b .nil pass0 (pa_cons (pv 0) pa_nil)) pa_nil))) (blkOk_by (N := N__law_model) (sc := defScope s__law_model) (by decide +kernel)) (fun _ _ _ _ _ => (pg_tup rfl (pgs_cons (pg_name (i := 1) sc__law_model.nd rfl (.inl rfl) (.inr rfl)) (pgs_cons (pg_name (i := 2) sc__law_model.nd rfl (.inl rfl) (.inr rfl)) pgs_nil)))) (fun _ _ _ _ _ => pts_nil) (fun _ _ _ _ _ => (pe_tup (pa_cons (pe_ix ix_tup (pe_ix ix_tup (pv 1) pe_int (fun _ _ => rfl)) pe_int (fun _ _ => rfl)) (pa_cons (pe_ix ix_tup (pv 1) pe_int (fun _ _ => rfl)) (pa_cons (pv 2) pa_nil)))))))), ?_⟩
    refine ⟨_, rfl, _, rfl, a, Ls, rfl, hs, hl, hg, fun H1 o bs s1 no eo nbs lp => ?_⟩
    have hs1 := hs.mono (Tups.same s1)
    obtain ⟨as, ea, la⟩ := hs1
    have hlen : (as.map V.ref).length = (bs.map V.ref).length := by
      rw [List.length_map, List.length_map, la.1, lp.1]
    have hbl := lp.1
    have hp1 := hp.same s1
    refine ⟨a, o, _, _, rfl, SqT.of ea, SqL.of eo, fun D nD => ?_⟩
    have nbD : ∀ b ∈ bs, b ∉ D :: X := fun b hb hm => by
      rcases List.mem_cons.mp hm with rfl | hm
      · obtain ⟨i, hi⟩ := List.getElem?_of_mem hb
        obtain ⟨L, _, cs, e, _⟩ := lp.2 i b hi
        rw [nD] at e
        cases e
      · exact hp.fresh (nbs b hb) hm
    refine lc_it (walk_mix hlen) (fun i H' => Same H1 H' ∧ Grow X H' D ((Ls.take i).map moOf)) ⟨same_new (Same.refl _) nD, Grow.nil (hp1.fresh nD)⟩ (fun i H' hi hm => ⟨SqT.of (hm.1 _ _ ea), SqL.of (hm.1 _ _ eo)⟩) (fun i x H' H2 hlt hm hy => ?_) (fun H' hm => ?_)
    · obtain ⟨sm, hG⟩ := hm
      obtain ⟨c, y1, y2, rfl, nc, rfl, f1, f2⟩ := hy
      obtain ⟨b1, L, rfl, _, eL, hL⟩ := laid_get la f1
      obtain ⟨b2, rfl, eb2⟩ := ref_get f2
      obtain ⟨L', eL', tb⟩ := lp.2 i b2 eb2
      have eLL : L = L' := Option.some.inj (eL.symm.trans eL')
      subst eLL
      have hil : i < Ls.length := (List.getElem?_eq_some_iff.mp eL).1
      have sc : Same H' (upd H' c (.tup [.ref b1, .ref b2])) := same_new (Same.refl _) nc
      refine ⟨c, _, rfl, SqT.of upd_same, rfl, _, _, rfl, _, _, rfl, rfl, rfl, yesIte ?_⟩
      have s2 := sm.trans sc
      have hG2 := hG.same sc
      generalize upd H' c (.tup [.ref b1, .ref b2]) = H2 at sc s2 hG2
      obtain ⟨wa, e1, st, ds, e2, _⟩ := hL
      refine ⟨_, rfl, b1, _, 0, _, rfl, rfl, SqT.of (s2 _ _ e1), atI_nat (j := 0) rfl, wa, _, 0, _, rfl, rfl, SqT.of (s2 _ _ e2), atI_nat (j := 0) rfl, ?_⟩
      refine ⟨_, rfl, b1, _, 1, _, rfl, rfl, SqT.of (s2 _ _ e1), atI_nat (j := 1) rfl, _, rfl, (by show 3 ≤ sizeLine; decide), fun z nz => ?_⟩
      have sz : Same H2 (upd H2 z (.tup [.int L.so, .int L.pl, .ref b2])) := same_new (Same.refl _) nz
      have ez : upd H2 z (.tup [.int L.so, .int L.pl, .ref b2]) z = some (.tup [.int L.so, .int L.pl, .ref b2]) := upd_same
      have hG3 := hG2.same sz
      have s3 := s2.trans sz
      obtain ⟨cs, eD, hcl⟩ := hG3.at
      obtain ⟨cs2, eD2, _⟩ := hG2.at
      have hx2 : Ext (D :: X) H2 := (hp1.same s2).cons eD2
      have nzX := hx2.fresh nz
      generalize upd H2 z (.tup [.int L.so, .int L.pl, .ref b2]) = H3 at sz ez hG3 s3 eD
      have hmo : MoAt (D :: X) H3 z (moOf L) := ⟨nzX, b2, ez, TableAt.same s3 tb, nbD b2 (List.mem_of_getElem? eb2)⟩
      refine ⟨_, eD, ?_, same_mine s3 nD, ?_⟩
      · rw [List.length_map, hcl, List.length_map, List.length_take]
        exact small1000 (by omega)
      · rw [List.take_add_one, eL]
        show Grow X _ D ((Ls.take i ++ [L]).map moOf)
        rw [List.map_append]
        exact hG3.snoc eD hmo
    · obtain ⟨sm, hG⟩ := hm
      rw [List.length_map, la.1, List.take_length] at hG
      exact q _ D (s1.trans sm) hG.mod
theorem ok__law_within {f : Addr} {fd : FuncData} {k : Nat} (F : Fun K "_law_within" "_law_within" s__law_within f fd) (bi : Bi mg) : FnOk P w K mg base CX0 (k + 1) f fd P__law_within spWithin := by
  refine F.ok sc__law_within (fun vs H Q E h => ?_) (fun cdv A outer s H vs Q E hr h => ?_)
  · obtain ⟨X, t, ts, a, b, rfl, _⟩ := h
    rfl
  · obtain ⟨X, t, ts, a, b, rfl, hp, ⟨bs, et, tb⟩, hl, q⟩ := h
    refine ⟨_, (pss_cons (ps_set (i := 3) sc__law_within.nd rfl (.inl rfl) (pe_lst pa_nil))
    (pss_cons (ps_for PassesOwn.never rfl (pi_list (pv 0)) (pg_tup rfl (pgs_cons (pg_name (i := 4) sc__law_within.nd rfl (.inl rfl)) (pgs_cons (pg_name (i := 5) sc__law_within.nd rfl (.inl rfl)) (pgs_cons (pg_name (i := 6) sc__law_within.nd rfl (.inl rfl)) pgs_nil))))
      (C8.pss_cut (ps_set (i := 7) sc__law_within.nd rfl (.inl rfl) (pe_ifExp (pt_cmpR op_isN (pv 2) pe_non (nomark _)) (pv 5) (pe_callB (call_min2 rfl) (by rfl) bi.m_min (by decide +kernel) (pa_cons (pv 5) (pa_cons (pv 2) pa_nil)))))
        (pss_one (ps_if (pt_cmpR op_gt (pv 7) (pe_callB (call_max2 rfl) (by rfl) bi.m_max (by decide +kernel) (pa_cons (pv 4) (pa_cons (pv 1) pa_nil))) (nomark _))
          (pss_one (ps_expr (pe_bm PySem.F.plainAttrs_list PySem.F.slot_list_append PySem.F.type_list_append mt_append (pv 3) (pa_cons (pe_tup (pa_cons (pe_callB (call_max2 rfl) (by rfl) bi.m_max (by decide +kernel) (pa_cons (pv 4) (pa_cons (pv 1) pa_nil))) (pa_cons (pv 7) (pa_cons (pv 6) pa_nil)))) pa_nil))))
          pss_nil))))
    (pss_one (ps_ret (pv 3))))), ?_⟩
    refine ⟨Nat.zero_le _, fun o no => ?_⟩
    have nX := hp.fresh no
    have s0 : Same H (upd H o (.lst [])) := same_new (Same.refl H) no
    have hbl : bs.length = ts.length := by
      have := tb.1
      rw [List.length_map] at this
      exact this
    refine ⟨_, rfl, t, rfl, ⟨_, SqL.of (s0 _ _ et)⟩, for_list (xs := bs.map V.ref) (fun i σ' H' => ∃ (x4 x5 x6 x7 : Option V) (cs : List Addr), σ' = [some (.ref t), some (.int a), some (letV b), some (.ref o), x4, x5, x6, x7] ∧ Same H H' ∧ H' o = some (.lst (cs.map V.ref)) ∧ TupsAt H' cs ((within a b (ts.take i)).map rowV)) ⟨_, _, _, _, [], rfl, s0, upd_same, TupsAt.nil⟩ (fun i σ' H' hi hm => ?_) (fun i x σ' H' hx hm => ?_) (fun σ' H' hm => ?_)⟩
    · obtain ⟨x4, x5, x6, x7, cs, rfl, sm, _⟩ := hm
      exact SqL.of (sm _ _ et)
    · obtain ⟨x4, x5, x6, x7, cs, rfl, sm, eo, hcs⟩ := hm
      obtain ⟨z, c1, c2, c3, rfl, ec, ez⟩ := row_get tb hx
      have e1 : ts.take (i + 1) = ts.take i ++ [(c1, c2, c3)] := by
        rw [List.take_add_one, ec]
        rfl
      have e2 : within a b (ts.take (i + 1)) = within a b (ts.take i) ++ (if mxI c1 a < clip b c2 then [(mxI c1 a, clip b c2, c3)] else []) := by
        rw [e1, within_app]
        show _ ++ ((if mxI c1 a < clip b c2 then [(mxI c1 a, clip b c2, c3)] else []) ++ []) = _
        rw [List.append_nil]
      have hil : i < ts.length := (List.getElem?_eq_some_iff.mp ec).1
      refine ⟨z, _, rfl, SqT.of (sm _ _ ez), rfl, _, _, rfl, _, _, rfl, _, _, rfl, rfl, ?_⟩
      refine ⟨fun σ' H3 => σ' = [some (.ref t), some (.int a), some (letV b), some (.ref o), some (.int c1), some (.int c2), some (.int c3), some (.int (clip b c2))] ∧ H3 = H', ?_, fun σ' H3 hm => ?_⟩
      · refine ⟨_, rfl, rfl, _, rfl, ?_⟩
        cases b with
        | none => exact iteEqT (by decide) ⟨_, rfl, rfl, rfl⟩
        | some n => exact iteEqF (letV_some' n) ⟨_, rfl, _, rfl, _, _, rfl, rfl, rfl⟩
      obtain ⟨rfl, rfl⟩ := hm
      refine ⟨_, rfl, _, rfl, _, rfl, _, _, rfl, _, _, rfl, rfl, _, rfl, ite2 (fun e => ?_) (fun e => ?_)⟩
      · rw [if_pos (of_decide_eq_true e)] at e2
        refine ⟨_, rfl, .inl ⟨rfl, _, SqL.of eo⟩, _, rfl, _, rfl, _, _, rfl, _, rfl, _, rfl, (by show 3 ≤ sizeLine; decide), fun y ny => ?_⟩
        have sy : Same H3 (upd H3 y (.tup [.int (mxI c1 a), .int (clip b c2), .int c3])) := same_new (Same.refl _) ny
        have ey : upd H3 y (.tup [.int (mxI c1 a), .int (clip b c2), .int c3]) y = some (.tup [.int (mxI c1 a), .int (clip b c2), .int c3]) := upd_same
        have eo2 := sy _ _ eo
        refine ⟨o, _, _, rfl, rfl, eo2, ?_, ?_⟩
        · have h1 := hcs.1
          rw [List.length_map] at h1
          have h2 := within_len a b (ts.take i)
          rw [List.length_take] at h2
          rw [List.length_map]
          exact small1000 (by omega)
        refine ⟨_, _, _, _, cs ++ [y], rfl, same_mine (sm.trans sy) no, ?_, ?_⟩
        · rw [upd_same, List.map_append]
          rfl
        · rw [e2, List.map_append]
          exact ((hcs.mono (Tups.same sy)).snoc ey).mono (Tups.ls eo2)
      · rw [if_neg (fun z => e (decide_eq_true z)), List.append_nil] at e2
        refine ⟨_, _, _, _, cs, rfl, sm, eo, ?_⟩
        rw [e2]
        exact hcs
    · obtain ⟨x4, x5, x6, x7, cs, rfl, sm, eo, hcs⟩ := hm
      rw [List.length_map, hbl, List.take_length] at hcs
      exact ⟨_, rfl, q _ o sm nX ⟨cs, eo, hcs⟩⟩
theorem ok__law_moved {f : Addr} {fd : FuncData} {k : Nat} (F : Fun K "_law_moved" "_law_moved" s__law_moved f fd) (bi : Bi mg) : FnOk P w K mg base CX0 (k + 1) f fd P__law_moved spMovedM := by
  refine F.ok sc__law_moved (fun vs H Q E h => ?_) (fun cdv A outer s H vs Q E hr h => ?_)
  · obtain ⟨X, a, m, d, t, rfl, _⟩ := h
    rfl
  · obtain ⟨X, a, m, d, t, rfl, hp, ea, ⟨bs, et, tb⟩, hl, q⟩ := h
    refine ⟨_, (pss_cons (ps_asg (pv 0) (pg_tup rfl (pgs_cons (pg_name (i := 2) sc__law_moved.nd rfl (.inl rfl)) (pgs_cons (pg_name (i := 3) sc__law_moved.nd rfl (.inl rfl)) (pgs_cons (pg_name (i := 4) sc__law_moved.nd rfl (.inl rfl)) pgs_nil)))))
    (pss_one (ps_ret (pe_tup (pa_cons (pv 2) (pa_cons (pe_op op_add (pv 3) (pv 1)) (pa_cons (pe_lc (own := [("_law_begin", 5), ("_law_last", 6), ("_law_strong", 7)]) (g := (gTup K 3 (gCons (gName 5) (gCons (gName 6) (gCons (gName 7) gNil))))) (tt := tYes) rfl sc__law_moved.nd (pi_list (pv 4)) (blkOk_by (N := N__law_moved) (sc := defScope s__law_moved) (by decide +kernel)) (fun _ _ _ _ _ => (pg_tup rfl (pgs_cons (pg_name (i := 5) sc__law_moved.nd rfl (.inl rfl) (.inr rfl)) (pgs_cons (pg_name (i := 6) sc__law_moved.nd rfl (.inl rfl) (.inr rfl)) (pgs_cons (pg_name (i := 7) sc__law_moved.nd rfl (.inl rfl) (.inr rfl)) pgs_nil))))) (fun _ _ _ _ _ => pts_nil) (fun _ _ _ _ _ => (pe_tup (pa_cons (pe_op op_add (pv 5) (pv 1)) (pa_cons (pe_op op_add (pv 6) (pv 1)) (pa_cons (pv 7) pa_nil)))))) pa_nil))))))), ?_⟩
    have hbl : bs.length = m.pts.length := by
      have := tb.1
      rw [List.length_map] at this
      exact this
    refine ⟨_, rfl, a, _, rfl, SqT.of ea, rfl, _, _, rfl, _, _, rfl, _, _, rfl, rfl, ?_⟩
    refine ⟨_, rfl, _, rfl, _, rfl, _, _, rfl, rfl, _, rfl, t, rfl, ⟨_, SqL.of et⟩, fun D nD => ?_⟩
    have nX := hp.fresh nD
    refine lc_list (xs := bs.map V.ref) (fun i H' => Same H H' ∧ ∃ cs, H' D = some (.lst (cs.map V.ref)) ∧ TupsAt H' cs (((m.pts.take i).map (shiftR d)).map rowV)) ⟨same_new (Same.refl H) nD, [], upd_same, TupsAt.nil⟩ (fun i H' hi hm => SqL.of (hm.1 _ _ et)) (fun i x H' hx hm => ?_) (fun H' hm => ?_)
    · obtain ⟨sm, cs, eD, hcs⟩ := hm
      obtain ⟨z, c1, c2, c3, rfl, ec, ez⟩ := row_get tb hx
      have hil : i < m.pts.length := (List.getElem?_eq_some_iff.mp ec).1
      refine ⟨z, _, rfl, SqT.of (sm _ _ ez), rfl, _, _, rfl, _, _, rfl, _, _, rfl, rfl, rfl, yesIte ?_⟩
      refine ⟨_, rfl, _, rfl, _, _, rfl, rfl, _, rfl, _, rfl, _, _, rfl, rfl, _, rfl, (by show 3 ≤ sizeLine; decide), fun y ny => ?_⟩
      have sy : Same H' (upd H' y (.tup [.int (c1 + d), .int (c2 + d), .int c3])) := same_new (Same.refl _) ny
      have ey : upd H' y (.tup [.int (c1 + d), .int (c2 + d), .int c3]) y = some (.tup [.int (c1 + d), .int (c2 + d), .int c3]) := upd_same
      have eD2 := sy _ _ eD
      refine ⟨_, eD2, ?_, same_mine (sm.trans sy) nD, cs ++ [y], ?_, ?_⟩
      · have h1 := hcs.1
        rw [List.length_map, List.length_map, List.length_take] at h1
        rw [List.length_map]
        exact small1000 (by omega)
      · rw [upd_same, List.map_append]
        rfl
      · rw [List.take_add_one, ec]
        show TupsAt _ _ (((m.pts.take i ++ [(c1, c2, c3)]).map (shiftR d)).map rowV)
        rw [List.map_append, List.map_append]
        exact ((hcs.mono (Tups.same sy)).snoc ey).mono (Tups.ls eD2)
    · obtain ⟨sm, cs, eD, hcs⟩ := hm
      rw [List.length_map, hbl, List.take_length] at hcs
      refine ⟨(by show 3 ≤ sizeLine; decide), fun r nr => ?_⟩
      have sr := same_new (o := .tup [.int m.so, .int (m.pl + d), .ref D]) (Same.refl _) nr
      exact q _ r (sm.trans sr) ⟨(hp.same sm).fresh nr, D, upd_same, ⟨cs, sr _ _ eD, hcs.mono (Tups.same sr)⟩, nX⟩
theorem ok__law_model_from {f fW fM : Addr} {fd fdW fdM : FuncData} (F : Fun K "_law_model_from" "_law_model_from" s__law_model_from f fd) (bi : Bi mg) (C__law_within : Cal P w K mg base "_law_within" P__law_within 1 spWithin fW fdW) (C__law_moved : Cal P w K mg base "_law_moved" P__law_moved 1 spMovedM fM fdM) : FnOk P w K mg base CX0 2 f fd P__law_model_from spModelFrom := by
  refine F.ok sc__law_model_from (fun vs H Q E h => ?_) (fun cdv A outer s H vs Q E hr h => ?_)
  · obtain ⟨X, a, Ls, x, rfl, _⟩ := h
    rfl
  · obtain ⟨X, a, Ls, x, rfl, hp, ⟨naX, as, ea, hE⟩, hl, hg, q⟩ := h
    have hu64 := hr.units
    refine ⟨_, (pss_cons (ps_set (i := 2) sc__law_model_from.nd rfl (.inl rfl) (pe_lst pa_nil))
    (pss_cons (ps_for PassesOwn.never rfl (pi_list (pv 0)) (pg_tup rfl (pgs_cons (pg_name (i := 3) sc__law_model_from.nd rfl (.inl rfl)) (pgs_cons (pg_name (i := 4) sc__law_model_from.nd rfl (.inl rfl)) (pgs_cons (pg_name (i := 5) sc__law_model_from.nd rfl (.inl rfl)) pgs_nil))))
      (pss_cons (ps_set (i := 6) sc__law_model_from.nd rfl (.inl rfl) (pe_call (C__law_within.G.mono (by decide)) hr (by rfl) C__law_within.g C__law_within.kp C__law_within.b .nil pass0 (pa_cons (pv 5) (pa_cons (pv 1) (pa_cons pe_non pa_nil)))))
        (pss_one (ps_if (pt_cmpR op_ge (pv 4) (pv 1) (nomark _))
          (pss_one (ps_expr (pe_bm PySem.F.plainAttrs_list PySem.F.slot_list_append PySem.F.type_list_append mt_append (pv 2) (pa_cons (pe_call (C__law_moved.G.mono (by decide)) hr (by rfl) C__law_moved.g C__law_moved.kp C__law_moved.b .nil pass0 (pa_cons (pe_tup (pa_cons (pv 3) (pa_cons (pv 4) (pa_cons (pv 5) pa_nil)))) (pa_cons (pe_op op_sub pe_int (pv 1)) pa_nil))) pa_nil))))
          (pss_one (ps_if (pw_and (pt_cmpR (op_neD hu64) (pv 6) (pe_lst pa_nil) (nomark _)) (pw_and1 (pt_cmpR op_eq (pe_ix ix_tup (pe_ix ix_list (pv 6) pe_int (fun _ _ => rfl)) pe_int (fun _ _ => rfl)) (pv 1) (nomark _)))).pt
              (pss_one (ps_expr (pe_bm PySem.F.plainAttrs_list PySem.F.slot_list_append PySem.F.type_list_append mt_append (pv 2) (pa_cons (pe_call (C__law_moved.G.mono (by decide)) hr (by rfl) C__law_moved.g C__law_moved.kp C__law_moved.b .nil pass0 (pa_cons (pe_tup (pa_cons (pv 3) (pa_cons (pv 1) (pa_cons (pv 6) pa_nil)))) (pa_cons (pe_op op_sub pe_int (pv 1)) pa_nil))) pa_nil))))
              pss_nil))))))
    (pss_one (ps_ret (pv 2))))), ?_⟩
    refine ⟨Nat.zero_le _, fun D nD => ?_⟩
    have nDX := hp.fresh nD
    have s0 : Same H (upd H D (.lst [])) := same_new (Same.refl H) nD
    have hal := hE.1
    rw [List.length_map] at hal
    refine ⟨_, rfl, a, rfl, ⟨_, SqL.of (s0 _ _ ea)⟩, for_list (xs := as.map V.ref) (fun i σ' H' => ∃ (x3 x4 x5 x6 : Option V), σ' = [some (.ref a), some (.int x), some (.ref D), x3, x4, x5, x6] ∧ Same H H' ∧ Grow X H' D ((aboveOf x (Ls.take i)).map moOf)) ⟨_, _, _, _, rfl, s0, Grow.nil nDX⟩ (fun i σ' H' hi hm => ?_) (fun i v σ' H' hx hm => ?_) (fun σ' H' hm => ?_)⟩
    · obtain ⟨x3, x4, x5, x6, rfl, sm, _⟩ := hm
      exact SqL.of (sm _ _ ea)
    · obtain ⟨x3, x4, x5, x6, rfl, sm, hG⟩ := hm
      obtain ⟨b, m, rfl, _, em, nb, t, eb, tb, nt⟩ := hE.get hx
      rw [List.getElem?_map] at em
      obtain ⟨L, eL, rfl⟩ := Option.map_eq_some_iff.mp em
      have gL := hg L (List.mem_of_getElem? eL)
      have hil : i < Ls.length := (List.getElem?_eq_some_iff.mp eL).1
      have ht : Ls.take (i + 1) = Ls.take i ++ [L] := by
        rw [List.take_add_one, eL]
        rfl
      have hps : ∀ q ∈ L.ps, 1 ≤ q.2 := fun q hq => (gL.1.2.2 q hq).2.2.1
      have hln : (moOf L).pts.length ≤ 10 := law_len10 gL
      obtain ⟨cs, eD, hcl⟩ := hG.at
      have hX : Ext (D :: X) H' := (hp.same sm).cons eD
      refine ⟨b, _, rfl, SqT.of (sm _ _ eb), rfl, _, _, rfl, _, _, rfl, _, _, rfl, rfl, ?_⟩
      refine ⟨_, rfl, _, rfl, D :: X, t, _, x, none, rfl, hX, TableAt.same sm tb, by omega, fun H1 R s1 nR hR => ?_⟩
      have hX1 := hX.same s1
      have hG1 := hG.same s1
      have sm1 := sm.trans s1
      have hlim : cs.length < sizeLine := by
        have h1 := above_len x (Ls.take i)
        rw [List.length_take] at h1
        rw [hcl, List.length_map]
        exact small1000 (by omega)
      refine ⟨_, rfl, _, rfl, _, _, rfl, rfl, _, rfl, ite2 (fun e => ?_) (fun e => ?_)⟩
      · have e : x ≤ L.pl := of_decide_eq_true e
        have hk : isKept x L = true := by
          unfold isKept
          rw [decide_eq_true e, Bool.true_or]
        have hr2 : moOf (restL x L) = movM (0 - x) (moOf L) := by
          unfold restL
          rw [if_neg (by omega), mo_mov, Int.zero_sub]
        refine ⟨_, rfl, .inl ⟨rfl, _, SqL.of (s1 _ _ eD)⟩, _, rfl, _, rfl, _, rfl, (by show 3 ≤ sizeLine; decide), fun y ny => ?_⟩
        have sy : Same H1 (upd H1 y (.tup [.int L.so, .int L.pl, .ref t])) := same_new (Same.refl _) ny
        have ey : upd H1 y (.tup [.int L.so, .int L.pl, .ref t]) y = some (.tup [.int L.so, .int L.pl, .ref t]) := upd_same
        refine ⟨_, rfl, _, _, rfl, rfl, D :: X, y, moOf L, 0 - x, t, rfl, hX1.same sy, ey, TableAt.same (sm1.trans sy) tb, by omega, fun H2 z s2 hz => ?_⟩
        have s12 := sy.trans s2
        have eD2 := s12 _ _ (s1 _ _ eD)
        refine ⟨D, _, _, rfl, rfl, eD2, by rw [List.length_map]; exact hlim, ?_⟩
        refine ⟨_, _, _, _, rfl, same_mine (sm1.trans s12) nD, ?_⟩
        rw [ht, above_snoc, if_pos hk, List.map_append]
        show Grow X _ D (_ ++ [moOf (restL x L)])
        rw [hr2]
        exact (hG1.same s12).snoc eD2 hz
      have e : ¬ x ≤ L.pl := of_decide_eq_false (Bool.eq_false_iff.mpr e)
      have hne := rest_ne gL (p := x) (by omega)
      have hkeep : isKept x L = decide (0 < thickL L x) := by
        unfold isKept
        rw [decide_eq_false e, Bool.false_or]
      have skip : ¬ 0 < thickL L x → ∀ H2, Same H1 H2 → ∃ (x3 x4 x5 x6 : Option V), [some (V.ref a), some (.int x), some (.ref D), some (.int (moOf L).so), some (.int (moOf L).pl), some (.ref t), some (.ref R)] = [some (V.ref a), some (.int x), some (.ref D), x3, x4, x5, x6] ∧ Same H H2 ∧ Grow X H2 D ((aboveOf x (Ls.take (i + 1))).map moOf) := fun hz H2 s2 => by
        refine ⟨_, _, _, _, rfl, sm1.trans s2, ?_⟩
        rw [ht, above_snoc, hkeep, decide_eq_false hz, if_neg (by decide), List.append_nil]
        exact hG1.same s2
      have hR' := hR
      obtain ⟨rs, eR, tR⟩ := hR'
      refine ⟨_, rfl, Nat.zero_le _, fun Z nZ => ?_⟩
      have sZ : Same H1 (upd H1 Z (.lst [])) := same_new (Same.refl _) nZ
      have eZ : upd H1 Z (.lst []) Z = some (.lst []) := upd_same
      generalize upd H1 Z (.lst []) = H2 at sZ eZ
      refine ⟨_, _, .lst (SqL.of (sZ _ _ eR)) (rows_dp (tR.mono (Tups.same sZ))), .lst (SqL.of eZ) .nil, rows_shaped _, rfl, _, rfl, ?_⟩
      rw [eq_nilL]
      by_cases hz : 0 < thickL L x
      rotate_left
      · have e0 : within x none (moOf L).pts = [] := Classical.byContradiction fun h => hz (hne.mp h)
        rw [e0]
        exact iteF (skip hz H2 sZ)
      have hw := hne.mpr hz
      have hc := within_rest L.le x L.ps L.pl (by omega) hps
      have hc : within x none (moOf L).pts = lawParts L.le (tailOf L.ps (x - L.pl)) x := hc
      obtain ⟨b2, s2, r2, ehd⟩ := law_head (tail_pos L.ps (x - L.pl) hps) (by rw [← hc]; exact hw)
      rw [← hc] at ehd
      have tR2 := tR.mono (Tups.same sZ)
      rw [ehd] at tR2
      have hrl := tR2.1
      rw [List.length_map, List.length_cons] at hrl
      obtain ⟨z0, rs2, rfl⟩ : ∃ z0 rs2, rs = z0 :: rs2 := by
        cases rs with
        | nil => cases hrl
        | cons z0 rs2 => exact ⟨z0, rs2, rfl⟩
      obtain ⟨xs0, ez1, ez0⟩ := tR2.2 0 z0 rfl
      have ez1 : rowV (x, b2, s2) = xs0 := Option.some.inj ez1
      subst ez1
      rw [ehd]
      refine iteT ?_
      refine ⟨_, rfl, R, _, 0, _, rfl, rfl, SqL.of (sZ _ _ eR), atI_nat (j := 0) rfl, z0, _, 0, _, rfl, rfl, SqT.of ez0, atI_nat (j := 0) rfl, _, rfl, rfl, _, rfl, ?_⟩
      rw [decide_eq_true rfl]
      refine iteT ?_
      have hr2 : moOf (restL x L) = movM (0 - x) (Mo.mk L.so x (within x none (moOf L).pts)) := by
        unfold restL
        rw [if_pos (by omega), mo_mov, Int.zero_sub, mo_cut gL (by omega)]
      refine ⟨_, rfl, .inl ⟨rfl, _, SqL.of (sZ _ _ (s1 _ _ eD))⟩, _, rfl, _, rfl, _, rfl, (by show 3 ≤ sizeLine; decide), fun y ny => ?_⟩
      have sy : Same H2 (upd H2 y (.tup [.int L.so, .int x, .ref R])) := same_new (Same.refl _) ny
      have ey : upd H2 y (.tup [.int L.so, .int x, .ref R]) y = some (.tup [.int L.so, .int x, .ref R]) := upd_same
      refine ⟨_, rfl, _, _, rfl, rfl, D :: X, y, Mo.mk L.so x (within x none (moOf L).pts), 0 - x, R, rfl, (hX1.same sZ).same sy, ey, TableAt.same (sZ.trans sy) hR, ?_, fun H3 z s3 hz3 => ?_⟩
      · have := within_len x none (moOf L).pts
        show (within x none (moOf L).pts).length ≤ 20
        omega
      have s13 := (sZ.trans sy).trans s3
      have eD2 := s13 _ _ (s1 _ _ eD)
      refine ⟨D, _, _, rfl, rfl, eD2, by rw [List.length_map]; exact hlim, ?_⟩
      refine ⟨_, _, _, _, rfl, same_mine (sm1.trans s13) nD, ?_⟩
      rw [ht, above_snoc, hkeep, decide_eq_true hz, if_pos rfl, List.map_append]
      show Grow X _ D (_ ++ [moOf (restL x L)])
      rw [hr2]
      exact (hG1.same s13).snoc eD2 hz3
    · obtain ⟨x3, x4, x5, x6, rfl, sm, hG⟩ := hm
      rw [List.length_map, hal, List.take_length] at hG
      exact ⟨_, rfl, q _ D sm hG.mod⟩
theorem ok__law_at {f : Addr} {fd : FuncData} {k : Nat} (F : Fun K "_law_at" "_law_at" s__law_at f fd) (bi : Bi mg) : FnOk P w K mg base CX0 (k + 1) f fd P__law_at spAtM := by
  refine F.ok sc__law_at (fun vs H Q E h => ?_) (fun cdv A outer s H vs Q E hr h => ?_)
  · obtain ⟨X, o, Ls, p, rfl, _⟩ := h
    rfl
  · obtain ⟨X, o, Ls, p, rfl, ⟨naX, bs, eo, hE⟩, hl, hg, q⟩ := h
    have hbl := hE.1
    rw [List.length_map] at hbl
    refine ⟨_, (pss_cons (ps_par (i := 2) (j := 3) rfl sc__law_at.nd rfl rfl (by decide) rfl rfl (pa_cons (pe_lst pa_nil) (pa_cons (pe_lst (pa_cons pe_int (pa_cons pe_int pa_nil))) pa_nil)) rfl)
    (pss_cons (ps_for PassesOwn.never rfl (pi_enum (by rfl) bi.m_enumerate (pa_cons (pv 0) pa_nil)) (pg_tup rfl (pgs_cons (pg_name (i := 4) sc__law_at.nd rfl (.inl rfl)) (pgs_cons (pg_tup rfl (pgs_cons (pg_name (i := 5) sc__law_at.nd rfl (.inl rfl)) (pgs_cons (pg_name (i := 6) sc__law_at.nd rfl (.inl rfl)) (pgs_cons (pg_name (i := 7) sc__law_at.nd rfl (.inl rfl)) pgs_nil)))) pgs_nil)))
      (pss_one (ps_for PassesOwn.never rfl (pi_list (pv 7)) (pg_tup rfl (pgs_cons (pg_name (i := 8) sc__law_at.nd rfl (.inl rfl)) (pgs_cons (pg_name (i := 9) sc__law_at.nd rfl (.inl rfl)) (pgs_cons (pg_name (i := 10) sc__law_at.nd rfl (.inl rfl)) pgs_nil))))
          (pss_one (ps_if (pt_chain op_le op_lt (pv 8) (pv 1) (pv 9))
              (pss_cons (ps_expr (pe_bm PySem.F.plainAttrs_list PySem.F.slot_list_append PySem.F.type_list_append mt_append (pv 2) (pa_cons (pv 4) pa_nil)))
                (pss_one (ps_asg (pe_op op_add (pe_ix ix_list (pv 3) (pv 5) (fun _ _ => rfl)) (pv 10)) (pg_sub (pv 3) (pv 5) set_list))))
              pss_nil)))))
    (pss_one (ps_ret (pe_tup (pa_cons (pe_callTy call_tuple_of (by rfl) bi.m_tuple (by decide +kernel) (pa_cons (pv 2) pa_nil)) (pa_cons (pe_callTy call_tuple_of (by rfl) bi.m_tuple (by decide +kernel) (pa_cons (pv 3) pa_nil)) pa_nil))))))), ?_⟩
    refine ⟨Nat.zero_le _, fun A nA => ⟨(by show 2 ≤ sizeLine; decide), fun B nB => ⟨_, _, rfl, ?_⟩⟩⟩
    have sA : Same H (upd H A (.lst [])) := same_new (Same.refl H) nA
    have sB : Same H (upd (upd H A (.lst [])) B (.lst [.int 0, .int 0])) := same_new sA nB
    have nBH : H B = none := sA.free nB
    have eA0 : upd H A (.lst []) A = some (.lst []) := upd_same
    have nAB : A ≠ B := ne_of_none eA0 nB
    refine ⟨_, rfl, o, _, rfl, SqL.of (sB _ _ eo), for_it (walk_enum (xs := bs.map V.ref)) (fun i σ' H' => ∃ (x4 x5 x6 x7 x8 x9 x10 : Option V), σ' = [some (.ref o), some (.int p), some (.ref A), some (.ref B), x4, x5, x6, x7, x8, x9, x10] ∧ Same H H' ∧ H' A = some (.lst ((numsFrom 0 ((Ls.take i).map fun L => thickL L p)).map V.int)) ∧ H' B = some (.lst [.int (s0 (Ls.take i) p), .int (s1 (Ls.take i) p)])) ⟨_, _, _, _, _, _, _, rfl, sB, by rw [upd_ne nAB]; exact eA0, upd_same⟩ (fun i σ' H' hi hm => ?_) (fun i x σ' H' H2 hi hm hy => ?_) (fun σ' H' hm => ?_)⟩
    · obtain ⟨x4, x5, x6, x7, x8, x9, x10, rfl, sm, _⟩ := hm
      exact SqL.of (sm _ _ eo)
    · obtain ⟨x4, x5, x6, x7, x8, x9, x10, rfl, sm, eA, eB⟩ := hm
      obtain ⟨c, y1, y2, rfl, nc, rfl, f1, f2⟩ := hy
      have ey : y1 = .int (i : Nat) := (Option.some.inj f1).symm
      subst ey
      obtain ⟨b, m, rfl, eb, em, nb, t, eb2, tb, nt⟩ := hE.get f2
      rw [List.getElem?_map] at em
      obtain ⟨L, eL, rfl⟩ := Option.map_eq_some_iff.mp em
      have gL := hg L (List.mem_of_getElem? eL)
      have hi60 : i < Ls.length := (List.getElem?_eq_some_iff.mp eL).1
      have e1 : Ls.take (i + 1) = Ls.take i ++ [L] := by
        rw [List.take_add_one, eL]
        rfl
      have s2 : Same H (upd H' c (.tup [.int (i : Nat), .ref b])) := same_new sm nc
      have eA2 : upd H' c (.tup [.int (i : Nat), .ref b]) A = _ := (upd_ne (ne_of_none eA nc)).trans eA
      have eB2 : upd H' c (.tup [.int (i : Nat), .ref b]) B = _ := (upd_ne (ne_of_none eB nc)).trans eB
      refine ⟨c, _, rfl, SqT.of upd_same, rfl, _, _, rfl, _, _, rfl, b, _, rfl, SqT.of (s2 _ _ eb2), rfl, _, _, rfl, _, _, rfl, _, _, rfl, rfl, rfl, ?_⟩
      generalize upd H' c (.tup [.int (i : Nat), .ref b]) = H2 at s2 eA2 eB2
      obtain ⟨cs, ec, tb⟩ := tb
      have tb : TupsAt H cs ((lawParts L.le L.ps L.pl).map rowV) := tb
      have hcl : cs.length = (lawParts L.le L.ps L.pl).length := by
        have := tb.1
        rw [List.length_map] at this
        exact this
      have hll := law_len (le := L.le) L.ps L.pl
      have h10 := gL.1.2.1
      refine ⟨_, rfl, t, rfl, ⟨_, SqL.of (s2 _ _ ec)⟩, for_list (xs := cs.map V.ref) (fun j σ' H4 => ∃ (x8 x9 x10 : Option V), σ' = [some (.ref o), some (.int p), some (.ref A), some (.ref B), some (.int (i : Nat)), some (.int L.so), some (.int L.pl), some (.ref t), x8, x9, x10] ∧ Same H H4 ∧ H4 A = some (.lst ((numsFrom 0 ((Ls.take i).map fun L => thickL L p) ++ (((lawParts L.le L.ps L.pl).take j).filter (inRow p)).map fun _ => (i : Int)).map V.int)) ∧ H4 B = some (.lst [.int (s0 (Ls.take i) p + if L.so = 0 then strongOf p ((lawParts L.le L.ps L.pl).take j) else 0), .int (s1 (Ls.take i) p + if L.so = 0 then 0 else strongOf p ((lawParts L.le L.ps L.pl).take j))])) ⟨x8, x9, x10, rfl, s2, ?_, ?_⟩ (fun j σ' H4 hj hm => ?_) (fun j x σ' H4 hx hm => ?_) (fun σ' H4 hm => ?_)⟩
      · rw [eA2]
        show _ = some (HO.lst (List.map V.int (_ ++ [])))
        rw [List.append_nil]
      · rw [eB2]
        show _ = some (HO.lst [.int (_ + if L.so = 0 then (0 : Int) else 0), .int (_ + if L.so = 0 then (0 : Int) else 0)])
        rw [ite_self, Int.add_zero, Int.add_zero]
      · obtain ⟨x8, x9, x10, rfl, s4, _⟩ := hm
        exact SqL.of (s4 _ _ ec)
      · obtain ⟨x8, x9, x10, rfl, s4, eA4, eB4⟩ := hm
        obtain ⟨z, c1, c2, c3, rfl, et, ez⟩ := row_get tb hx
        have hj10 : j < 10 := by
          have := (List.getElem?_eq_some_iff.mp hx).1
          rw [List.length_map] at this
          omega
        have e5 : (lawParts L.le L.ps L.pl).take (j + 1) = (lawParts L.le L.ps L.pl).take j ++ [(c1, c2, c3)] := by
          rw [List.take_add_one, et]
          rfl
        have hfl : ((lawParts L.le L.ps L.pl).take (j + 1)).filter (inRow p) = ((lawParts L.le L.ps L.pl).take j).filter (inRow p) ++ (if inRow p (c1, c2, c3) = true then [(c1, c2, c3)] else []) := filter_take_succ _ et
        have hst : strongOf p ((lawParts L.le L.ps L.pl).take (j + 1)) = strongOf p ((lawParts L.le L.ps L.pl).take j) + if inRow p (c1, c2, c3) = true then c3 else 0 := by
          unfold strongOf
          rw [hfl, List.map_append, List.sum_append]
          split
          · show _ + (c3 + 0) = _
            rw [Int.add_zero]
          · rfl
        have miss : ¬ inRow p (c1, c2, c3) = true → ∃ (x8 x9 x10 : Option V), [some (V.ref o), some (.int p), some (.ref A), some (.ref B), some (.int (i : Nat)), some (.int L.so), some (.int L.pl), some (.ref t), some (.int c1), some (.int c2), some (.int c3)] = [some (V.ref o), some (.int p), some (.ref A), some (.ref B), some (.int (i : Nat)), some (.int L.so), some (.int L.pl), some (.ref t), x8, x9, x10] ∧ Same H H4 ∧ H4 A = some (.lst ((numsFrom 0 ((Ls.take i).map fun L => thickL L p) ++ (((lawParts L.le L.ps L.pl).take (j + 1)).filter (inRow p)).map fun _ => (i : Int)).map V.int)) ∧ H4 B = some (.lst [.int (s0 (Ls.take i) p + if L.so = 0 then strongOf p ((lawParts L.le L.ps L.pl).take (j + 1)) else 0), .int (s1 (Ls.take i) p + if L.so = 0 then 0 else strongOf p ((lawParts L.le L.ps L.pl).take (j + 1)))]) := fun hn => by
          refine ⟨_, _, _, rfl, s4, ?_, ?_⟩
          · rw [eA4, hfl, if_neg hn, List.append_nil]
          · rw [eB4, hst, if_neg hn, Int.add_zero]
        refine ⟨z, _, rfl, SqT.of (s4 _ _ ez), rfl, _, _, rfl, _, _, rfl, _, _, rfl, rfl, ?_⟩
        refine ⟨_, rfl, _, rfl, _, _, rfl, rfl, _, rfl, ite2 (fun h1 => ?_) (fun h1 => ?_)⟩
        · refine ⟨_, rfl, _, _, rfl, rfl, _, rfl, ite2 (fun h2 => ?_) (fun h2 => ?_)⟩
          · have hin : inRow p (c1, c2, c3) = true := Bool.and_eq_true_iff.mpr ⟨h1, h2⟩
            rw [if_pos hin] at hfl hst
            refine ⟨_, rfl, .inl ⟨rfl, _, SqL.of eA4⟩, _, rfl, A, _, _, rfl, rfl, eA4, ?_, ?_⟩
            · rw [List.length_map, List.length_append, List.length_map]
              have h6 := nums_len ((Ls.take i).map fun L => thickL L p) 0
              rw [List.length_map, List.length_take] at h6
              have h7 := List.length_filter_le (inRow p) ((lawParts L.le L.ps L.pl).take j)
              rw [List.length_take] at h7
              exact small1000 (by omega)
            have s5 : ∀ u, Same H (upd H4 A u) := fun u => same_mine s4 nA
            have eB5 : ∀ u, upd H4 A u B = _ := fun u => (upd_ne nAB.symm).trans eB4
            have eA5 : upd H4 A (.lst ((numsFrom 0 ((Ls.take i).map fun L => thickL L p) ++ (((lawParts L.le L.ps L.pl).take j).filter (inRow p)).map fun _ => (i : Int)).map V.int ++ [V.int (i : Nat)])) A = some (.lst ((numsFrom 0 ((Ls.take i).map fun L => thickL L p) ++ (((lawParts L.le L.ps L.pl).take (j + 1)).filter (inRow p)).map fun _ => (i : Int)).map V.int)) := by
              rw [upd_same, hfl]
              simp only [List.map_append, List.append_assoc]
              rfl
            have sx := s5 (.lst ((numsFrom 0 ((Ls.take i).map fun L => thickL L p) ++ (((lawParts L.le L.ps L.pl).take j).filter (inRow p)).map fun _ => (i : Int)).map V.int ++ [V.int (i : Nat)]))
            have eBx := eB5 (.lst ((numsFrom 0 ((Ls.take i).map fun L => thickL L p) ++ (((lawParts L.le L.ps L.pl).take j).filter (inRow p)).map fun _ => (i : Int)).map V.int ++ [V.int (i : Nat)]))
            generalize upd H4 A (.lst ((numsFrom 0 ((Ls.take i).map fun L => thickL L p) ++ (((lawParts L.le L.ps L.pl).take j).filter (inRow p)).map fun _ => (i : Int)).map V.int ++ [V.int (i : Nat)])) = H5 at eA5 sx eBx
            have so01 : L.so = 0 ∨ L.so = 1 := by
              have h8 := gL.2.1
              have h9 := gL.2.2.1
              omega
            rcases so01 with z0 | z0
            · rw [if_pos z0, if_pos z0] at eBx ⊢
              rw [z0]
              refine ⟨_, rfl, _, rfl, B, _, 0, _, rfl, rfl, SqL.of eBx, atI_nat (j := 0) rfl, _, rfl, _, _, rfl, rfl, _, rfl, _, rfl, B, _, 0, 0, rfl, rfl, eBx, rfl, ?_⟩
              refine ⟨_, _, _, rfl, same_mine sx nBH, (upd_ne nAB).trans eA5, ?_⟩
              rw [upd_same, hst, ← Int.add_assoc]
              rfl
            · have z1 : ¬ L.so = 0 := by omega
              rw [if_neg z1, if_neg z1] at eBx ⊢
              rw [z0]
              refine ⟨_, rfl, _, rfl, B, _, 1, _, rfl, rfl, SqL.of eBx, atI_nat (j := 1) rfl, _, rfl, _, _, rfl, rfl, _, rfl, _, rfl, B, _, 1, 1, rfl, rfl, eBx, rfl, ?_⟩
              refine ⟨_, _, _, rfl, same_mine sx nBH, (upd_ne nAB).trans eA5, ?_⟩
              rw [upd_same, hst, ← Int.add_assoc]
              rfl
          · exact miss fun h => h2 (Bool.and_eq_true_iff.mp h).2
        · exact ⟨_, rfl, iteF (miss fun h => h1 (Bool.and_eq_true_iff.mp h).1)⟩
      · obtain ⟨x8, x9, x10, rfl, s4, eA4, eB4⟩ := hm
        rw [List.length_map, hcl, List.take_length] at eA4 eB4
        rw [hits_L gL] at eA4
        rw [strong_L gL] at eB4
        refine ⟨_, _, _, _, _, _, _, rfl, s4, ?_, ?_⟩
        · rw [eA4, e1, List.map_append (l₂ := [L])]
          show _ = some (HO.lst (List.map V.int (numsFrom 0 (_ ++ [thickL L p]))))
          rw [nums_snoc, List.length_map, List.length_take, Nat.min_eq_left (by omega), Nat.zero_add]
        · rw [eB4, e1, s0_snoc, s1_snoc]
    · obtain ⟨x4, x5, x6, x7, x8, x9, x10, rfl, sm, eA, eB⟩ := hm
      rw [List.length_map, hbl, List.take_length] at eA eB
      refine ⟨_, rfl, A, _, rfl, .inl ⟨SqL.of eA, fun t1 n1 => ?_⟩⟩
      have k1 := same_new (o := .tup ((numsFrom 0 (Ls.map fun L => thickL L p)).map V.int)) (Same.refl H') n1
      refine ⟨_, rfl, B, _, rfl, .inl ⟨SqL.of (k1 _ _ eB), fun t2 n2 => ?_⟩⟩
      have k2 := same_new (o := .tup [.int (s0 Ls p), .int (s1 Ls p)]) (Same.refl _) n2
      refine ⟨(by show 2 ≤ sizeLine; decide), fun r nr => ?_⟩
      have k3 := same_new (o := .tup [.ref t1, .ref t2]) (Same.refl _) nr
      exact q _ r t1 t2 (((sm.trans k1).trans k2).trans k3) upd_same (k3 _ _ (k2 _ _ upd_same)) (k3 _ _ upd_same)
theorem ok__law_borders {f : Addr} {fd : FuncData} {k : Nat} (F : Fun K "_law_borders" "_law_borders" s__law_borders f fd) (bi : Bi mg) : FnOk P w K mg base CX0 (k + 1) f fd P__law_borders spBordersM := by
  refine F.ok sc__law_borders (fun vs H Q E h => ?_) (fun cdv A outer s H vs Q E hr h => ?_)
  · obtain ⟨X, o, Ls, rfl, _⟩ := h
    rfl
  · obtain ⟨X, o, Ls, rfl, ⟨naX, bs, eo, hE⟩, hl, hg, q⟩ := h
    have hbl := hE.1
    rw [List.length_map] at hbl
    refine ⟨_, (pss_cons (ps_set (i := 1) sc__law_borders.nd rfl (.inl rfl) (pe_disp (pps_cons pe_int pe_bl pps_nil) rfl rfl (by decide) (by decide)))
    (pss_cons (ps_for PassesOwn.never rfl (pi_list (pv 0)) (pg_tup rfl (pgs_cons (pg_name (i := 2) sc__law_borders.nd rfl (.inl rfl)) (pgs_cons (pg_name (i := 3) sc__law_borders.nd rfl (.inl rfl)) (pgs_cons (pg_name (i := 4) sc__law_borders.nd rfl (.inl rfl)) pgs_nil))))
      (pss_one (ps_for PassesOwn.never rfl (pi_list (pv 4)) (pg_tup rfl (pgs_cons (pg_name (i := 5) sc__law_borders.nd rfl (.inl rfl)) (pgs_cons (pg_name (i := 6) sc__law_borders.nd rfl (.inl rfl)) (pgs_cons (pg_name (i := 7) sc__law_borders.nd rfl (.inl rfl)) pgs_nil))))
          (pss_one (ps_expr (pe_bm PySem.F.plainAttrs_dict PySem.F.slot_dict_update PySem.F.type_dict_update mt_dupdate (pv 1) (pa_cons (pe_disp (pps_cons (pv 5) pe_bl (pps_cons (pv 6) pe_bl pps_nil)) rfl rfl (by decide) (by decide)) pa_nil)))))))
    (pss_one (ps_ret (pe_callB (call_sortD rfl) (by rfl) bi.m_sorted (by decide +kernel) (pa_cons (pv 1) pa_nil)))))), ?_⟩
    intro d nd
    refine ⟨upd_same, [(Sum.inl 0, .bl true)], rfl, (by show 1 ≤ 15; decide), ?_⟩
    have s0 : Same H (upd (upd H d (.dK [])) d (.dK (mergeK [] [(Sum.inl 0, .bl true)]))) := same_mine (same_new (Same.refl H) nd) nd
    have ed0 : upd (upd H d (.dK [])) d (.dK (mergeK [] [(Sum.inl 0, .bl true)])) d = some (.dK [(Sum.inl 0, .bl true)]) := upd_same
    generalize upd (upd H d (.dK [])) d (.dK (mergeK [] [(Sum.inl 0, .bl true)])) = H1 at s0 ed0
    have hv0 : ∀ k : Int, (∃ v, valV [((Sum.inl 0 : Key), V.bl true)] (Sum.inl k) = some v) ↔ k = 0 ∨ PKeys (Ls.take 0) k := fun k => by
      have h0 : ∀ k, ¬ PKeys (Ls.take 0) k := fun k ⟨L, hL, _⟩ => by cases hL
      have h1 := merge_has (Sum.inl k : Key) [((Sum.inl 0 : Key), V.bl true)] []
      have e : mergeK [] [((Sum.inl 0 : Key), V.bl true)] = [((Sum.inl 0 : Key), V.bl true)] := rfl
      rw [e] at h1
      rw [h1]
      constructor
      · rintro (⟨v, e⟩ | ⟨x, hx, e⟩)
        · cases e
        · rw [List.mem_singleton.mp hx] at e
          exact .inl (Sum.inl.inj e).symm
      · rintro (rfl | h)
        · exact .inr ⟨_, List.mem_singleton.mpr rfl, rfl⟩
        · exact absurd h (h0 k)
    refine ⟨_, rfl, o, rfl, ⟨_, SqL.of (s0 _ _ eo)⟩, for_list (xs := bs.map V.ref) (fun i σ' H' => ∃ (x2 x3 x4 x5 x6 x7 : Option V) (kvs : List (Key × V)), σ' = [some (.ref o), some (.ref d), x2, x3, x4, x5, x6, x7] ∧ Same H H' ∧ H' d = some (.dK kvs) ∧ IKN kvs ∧ kvs.length ≤ 20 * i + 1 ∧ ∀ k, (∃ v, valV kvs (Sum.inl k) = some v) ↔ k = 0 ∨ PKeys (Ls.take i) k) ⟨_, _, _, _, _, _, _, rfl, s0, ed0, ⟨(fun x hx => by rw [List.mem_singleton.mp hx]; exact ⟨0, rfl⟩), by simp⟩, by decide, hv0⟩ (fun i σ' H' hi hm => ?_) (fun i v σ' H' hx hm => ?_) (fun σ' H' hm => ?_)⟩
    · obtain ⟨x2, x3, x4, x5, x6, x7, kvs, rfl, sm, _⟩ := hm
      exact SqL.of (sm _ _ eo)
    · obtain ⟨x2, x3, x4, x5, x6, x7, kvs, rfl, sm, ed, ik, hk, hv⟩ := hm
      obtain ⟨b, m, rfl, _, em, nb, t, eb2, tb, nt⟩ := hE.get hx
      rw [List.getElem?_map] at em
      obtain ⟨L, eL, rfl⟩ := Option.map_eq_some_iff.mp em
      obtain ⟨cs, ec, tb⟩ := tb
      have tb : TupsAt H cs ((lawParts L.le L.ps L.pl).map rowV) := tb
      have gL := hg L (List.mem_of_getElem? eL)
      have h10 := gL.1.2.1
      have hi60 : i < 60 := by
        have h1 := (List.getElem?_eq_some_iff.mp eL).1
        omega
      have hlb : cs.length ≤ 10 := by
        have h1 := tb.1
        rw [List.length_map] at h1
        have h2 := law_len (le := L.le) L.ps L.pl
        omega
      refine ⟨b, _, rfl, SqT.of (sm _ _ eb2), rfl, _, _, rfl, _, _, rfl, _, _, rfl, rfl, ?_⟩
      refine ⟨_, rfl, t, rfl, ⟨_, SqL.of (sm _ _ ec)⟩, for_list (xs := cs.map V.ref) (fun j σ' H4 => ∃ (x5 x6 x7 : Option V) (kvs : List (Key × V)), σ' = [some (.ref o), some (.ref d), some (.int L.so), some (.int L.pl), some (.ref t), x5, x6, x7] ∧ Same H H4 ∧ H4 d = some (.dK kvs) ∧ IKN kvs ∧ kvs.length ≤ 20 * i + 1 + 2 * j ∧ ∀ k, (∃ v, valV kvs (Sum.inl k) = some v) ↔ (k = 0 ∨ PKeys (Ls.take i) k) ∨ ∃ y ∈ (lawParts L.le L.ps L.pl).take j, y.1 = k ∨ y.2.1 = k) ⟨x5, x6, x7, kvs, rfl, sm, ed, ik, by omega, fun k => by rw [hv]; exact ⟨.inl, fun h => h.elim id fun ⟨y, hy, _⟩ => by cases hy⟩⟩ (fun j σ' H4 hj hm => ?_) (fun j v σ' H4 hx hm => ?_) (fun σ' H4 hm => ?_)⟩
      · obtain ⟨x5, x6, x7, kvs, rfl, sm, _⟩ := hm
        exact SqL.of (sm _ _ ec)
      · obtain ⟨x5, x6, x7, kvs, rfl, s4, ed4, ik4, hk4, hv4⟩ := hm
        obtain ⟨z, c1, c2, c3, rfl, et, ez⟩ := row_get tb hx
        have hj10 : j < 10 := by
          have := (List.getElem?_eq_some_iff.mp hx).1
          rw [List.length_map] at this
          omega
        refine ⟨z, _, rfl, SqT.of (s4 _ _ ez), rfl, _, _, rfl, _, _, rfl, _, _, rfl, rfl, ?_⟩
        refine ⟨_, rfl, .inr (.inr (.inl ⟨rfl, .inl ⟨_, ed4⟩⟩)), fun n nn => ?_⟩
        refine ⟨_, rfl, _, rfl, upd_same, [(Sum.inl c1, .bl true), (Sum.inl c2, .bl true)], rfl, (by show 2 ≤ 15; decide), ?_⟩
        have ndn : d ≠ n := ne_of_none ed4 nn
        have sn : Same H (upd (upd H4 n (.dK [])) n (.dK (mergeK [] [(Sum.inl c1, .bl true), (Sum.inl c2, .bl true)]))) := same_mine (same_new s4 nn) (s4.free nn)
        have ikm : IK (mergeK [] [(Sum.inl c1, V.bl true), (Sum.inl c2, V.bl true)]) := IK.merge (fun x hx => by cases hx) fun x hx => by
          simp only [List.mem_cons, List.not_mem_nil, or_false] at hx
          rcases hx with rfl | rfl
          · exact ⟨c1, rfl⟩
          · exact ⟨c2, rfl⟩
        have lm := length_mergeK [(Sum.inl c1, V.bl true), (Sum.inl c2, V.bl true)] []
        have lm : (mergeK [] [(Sum.inl c1, V.bl true), (Sum.inl c2, V.bl true)]).length ≤ 0 + 2 := lm
        have hmm : ∀ k : Int, (∃ x ∈ mergeK [] [((Sum.inl c1 : Key), V.bl true), (Sum.inl c2, V.bl true)], x.1 = Sum.inl k) ↔ k = c1 ∨ k = c2 := fun k => by
          have h1 := merge_has (Sum.inl k : Key) [((Sum.inl c1 : Key), V.bl true), (Sum.inl c2, V.bl true)] []
          have h2 : (∃ x ∈ mergeK [] [((Sum.inl c1 : Key), V.bl true), (Sum.inl c2, V.bl true)], x.1 = Sum.inl k) ↔ ∃ v, valV (mergeK [] [((Sum.inl c1 : Key), V.bl true), (Sum.inl c2, V.bl true)]) (Sum.inl k) = some v := by
            generalize mergeK [] [((Sum.inl c1 : Key), V.bl true), (Sum.inl c2, V.bl true)] = mm
            have h3 := valV_any (Sum.inl k : Key) mm
            constructor
            · rintro ⟨x, hx, e⟩
              have h4 : (mm.any fun kv => decide (kv.1 = Sum.inl k)) = true := List.any_eq_true.mpr ⟨x, hx, decide_eq_true e⟩
              rw [h4] at h3
              exact Option.isSome_iff_exists.mp h3.symm
            · rintro ⟨v, e⟩
              rw [e] at h3
              obtain ⟨x, hx, e2⟩ := List.any_eq_true.mp h3
              exact ⟨x, hx, of_decide_eq_true e2⟩
          rw [h2, h1]
          constructor
          · rintro (⟨v, e⟩ | ⟨x, hx, e⟩)
            · cases e
            · simp only [List.mem_cons, List.not_mem_nil, or_false] at hx
              rcases hx with rfl | rfl
              · exact .inl (Sum.inl.inj e).symm
              · exact .inr (Sum.inl.inj e).symm
          · rintro (rfl | rfl)
            · exact .inr ⟨(Sum.inl k, V.bl true), by simp, rfl⟩
            · exact .inr ⟨(Sum.inl k, V.bl true), by simp, rfl⟩
        generalize mergeK [] [(Sum.inl c1, V.bl true), (Sum.inl c2, V.bl true)] = more at sn ikm lm hmm
        have lm2 := length_mergeK more kvs
        refine ⟨d, n, kvs, more, rfl, rfl, ?_, upd_same, ndn, Nat.le_of_lt (small2000 (by omega)), ?_⟩
        · rw [upd_ne ndn, upd_ne ndn]
          exact ed4
        · refine ⟨_, _, _, _, rfl, same_mine sn nd, upd_same, ik4.merge ikm, by omega, fun k => ?_⟩
          rw [merge_has, hv4, hmm, List.take_add_one, et]
          constructor
          · rintro ((h | ⟨y, hy, h⟩) | h)
            · exact .inl h
            · exact .inr ⟨y, by simp [hy], h⟩
            · exact .inr ⟨(c1, c2, c3), by simp, h.elim (fun e => .inl e.symm) (fun e => .inr e.symm)⟩
          · rintro (h | ⟨y, hy, h⟩)
            · exact .inl (.inl h)
            · rcases List.mem_append.mp hy with hy | hy
              · exact .inl (.inr ⟨y, hy, h⟩)
              · simp only [Option.toList_some, List.mem_cons, List.not_mem_nil, or_false] at hy
                rw [hy] at h
                exact .inr (h.elim (fun e => .inl e.symm) (fun e => .inr e.symm))
      · obtain ⟨x5, x6, x7, kvs, rfl, s4, ed4, ik4, hk4, hv4⟩ := hm
        rw [List.length_map] at hk4 hv4
        refine ⟨_, _, _, _, _, _, kvs, rfl, s4, ed4, ik4, by omega, fun k => ?_⟩
        have hcl : cs.length = (lawParts L.le L.ps L.pl).length := by
          have h1 := tb.1
          rw [List.length_map] at h1
          exact h1
        rw [hv4, hcl, List.take_length, List.take_add_one, eL, parts_eq L.ps L.pl fun p hp => (gL.1.2.2 p hp).2.2.1]
        have hP : PKeys (Ls.take i ++ [L]) k ↔ PKeys (Ls.take i) k ∨ ∃ y ∈ partsOf L.le L.ps L.pl, y.1 = k ∨ y.2.1 = k := by
          constructor
          · rintro ⟨M, hM, h⟩
            rcases List.mem_append.mp hM with hM | hM
            · exact .inl ⟨M, hM, h⟩
            · rw [List.mem_singleton.mp hM] at h
              exact .inr h
          · rintro (⟨M, hM, h⟩ | h)
            · exact ⟨M, List.mem_append_left _ hM, h⟩
            · exact ⟨L, List.mem_append_right _ (List.mem_singleton.mpr rfl), h⟩
        show (k = 0 ∨ _) ∨ _ ↔ k = 0 ∨ PKeys (Ls.take i ++ [L]) k
        rw [hP, or_assoc]
    · obtain ⟨x2, x3, x4, x5, x6, x7, kvs, rfl, sm, ed, ik, hk, hv⟩ := hm
      rw [List.length_map] at hk hv
      obtain ⟨ks, e1, e2, e3, e4⟩ := keys_of ik
      refine ⟨_, rfl, d, kvs, ks, rfl, ed, e1, fun ys p hp hso np => ?_⟩
      refine q _ p ys (same_new sm np) (sm.free np) upd_same ⟨sorted_strict hp hso e3, fun k => ?_, ?_⟩
      · rw [hp.mem_iff, e4, hv, hbl, List.take_length]
        exact Iff.rfl
      · have := hp.length_eq
        omega
theorem ok__law_spot {f fB fP fD : Addr} {fd fdB fdP fdD : FuncData} (F : Fun K "_law_spot" "_law_spot" s__law_spot f fd) (bi : Bi mg) (C__law_borders : Cal P w K mg base "_law_borders" P__law_borders 1 spBordersM fB fdB) (C__law_pick : Cal P w K mg base "_law_pick" P__law_pick 3 spPick fP fdP) (C__law_draw : Cal P w K mg base "_law_draw" P__law_draw 2 spDraw fD fdD) : FnOk P w K mg base CX0 4 f fd P__law_spot spSpotM := by
  refine F.ok sc__law_spot (fun vs H Q E h => ?_) (fun cdv A outer s H vs Q E hr h => ?_)
  · obtain ⟨p, l, a, T, Ls, least, C, rfl, _⟩ := h
    rfl
  · obtain ⟨p, l, a, T, Ls, least, C, rfl, hp, hT, hM, hl, hC1, hC2, hg, hle, q⟩ := h
    refine ⟨_, (pss_cons (ps_set (i := 3) sc__law_spot.nd rfl (.inl rfl) (pe_call (C__law_borders.G.mono (by decide)) hr (by rfl) C__law_borders.g C__law_borders.kp C__law_borders.b .nil pass0 (pa_cons (pv 1) pa_nil)))
    (pss_cons (ps_set (i := 4) sc__law_spot.nd rfl (.inl rfl) (pe_op op_sub (pe_op op_add (pe_call (C__law_pick.G.mono (by decide)) hr (by rfl) C__law_pick.g C__law_pick.kp C__law_pick.b .nil pass0 (pa_cons (pv 0) (pa_cons (pv 3) pa_nil))) (pe_call (C__law_draw.G.mono (by decide)) hr (by rfl) C__law_draw.g C__law_draw.kp C__law_draw.b .nil pass0 (pa_cons (pv 0) (pa_cons pe_int pa_nil)))) pe_int))
    (pss_one (ps_ret (pe_callB (call_max2 rfl) (by rfl) bi.m_max (by decide +kernel) (pa_cons (pv 2) (pa_cons (pe_ix ix_list (pe_lst (pa_cons (pv 4) (pa_cons (pv 4) (pa_cons (pe_call (C__law_draw.G.mono (by decide)) hr (by rfl) C__law_draw.g C__law_draw.kp C__law_draw.b .nil pass0 (pa_cons (pv 0) (pa_cons pe_int pa_nil))) pa_nil)))) (pe_call (C__law_draw.G.mono (by decide)) hr (by rfl) C__law_draw.g C__law_draw.kp C__law_draw.b .nil pass0 (pa_cons (pv 0) (pa_cons pe_int pa_nil))) (fun _ _ => rfl)) pa_nil))))))), ?_⟩
    have hgL : ∀ L ∈ Ls, GoodL L := fun L hL => (hg L hL).good (by omega)
    have hq : ∀ b : Int, 0 < b → b ≤ 1000 → CDivW 0 b := fun b h0 h1 => wide_div (b := 10) h0 (by omega) (by decide) (by decide)
    refine ⟨_, rfl, [p, l], a, Ls, rfl, hM, hl, hgL, fun H1 o ys s1 no eo hP => ?_⟩
    have hp1 := hp.same s1
    obtain ⟨no1, no2⟩ := hp.fresh no
    obtain ⟨r, er⟩ := places_zero hgL hP
    refine ⟨_, rfl, _, rfl, p, l, T, o, ys.map V.int, rfl, hp1, by omega, eo, no1, no2, by rw [List.length_map, er]; exact Nat.succ_le_succ (Nat.zero_le _), by rw [List.length_map]; have := hP.2.2; omega, fun H2 j x hx hp2 k2 => ?_⟩
    obtain ⟨y, rfl, ey⟩ := int_get hx
    have hy := keysE hC1 hg ((hP.2.1 y).mp (List.mem_of_getElem? ey))
    refine ⟨_, rfl, p, l, T + 1, 3, rfl, hp2, by omega, hq _ (by omega) (by omega), fun d H3 d0 d1 hp3 k3 => ?_⟩
    refine ⟨_, _, rfl, rfl, _, _, rfl, rfl, ?_⟩
    refine ⟨_, rfl, _, rfl, _, rfl, _, rfl, p, l, T + 2, 20, rfl, hp3, by omega, hq _ (by omega) (by omega), fun e H4 e0 e1 hp4 k4 => ?_⟩
    refine ⟨(by show 3 ≤ sizeLine; decide), fun Z nZ => ?_⟩
    obtain ⟨nZ1, nZ2⟩ := hp4.fresh nZ
    refine ⟨_, rfl, p, l, T + 3, 3, rfl, hp4.new nZ, by omega, hq _ (by omega) (by omega), fun g H5 g0 g1 hp5 k5 => ?_⟩
    have eZ : H5 Z = some (.lst [.int (y + d - 1), .int (y + d - 1), .int e]) := k5 _ _ nZ1 nZ2 upd_same
    obtain ⟨n, hn, en⟩ : ∃ n : Int, n ≤ C + 2 ^ 129 ∧ atI [V.int (y + d - 1), V.int (y + d - 1), V.int e] g = some (.int n) := by
      have hw : g = 0 ∨ g = 1 ∨ g = 2 := by omega
      rcases hw with rfl | rfl | rfl
      · exact ⟨_, by omega, rfl⟩
      · exact ⟨_, by omega, rfl⟩
      · exact ⟨_, by omega, rfl⟩
    refine ⟨Z, _, g, _, rfl, rfl, SqL.of eZ, en, _, _, rfl, ?_⟩
    refine q _ _ hp5 ((((Same.keep s1).trans k2).trans k3).trans (((k4.trans (Keep.refl.new nZ)).trans k5))) ?_ ?_
    · split <;> omega
    · split <;> omega
theorem ok__law_right {fB fI fM fS fE fP fA fR fY fT fW f : Addr} {fdB fdI fdM fdS fdE fdP fdA fdR fdY fdT fdW fd : FuncData} (F : Fun K "_law_right" "_law_right" s__law_right f fd) (bi : Bi mg) (C__law_borders : Cal P w K mg base "_law_borders" P__law_borders 1 spBordersM fB fdB) (C_is_strand : Cal P w K mg base "is_strand" P_is_strand 6 spIsStrand fI fdI)
    (C__law_same : Cal P w K mg base "_law_same" P__law_same 6 (spSame K 5) fM fdM) (C_stretches : Cal P w K mg base "stretches" P_stretches 3 spStretches fS fdS) (C_end_of : Cal P w K mg base "end_of" P_end_of 2 spEnd fE fdE) (C__law_spot : Cal P w K mg base "_law_spot" P__law_spot 4 spSpotM fP fdP) (C__law_at : Cal P w K mg base "_law_at" P__law_at 1 spAtM fA fdA)
    (C_running : Cal P w K mg base "running" P_running 4 spRunning fR fdR) (C_by_sorts : Cal P w K mg base "by_sorts" P_by_sorts 4 spBy fY fdY) (C_thick : Cal P w K mg base "thick" P_thick 4 spThickS fT fdT) (C_weight_between : Cal P w K mg base "weight_between" P_weight_between 2 spBetween fW fdW) : FnOk P w K mg base CX0 7 f fd P__law_right spRight73 := by
  refine F.ok sc__law_right (fun vs H Q E h => ?_) (fun cdv A outer s H vs Q E hr h => ?_)
  · obtain ⟨p, l, T, a, m, Ls, C, rfl, _⟩ := h
    rfl
  · obtain ⟨p, l, T, a, m, Ls, C, rfl, hp, hT, hs, hM, hl, hC1, hC2, ge, q⟩ := h
    have hu64 := hr.units
    have hg : ∀ L ∈ Ls, GoodL L := fun L hL => (ge L hL).good (by omega)
    refine ⟨_, (pss_cons (ps_set (i := 3) sc__law_right.nd rfl (.inl rfl) (pe_call (C__law_borders.G.mono (by decide)) hr (by rfl) C__law_borders.g C__law_borders.kp C__law_borders.b .nil pass0 (pa_cons (pv 2) pa_nil)))
    (pss_cons (ps_setLc (i := 4) (own := [("_law_begin", 9), ("_law_last", 10)]) (g := (gTup K 2 (gCons (gName 9) (gCons (gName 10) gNil)))) (tt := tYes) (te := (tOp (rCatA K) (tTup (tCons (tVar 9) (tCons (tVar 10) tNil))) (tCall spAtM [] E0 (tCons (tVar 2) (tCons (tVar 9) tNil))))) rfl sc__law_right.nd rfl rfl (sw_true rfl rfl rfl (by decide +kernel)) (RZ.pi_zipA (by rfl) bi.m_zip (pa_cons (pv 3) (pa_cons (pe_slice sl_list (pv 3) (po_some pe_int) po_none) pa_nil))) (blkOk_by (N := N__law_right) (sc := defScope s__law_right) (by decide +kernel)) (fun _ _ _ _ _ => (pg_tup rfl (pgs_cons (pg_name (i := 9) sc__law_right.nd rfl (.inl rfl) (.inr rfl)) (pgs_cons (pg_name (i := 10) sc__law_right.nd rfl (.inl rfl) (.inr rfl)) pgs_nil)))) (fun _ _ _ _ _ => pts_nil) (fun _ _ _ _ _ => (pe_op op_catA (pe_tup (pa_cons (pv 9) (pa_cons (pv 10) pa_nil))) (pe_call (C__law_at.G.mono (by decide)) hr (by rfl) C__law_at.g C__law_at.kp C__law_at.b .nil pass0 (pa_cons (pv 2) (pa_cons (pv 9) pa_nil))))))
    (pss_cons (ps_if (pw_or (pt_cmpR op_notBl (pe_call (C_is_strand.G.mono (by decide)) hr (by rfl) C_is_strand.g C_is_strand.kp C_is_strand.b .nil pass0 (pa_cons (pv 1) pa_nil)) pe_bl (nomark _)) (pw_or1 (pt_not (pt_val (pe_call (C__law_same.G.mono (by decide)) hr (by rfl) C__law_same.g C__law_same.kp C__law_same.b .nil pass0 (pa_cons (pe_call (C_stretches.G.mono (by decide)) hr (by rfl) C_stretches.g C_stretches.kp C_stretches.b .nil pass0 (pa_cons (pv 1) pa_nil)) (pa_cons (pe_callTy call_tuple_of (by rfl) bi.m_tuple (by decide +kernel) (pa_cons (pv 4) pa_nil)) pa_nil))))))).pt
      (pss_one (ps_ret pe_bl))
      pss_nil)
    (pss_cons (ps_if (pt_not (pt_val (pe_call (C__law_same.G.mono (by decide)) hr (by rfl) C__law_same.g C__law_same.kp C__law_same.b .nil pass0 (pa_cons (pe_call (C_end_of.G.mono (by decide)) hr (by rfl) C_end_of.g C_end_of.kp C_end_of.b .nil pass0 (pa_cons (pv 1) pa_nil)) (pa_cons (pe_ix ix_list (pv 3) (pe_un un_neg pe_int) (fun _ _ => rfl)) pa_nil)))))
      (pss_one (ps_ret pe_bl))
      pss_nil)
    (pss_cons (ps_for PassesOwn.never rfl (pi_range1 rfl bi.m_range (pa_cons pe_int pa_nil)) (pg_name (i := 5) sc__law_right.nd rfl (.inl rfl))
      (pss_cons (ps_set (i := 6) sc__law_right.nd rfl (.inl rfl) (pe_call (C__law_spot.G.mono (by decide)) hr (by rfl) C__law_spot.g C__law_spot.kp C__law_spot.b .nil pass0 (pa_cons (pv 0) (pa_cons (pv 2) (pa_cons pe_int pa_nil)))))
        (pss_cons (ps_set (i := 7) sc__law_right.nd rfl (.inl rfl) (pe_call (C__law_at.G.mono (by decide)) hr (by rfl) C__law_at.g C__law_at.kp C__law_at.b .nil pass0 (pa_cons (pv 2) (pa_cons (pv 6) pa_nil))))
        (pss_cons (ps_if (pt_not (pt_val (pe_call (C__law_same.G.mono (by decide)) hr (by rfl) C__law_same.g C__law_same.kp C__law_same.b .nil pass0 (pa_cons (pe_tup (pa_cons (pe_call (C_running.G.mono (by decide)) hr (by rfl) C_running.g C_running.kp C_running.b .nil pass0 (pa_cons (pv 1) (pa_cons (pv 6) pa_nil))) (pa_cons (pe_call (C_by_sorts.G.mono (by decide)) hr (by rfl) C_by_sorts.g C_by_sorts.kp C_by_sorts.b .nil pass0 (pa_cons (pv 1) (pa_cons (pv 6) pa_nil))) pa_nil))) (pa_cons (pv 7) pa_nil)))))
          (pss_one (ps_ret pe_bl))
          pss_nil)
        (pss_one (ps_if (pt_cmpR op_ne (pe_call (C_thick.G.mono (by decide)) hr (by rfl) C_thick.g C_thick.kp C_thick.b .nil pass0 (pa_cons (pv 1) (pa_cons (pv 6) pa_nil))) (pe_callB (cr_sumT rfl) (by rfl) bi.m_sum (by decide +kernel) (pa_cons (pe_ix ix_tup (pv 7) pe_int (fun _ _ => rfl)) pa_nil)) (nomark _))
          (pss_one (ps_ret pe_bl))
          pss_nil))))))
    (pss_cons (ps_set (i := 8) sc__law_right.nd rfl (.inl rfl) (pe_callB (cr_sum rfl) (by rfl) bi.m_sum (by decide +kernel) (pa_cons (pe_lc (own := [("_law_begin", 9), ("_law_last", 10), ("_law_who", 11), ("_law_both", 12)]) (g := (gTup K 4 (gCons (gName 9) (gCons (gName 10) (gCons (gName 11) (gCons (gName 12) gNil)))))) (tt := tYes) (te := (tOp (rI CMulW fun i j => V.int (i * j)) (tOp (rI0 fun i j => V.int (i - j)) (tVar 10) (tVar 9)) (tCB (fun vs H Q => ∃ (a : Addr) (ns : List Int), vs = [V.ref a] ∧ SqT K H a (ns.map V.int) ∧ Q (V.int ns.sum) H) (tCons (tVar 12) tNil)))) rfl sc__law_right.nd (pi_list (pv 4)) (blkOk_by (N := N__law_right) (sc := defScope s__law_right) (by decide +kernel)) (fun _ _ _ _ _ => (pg_tup rfl (pgs_cons (pg_name (i := 9) sc__law_right.nd rfl (.inl rfl) (.inr rfl)) (pgs_cons (pg_name (i := 10) sc__law_right.nd rfl (.inl rfl) (.inr rfl)) (pgs_cons (pg_name (i := 11) sc__law_right.nd rfl (.inl rfl) (.inr rfl)) (pgs_cons (pg_name (i := 12) sc__law_right.nd rfl (.inl rfl) (.inr rfl)) pgs_nil)))))) (fun _ _ _ _ _ => pts_nil) (fun _ _ _ _ _ => (pe_op op_mulW (pe_op op_sub (pv 10) (pv 9)) (pe_callB (cr_sumT rfl) (by rfl) bi.m_sum (by decide +kernel) (pa_cons (pv 12) pa_nil))))) pa_nil)))
    (pss_one (ps_ret (pe_call (C__law_same.G.mono (by decide)) hr (by rfl) C__law_same.g C__law_same.kp C__law_same.b .nil pass0 (pa_cons (pe_call (C_weight_between.G.mono (by decide)) hr (by rfl) C_weight_between.g C_weight_between.kp C_weight_between.b .nil pass0 (pa_cons (pv 1) (pa_cons pe_int (pa_cons (pe_ix ix_list (pv 3) (pe_un un_neg pe_int) (fun _ _ => rfl)) pa_nil)))) (pa_cons (pv 8) pa_nil))))))))))), ?_⟩
    refine ⟨_, rfl, [p, l], m, Ls, rfl, hM, hl, hg, fun H1 S ys sA1 nS eS hP => ?_⟩
    obtain ⟨y0, ey0⟩ := places_zero hg hP
    -- what is due
    refine ⟨_, rfl, _, rfl, _, rfl, S, ys.map V.int, rfl, SqL.of eS, fun U nU => ?_⟩
    have eU : cutV (ys.map V.int) (some 1) none = (ys.drop 1).map V.int := by
      rw [ey0]
      have h := cut_drop ((0 :: y0).map V.int) 1 (by rw [List.length_map]; exact Nat.succ_le_succ (Nat.zero_le _))
      rw [List.map_drop]
      exact h
    rw [eU]
    have sU : Same H1 (upd H1 U (.lst ((ys.drop 1).map V.int))) := same_new (Same.refl _) nU
    have eUU : upd H1 U (.lst ((ys.drop 1).map V.int)) U = some (.lst ((ys.drop 1).map V.int)) := upd_same
    generalize upd H1 U (.lst ((ys.drop 1).map V.int)) = H2 at sU eUU
    have eS2 := sU _ _ eS
    have s02 := sA1.trans sU
    have hlen : min (ys.map V.int).length ((ys.drop 1).map V.int).length = (pairs ys).length := by
      rw [List.length_map, List.length_map, List.length_zip]
    have hpr : (pairs ys).length ≤ 1300 := by
      rw [List.length_zip]
      have := hP.2.2
      omega
    refine ⟨S, U, _, _, rfl, .inl ⟨SqL.of eS2, SqL.of eUU, fun D nD => ?_⟩⟩
    refine lc_it (walk_zip (xs := ys.map V.int) (ys := (ys.drop 1).map V.int) hlen.symm) (fun i H' => Same H2 H' ∧ ∃ rs, H' D = some (.lst (rs.map V.ref)) ∧ SegsAt H' rs Ls ((pairs ys).take i)) ⟨same_new (Same.refl _) nD, [], upd_same, SegsAt.nil⟩ (fun i H' hi hm => ⟨SqL.of (hm.1 _ _ eS2), SqL.of (hm.1 _ _ eUU)⟩) (fun i x H' H3 hlt hm hy => ?_) (fun H' hm => ?_)
    · obtain ⟨sm, rs, eD, sg⟩ := hm
      obtain ⟨c, y1, y2, rfl, nc, rfl, f1, f2⟩ := hy
      obtain ⟨st, rfl, ek1⟩ := int_get f1
      obtain ⟨en, rfl, ek2⟩ := int_get f2
      refine ⟨c, _, rfl, SqT.of upd_same, rfl, _, _, rfl, _, _, rfl, rfl, rfl, yesIte ?_⟩
      have sc : Same H' (upd H' c (.tup [.int st, .int en])) := same_new (Same.refl _) nc
      generalize upd H' c (.tup [.int st, .int en]) = H4 at sc
      refine ⟨_, rfl, _, rfl, (by show 2 ≤ sizeLine; decide), fun b nb => ?_⟩
      have sb : Same H4 (upd H4 b (.tup [.int st, .int en])) := same_new (Same.refl _) nb
      have eb : upd H4 b (.tup [.int st, .int en]) b = some (.tup [.int st, .int en]) := upd_same
      generalize upd H4 b (.tup [.int st, .int en]) = H5 at sb eb
      have s5 := (sm.trans sc).trans sb
      refine ⟨_, rfl, _, rfl, [p, l], m, Ls, st, rfl, hM.same (s02.trans s5), hl, hg, fun H6 r t1 t2 s6 er et1 et2 => ?_⟩
      refine ⟨b, r, _, _, rfl, rfl, SqT.of (s6 _ _ eb), SqT.of er, (by show 2 + 2 ≤ sizeLine; decide), (fun z => by cases z), (fun _ z => by cases z), fun _ _ z nz => ?_⟩
      have sz : Same H6 (upd H6 z (.tup [.int st, .int en, .ref t1, .ref t2])) := same_new (Same.refl _) nz
      have sall := ((sc.trans sb).trans s6).trans sz
      have eD2 := sall _ _ eD
      have hrs : rs.length ≤ 1300 := by
        have := sg.1
        rw [List.length_take] at this
        omega
      have gz : SegAt (upd H6 z (.tup [.int st, .int en, .ref t1, .ref t2])) z Ls st en := ⟨t1, t2, upd_same, sz _ _ et1, sz _ _ et2⟩
      refine ⟨_, eD2, ?_, same_mine (sm.trans sall) nD, rs ++ [z], ?_, ?_⟩
      · rw [List.length_map]
        exact small2000 (by omega)
      · rw [upd_same, List.map_append]
        rfl
      · rw [pairs_take ek1 ek2]
        exact ((sg.mono (Tups.same sall)).snoc gz).mono (Tups.ls eD2)
    obtain ⟨sm, rs, eD, sg⟩ := hm
    rw [List.take_length] at sg
    have s03 := s02.trans sm
    have hs3 := hs.mono (Tups.same s03)
    refine ⟨_, rfl, a, Ls, rfl, hs3, hl, (fun L hL => (ge L hL).i), fun H4 s4 => ?_⟩
    refine ⟨_, _, rfl, rfl, _, rfl, iteF ?_⟩
    refine ⟨_, rfl, a, Ls, rfl, hs3.mono (Tups.same s4), hl, hg, fun H5 o as ys' s5 no eo sg' hP' => ?_⟩
    have eys : ys' = ys := places_eq hP' hP
    subst eys
    have eD5 := s5 _ _ (s4 _ _ eD)
    refine ⟨_, rfl, D, _, rfl, .inl ⟨SqL.of eD5, fun Z nZ => ?_⟩⟩
    have sZ : Same H5 (upd H5 Z (.tup (rs.map V.ref))) := same_new (Same.refl _) nZ
    have eZ : upd H5 Z (.tup (rs.map V.ref)) Z = some (.tup (rs.map V.ref)) := upd_same
    refine ⟨.ref o, .ref Z, .tuple ((pairs ys').map (segD Ls)), rfl, segs_ti hl (by omega), Nat.lt_trans (segs_depth Ls _) (by decide), .tup (SqT.of (sZ _ _ eo)) (segs_dp (sg'.mono (Tups.same sZ))), .tup (SqT.of eZ) (segs_dp (sg.mono (Tups.same ((s4.trans s5).trans sZ)))), fun H6 s6 => ?_⟩
    refine ⟨true, rfl, iteNT ?_⟩
    have s36 := ((s4.trans s5).trans sZ).trans s6
    have s06 := s03.trans s36
    -- the end
    refine ⟨_, rfl, a, Ls, rfl, hs.mono (Tups.same s06), hl, hg, fun H7 z s7 hz => ?_⟩
    obtain ⟨z', ez'⟩ : ∃ z', ys'.getLast? = some z' := by
      rw [ey0]
      exact ⟨_, List.getLast?_cons⟩
    have ezz := last_end hg hP hz ez'
    subst ezz
    have eS7 := ((sm.trans s36).trans s7) _ _ eS2
    refine ⟨_, rfl, 1, rfl, S, _, -1, _, rfl, rfl, SqL.of eS7, atI_lastI ez', ?_⟩
    refine ⟨_, _, .int z', rfl, .int _, by show 0 < 5; decide, .int _, .int _, fun H8 s8 => ?_⟩
    refine ⟨true, rfl, iteNT ?_⟩
    have s68 := s7.trans s8
    have s08 := s06.trans s68
    have hp8 := hp.same s08
    -- six places
    refine ⟨6, rfl, by decide, by decide, for_range (n := 6) (fun i σ' H' => ∃ (x5 x6 x7 : Option V), σ' = [some (.ref p), some (.ref a), some (.ref m), some (.ref S), some (.ref D), x5, x6, x7, none, none, none, none, none] ∧ Pot H' p l (T + 4 * i) ∧ Keep p l H8 H') ⟨_, _, _, rfl, hp8, Keep.refl⟩ (fun i σ' H' hi hm => ?_) (fun σ' H' hm => ?_)⟩
    · obtain ⟨x5, x6, x7, rfl, hpi, ki⟩ := hm
      have k0 := (Same.keep s08).trans ki
      have hM1 := hM.kx (KX.keep k0 hp)
      have hs1 := hs.mono (k0.tups hp)
      refine ⟨_, rfl, _, rfl, p, l, m, T + 4 * i, Ls, 0, C, rfl, hpi, by omega, hM1, hl, hC1, hC2, ge, by omega, fun H9 n hp9 k9 n0 n1 => ?_⟩
      have hM2 := hM1.kx (KX.keep k9 hpi)
      have hs2 := hs1.mono (k9.tups hpi)
      refine ⟨_, rfl, _, rfl, [p, l], m, Ls, n, rfl, hM2, hl, hg, fun H10 r t1 t2 s10 er et1 et2 => ?_⟩
      refine ⟨_, rfl, _, rfl, a, Ls, n, rfl, hs2.mono (Tups.same s10), hl, fun H11 r1 s11 nr1 er1 => ?_⟩
      refine ⟨_, rfl, _, rfl, a, Ls, n, rfl, hs2.mono (Tups.same (s10.trans s11)), hl, hg, fun H12 r2 s12 nr2 er2 => ?_⟩
      refine ⟨(by show 2 ≤ sizeLine; decide), fun z nz => ?_⟩
      have sz : Same H12 (upd H12 z (.tup [.ref r1, .ref r2])) := same_new (Same.refl _) nz
      have ez : upd H12 z (.tup [.ref r1, .ref r2]) z = some (.tup [.ref r1, .ref r2]) := upd_same
      generalize upd H12 z (.tup [.ref r1, .ref r2]) = H13 at sz ez
      have s1013 := (s11.trans s12).trans sz
      have hn60 := nums_len (Ls.map fun L => thickL L n) 0
      rw [List.length_map] at hn60
      have two_ti : TI (.tuple [.tuple ((numsFrom 0 (Ls.map fun L => thickL L n)).map PyData.int), .tuple ([s0 Ls n, s1 Ls n].map PyData.int)]) := by
        refine .tup (fun x hx => ?_) (by show 2 ≤ 5000; decide)
        simp only [List.mem_cons, List.not_mem_nil, or_false] at hx
        rcases hx with rfl | rfl
        · exact ints_ti _ (by omega)
        · exact ints_ti _ (by show 2 ≤ 5000; decide)
      have two_d : (PyData.tuple [.tuple ((numsFrom 0 (Ls.map fun L => thickL L n)).map PyData.int), .tuple ([s0 Ls n, s1 Ls n].map PyData.int)]).depth < 5 := by
        have h1 := ints_d1 (numsFrom 0 (Ls.map fun L => thickL L n))
        have h2 := ints_d1 [s0 Ls n, s1 Ls n]
        show max (PyData.tuple ((numsFrom 0 (Ls.map fun L => thickL L n)).map PyData.int)).depth (max (PyData.tuple ([s0 Ls n, s1 Ls n].map PyData.int)).depth 0) + 1 < 5
        omega
      refine ⟨_, rfl, .ref z, .ref r, .tuple [.tuple ((numsFrom 0 (Ls.map fun L => thickL L n)).map PyData.int), .tuple ([s0 Ls n, s1 Ls n].map PyData.int)], rfl, two_ti, two_d, .tup (SqT.of ez) (.cons (.tup (SqT.of ((s12.trans sz) _ _ er1)) (ints_dp _)) (.cons (.tup (SqT.of (sz _ _ er2)) (ints_dp [s0 Ls n, s1 Ls n])) .nil)), .tup (SqT.of (s1013 _ _ er)) (.cons (.tup (SqT.of (s1013 _ _ et1)) (ints_dp _)) (.cons (.tup (SqT.of (s1013 _ _ et2)) (ints_dp [s0 Ls n, s1 Ls n])) .nil)), fun H14 s14 => ?_⟩
      refine ⟨true, rfl, iteNT ?_⟩
      have s1014 := s1013.trans s14
      refine ⟨_, rfl, _, rfl, a, Ls, n, rfl, hs2.mono (Tups.same (s10.trans s1014)), hl, fun H15 s15 => ?_⟩
      refine ⟨_, rfl, r, _, 1, _, rfl, rfl, SqT.of ((s1014.trans s15) _ _ er), atI_nat (j := 1) rfl, t2, [s0 Ls n, s1 Ls n], rfl, SqT.of ((s1014.trans s15) _ _ et2), rfl, _, rfl, ?_⟩
      have esum : [s0 Ls n, s1 Ls n].sum = thickS Ls n := by
        rw [← s01 n Ls]
        show s0 Ls n + (s1 Ls n + 0) = _
        omega
      rw [esum, show (!decide (V.int (thickS Ls n) = V.int (thickS Ls n))) = false by rw [decide_eq_true rfl]; rfl]
      refine iteF ?_
      have sf := (s10.trans s1014).trans s15
      exact ⟨_, _, _, rfl, (hp9.same sf).mono (by omega), (ki.trans k9).trans (Same.keep sf)⟩
    obtain ⟨x5, x6, x7, rfl, hp9, k9⟩ := hm
    have k0 := (Same.keep s08).trans k9
    obtain ⟨nDp, nDl⟩ := (hp.same s02).fresh nD
    obtain ⟨nSp, nSl⟩ := hp.fresh nS
    have eD9 := k9 _ _ nDp nDl ((s36.trans s68) _ _ eD)
    have eS9 := k9 _ _ nSp nSl (s8 _ _ eS7)
    have sg9 := (sg.mono (Tups.same (s36.trans s68))).mono (k9.tups hp8)
    have hs9 := hs.mono (k0.tups hp)
    -- the weight
    refine ⟨_, rfl, D, rfl, ⟨_, SqL.of eD9⟩, fun W nW => ?_⟩
    have hrl : rs.length = (pairs ys').length := sg9.1
    refine lc_list (xs := rs.map V.ref) (fun i H2 => Same H' H2 ∧ H2 W = some (.lst ((((pairs ys').take i).map fun p => (p.2 - p.1) * thickS Ls p.1).map V.int))) ⟨same_new (Same.refl _) nW, upd_same⟩ (fun i H2 hi hm => SqL.of (hm.1 _ _ eD9)) (fun i x H2 hx hm => ?_) (fun H2 hm => ?_)
    · obtain ⟨sm2, eW⟩ := hm
      obtain ⟨c, rfl, ec⟩ := ref_get hx
      obtain ⟨u, v, euv, nn, tt, ex, enn, ett⟩ := (sg9.mono (Tups.same sm2)).2 i c ec
      obtain ⟨h0, huv, hgap⟩ := pair_gap hg hP euv
      have hv := place_lt hg hP (List.mem_of_getElem? (pair_at euv).2)
      refine ⟨c, _, rfl, SqT.of ex, rfl, _, _, rfl, _, _, rfl, _, _, rfl, _, _, rfl, rfl, rfl, yesIte ?_⟩
      refine ⟨_, rfl, _, rfl, _, _, rfl, rfl, _, rfl, tt, [s0 Ls u, s1 Ls u], rfl, SqT.of ett, _, _, rfl, rfl, ?_, ?_⟩
      · have esum : [s0 Ls u, s1 Ls u].sum = thickS Ls u := by
          rw [← s01 u Ls]
          show s0 Ls u + (s1 Ls u + 0) = _
          omega
        rw [esum]
        exact mulW_of (by omega) (by omega) (thickS_bd hg).1 (thickS_lt hg hl)
      have esum : [s0 Ls u, s1 Ls u].sum = thickS Ls u := by
        rw [← s01 u Ls]
        show s0 Ls u + (s1 Ls u + 0) = _
        omega
      rw [esum]
      have hil : i < (pairs ys').length := (List.getElem?_eq_some_iff.mp euv).1
      refine ⟨_, eW, ?_, same_mine sm2 nW, ?_⟩
      · rw [List.length_map, List.length_map, List.length_take]
        exact small2000 (by omega)
      · rw [upd_same, List.take_add_one, euv]
        show _ = some (HO.lst ((((pairs ys').take i ++ [(u, v)]).map fun p => (p.2 - p.1) * thickS Ls p.1).map V.int))
        rw [List.map_append, List.map_append]
        rfl
    obtain ⟨sm2, eW⟩ := hm
    rw [List.length_map, hrl, List.take_length] at eW
    refine ⟨W, _, rfl, SqL.of eW, ?_⟩
    rw [places_weigh hg hP ez']
    have eS10 := sm2 _ _ eS9
    refine ⟨_, rfl, _, rfl, 1, rfl, S, _, -1, _, rfl, rfl, SqL.of eS10, atI_lastI ez', a, Ls, 0, z', rfl, hs9.mono (Tups.same sm2), hl, hg, fun H3 s3 => ?_⟩
    refine ⟨_, rfl, _, _, .int (WL 0 z' Ls), rfl, .int _, by show 0 < 5; decide, .int _, .int _, fun H4' s4' => ?_⟩
    have sf := (sm2.trans s3).trans s4'
    exact q H4' ((hp9.same sf).mono (by omega)) (k0.trans (Same.keep sf))
theorem ok__law_again {fH fC fO fB fY fA fE f : Addr} {fdH fdC fdO fdB fdY fdA fdE fd : FuncData} (F : Fun K "_law_again" "_law_again" s__law_again f fd) (bi : Bi mg) (C_behind : Cal P w K mg base "behind" P_behind 2 spBehind fH fdH) (C_cut_off : Cal P w K mg base "cut_off" P_cut_off 2 spCutOff fC fdC) (C_from_on : Cal P w K mg base "from_on" P_from_on 3 spFromOn fO fdO)
    (C__law_borders : Cal P w K mg base "_law_borders" P__law_borders 1 spBordersM fB fdB) (C_by_sorts : Cal P w K mg base "by_sorts" P_by_sorts 4 spBy fY fdY) (C__law_at : Cal P w K mg base "_law_at" P__law_at 1 spAtM fA fdA) (C_end_of : Cal P w K mg base "end_of" P_end_of 2 spEnd fE fdE) : FnOk P w K mg base CX0 5 f fd P__law_again spAgain73 := by
  refine F.ok sc__law_again (fun vs H Q E h => ?_) (fun cdv A outer s H vs Q E hr h => ?_)
  · obtain ⟨X, a, m, Ls, x, C, rfl, _⟩ := h
    rfl
  · obtain ⟨X, a, m, Ls, x, C, rfl, hs, hM, hl, hC, ge, x0, x1, q⟩ := h
    have hu64 := hr.units
    have hg : ∀ L ∈ Ls, GoodL L := fun L hL => (ge L hL).good (by omega)
    have hgw : ∀ L ∈ wholeOf x Ls, GoodL L := fun L hL => (goodE_whole ge (by omega) x0 (D := 2 ^ 140) (by omega) L hL).good (by omega)
    have hlw : (wholeOf x Ls).length ≤ 60 := by
      unfold wholeOf
      rw [List.length_append, List.length_map]
      have h1 := below_len x Ls
      have h2 := above_len x Ls
      omega
    refine ⟨_, (pss_cons (ps_set (i := 3) sc__law_again.nd rfl (.inl rfl) (pe_call (C_behind.G.mono (by decide)) hr (by rfl) C_behind.g C_behind.kp C_behind.b .nil pass0 (pa_cons (pe_call (C_cut_off.G.mono (by decide)) hr (by rfl) C_cut_off.g C_cut_off.kp C_cut_off.b .nil pass0 (pa_cons (pv 0) (pa_cons (pv 2) pa_nil))) (pa_cons (pe_call (C_from_on.G.mono (by decide)) hr (by rfl) C_from_on.g C_from_on.kp C_from_on.b .nil pass0 (pa_cons (pv 0) (pa_cons (pv 2) pa_nil))) (pa_cons (pv 2) pa_nil)))))
    (pss_cons (ps_for PassesOwn.never rfl (pi_list (pe_op op_cat (pe_call (C__law_borders.G.mono (by decide)) hr (by rfl) C__law_borders.g C__law_borders.kp C__law_borders.b .nil pass0 (pa_cons (pv 1) pa_nil)) (pe_lst (pa_cons (pv 2) (pa_cons (pe_callB (call_max2 rfl) (by rfl) bi.m_max (by decide +kernel) (pa_cons pe_int (pa_cons (pe_op op_sub (pv 2) pe_int) pa_nil))) (pa_cons (pe_op op_add (pv 2) pe_int) pa_nil)))))) (pg_name (i := 4) sc__law_again.nd rfl (.inl rfl))
      (pss_one (ps_if (pt_cmpR (op_neD hu64) (pe_call (C_by_sorts.G.mono (by decide)) hr (by rfl) C_by_sorts.g C_by_sorts.kp C_by_sorts.b .nil pass0 (pa_cons (pv 3) (pa_cons (pv 4) pa_nil))) (pe_ix ix_tup (pe_call (C__law_at.G.mono (by decide)) hr (by rfl) C__law_at.g C__law_at.kp C__law_at.b .nil pass0 (pa_cons (pv 1) (pa_cons (pv 4) pa_nil))) pe_int (fun _ _ => rfl)) (nomark _))
          (pss_one (ps_ret pe_bl))
          pss_nil)))
    (pss_one (ps_ret (pe_cmpR op_eq (pe_call (C_end_of.G.mono (by decide)) hr (by rfl) C_end_of.g C_end_of.kp C_end_of.b .nil pass0 (pa_cons (pv 3) pa_nil)) (pe_call (C_end_of.G.mono (by decide)) hr (by rfl) C_end_of.g C_end_of.kp C_end_of.b .nil pass0 (pa_cons (pv 0) pa_nil)) (nomark _)))))), ?_⟩
    refine ⟨_, rfl, _, rfl, a, Ls, x, rfl, hs, by omega, fun H1 o1 s1' n1 h1 => ?_⟩
    refine ⟨_, rfl, _, rfl, a, Ls, x, rfl, hs.mono (Tups.same s1'), by omega, (fun L hL => (hg L hL).1.2.1), fun H2 o2 s2' n2 h2 => ?_⟩
    refine ⟨_, rfl, o1, o2, belowOf x Ls, aboveOf x Ls, x, rfl, h1.mono (Tups.same s2'), h2, ?_, fun H3 W s3' hW => ?_⟩
    · have h1 := below_len x Ls
      have h2 := above_len x Ls
      omega
    have hW : StrandAt H3 W (wholeOf x Ls) := hW
    have s03 := (s1'.trans s2').trans s3'
    refine ⟨_, rfl, X, m, Ls, rfl, hM.same s03, by omega, hg, fun H4 S ys s4' nS eS hP => ?_⟩
    refine ⟨_, rfl, _, rfl, _, _, rfl, rfl, _, _, rfl, _, rfl, _, _, rfl, rfl, (by show 3 ≤ sizeLine; decide), fun Y nY => ?_⟩
    generalize hmx : (if x - 1 > 0 then x - 1 else 0) = x2
    have x20 : 0 ≤ x2 := by
      rw [← hmx]
      split <;> omega
    have sY : Same H4 (upd H4 Y (.lst [.int x, .int x2, .int (x + 1)])) := same_new (Same.refl _) nY
    have eY : upd H4 Y (.lst [.int x, .int x2, .int (x + 1)]) Y = some (.lst ([x, x2, x + 1].map V.int)) := upd_same
    generalize upd H4 Y (.lst [.int x, .int x2, .int (x + 1)]) = H5 at sY eY
    refine ⟨S, Y, _, _, rfl, rfl, sY _ _ eS, eY, ?_, fun Z nZ => ?_⟩
    · rw [List.length_map, List.length_map]
      have := hP.2.2
      exact Nat.le_of_lt (small2000 (by show ys.length + 3 ≤ 5000; omega))
    rw [← List.map_append]
    have sZ : Same H5 (upd H5 Z (.lst ((ys ++ [x, x2, x + 1]).map V.int))) := same_new (Same.refl _) nZ
    have eZ : upd H5 Z (.lst ((ys ++ [x, x2, x + 1]).map V.int)) Z = some (.lst ((ys ++ [x, x2, x + 1]).map V.int)) := upd_same
    generalize upd H5 Z (.lst ((ys ++ [x, x2, x + 1]).map V.int)) = H6 at sZ eZ
    have s36 := (s4'.trans sY).trans sZ
    have hpos : ∀ n ∈ ys ++ [x, x2, x + 1], 0 ≤ n := fun n hn => by
      rcases List.mem_append.mp hn with h | h
      · exact keys_nonneg hg ((hP.2.1 n).mp h)
      · simp only [List.mem_cons, List.not_mem_nil, or_false] at h
        rcases h with rfl | rfl | rfl <;> omega
    generalize ys ++ [x, x2, x + 1] = ns at eZ hpos
    refine ⟨Z, rfl, ⟨_, SqL.of eZ⟩, for_list (xs := ns.map V.int) (fun i σ' H' => ∃ (x4 : Option V), σ' = [some (.ref a), some (.ref m), some (.int x), some (.ref W), x4] ∧ Same H6 H') ⟨_, rfl, Same.refl _⟩ (fun i σ' H' hi hm => ?_) (fun i v σ' H' hx hm => ?_) (fun σ' H' hm => ?_)⟩
    · obtain ⟨_, _, sm⟩ := hm
      exact SqL.of (sm _ _ eZ)
    · obtain ⟨x4, rfl, sm⟩ := hm
      obtain ⟨n, rfl, en⟩ := int_get hx
      have n0 := hpos n (List.mem_of_getElem? en)
      have s06 := s03.trans (s36.trans sm)
      obtain ⟨e0, e1⟩ := whole_sorts ge (by omega) x0 n0
      refine ⟨_, rfl, _, rfl, W, wholeOf x Ls, n, rfl, hW.mono (Tups.same (s36.trans sm)), hlw, hgw, fun H7 r s7 nr er => ?_⟩
      rw [e0, e1] at er
      refine ⟨_, rfl, _, rfl, X, m, Ls, n, rfl, hM.same (s06.trans s7), by omega, hg, fun H8 r2 t1 t2 s8 er2 et1 et2 => ?_⟩
      refine ⟨r2, _, 1, _, rfl, rfl, SqT.of er2, atI_nat (j := 1) rfl, ints_ne (ns := [s0 Ls n, s1 Ls n]) (s8 _ _ er) et2 ⟨_, rfl, iteF ?_⟩⟩
      exact ⟨_, rfl, sm.trans (s7.trans s8)⟩
    · obtain ⟨x4, rfl, sm⟩ := hm
      have s06 := s03.trans (s36.trans sm)
      refine ⟨_, rfl, W, wholeOf x Ls, rfl, hW.mono (Tups.same (s36.trans sm)), hlw, hgw, fun H7 n s7 hn => ?_⟩
      refine ⟨_, rfl, a, Ls, rfl, hs.mono (Tups.same (s06.trans s7)), by omega, hg, fun H8 k s8 hk => ?_⟩
      have hth : ∀ q, 0 ≤ q → thickS (wholeOf x Ls) q = thickS Ls q := fun q q0 => by
        obtain ⟨e0, e1⟩ := whole_sorts ge (by omega) x0 q0
        rw [← s01, ← s01, e0, e1]
      have e : n = k := Int.le_antisymm (end_mono hgw hg hth hn hk) (end_mono hg hgw (fun q q0 => (hth q q0).symm) hk hn)
      subst e
      refine ⟨rfl, ?_⟩
      rw [decide_eq_true rfl]
      exact q _ ((s06.trans s7).trans s8)
theorem ok__law_done {fD fP fO fM fW fC fL fS fH fV fN f : Addr} {fdD fdP fdO fdM fdW fdC fdL fdS fdH fdV fdN fd : FuncData} (F : Fun K "_law_done" "_law_done" s__law_done f fd) (bi : Bi mg) (C__law_draw : Cal P w K mg base "_law_draw" P__law_draw 2 spDraw fD fdD) (C__law_spot : Cal P w K mg base "_law_spot" P__law_spot 4 spSpotM fP fdP) (C_from_on : Cal P w K mg base "from_on" P_from_on 3 spFromOn fO fdO)
    (C__law_model_from : Cal P w K mg base "_law_model_from" P__law_model_from 2 spModelFrom fM fdM) (C__law_within : Cal P w K mg base "_law_within" P__law_within 1 spWithin fW fdW) (C_cut_off : Cal P w K mg base "cut_off" P_cut_off 2 spCutOff fC fdC) (C_let_go : Cal P w K mg base "let_go" P_let_go 2 spLetGo fL fdL)
    (C__law_strand : Cal P w K mg base "_law_strand" P__law_strand 5 spStrandP fS fdS) (C_behind : Cal P w K mg base "behind" P_behind 2 spBehind fH fdH) (C__law_moved : Cal P w K mg base "_law_moved" P__law_moved 1 spMovedM fV fdV) (C__law_model : Cal P w K mg base "_law_model" P__law_model 2 spModel fN fdN) : FnOk P w K mg base CX0 6 f fd P__law_done spDone73 := by
  refine F.ok sc__law_done (fun vs H Q E h => ?_) (fun cdv A outer s H vs Q E hr h => ?_)
  · obtain ⟨p, l, T, a, m, Ls, C, small, rfl, _⟩ := h
    rfl
  · obtain ⟨p, l, T, a, m, Ls, C, small, rfl, hp, hT, hs, hM, hl, hC1, hC2, ge, q⟩ := h
    have hu64 := hr.units
    have hg : ∀ L ∈ Ls, GoodL L := fun L hL => (ge L hL).good (by omega)
    have hq : ∀ b : Int, 0 < b → b ≤ 1000 → CDivW 0 b := fun b h0 h1 => wide_div (b := 10) h0 (by omega) (by decide) (by decide)
    refine ⟨_, (pss_cons (ps_set (i := 4) sc__law_done.nd rfl (.inl rfl) (pe_call (C__law_draw.G.mono (by decide)) hr (by rfl) C__law_draw.g C__law_draw.kp C__law_draw.b .nil pass0 (pa_cons (pv 0) (pa_cons pe_int pa_nil))))
    (C8.pss_cut (ps_if (pw_or (pt_cmpR op_eq (pv 4) pe_int (nomark _)) (pw_or1 (pt_cmpR op_eq (pv 4) pe_int (nomark _)))).pt
      (pss_cons (ps_set (i := 5) sc__law_done.nd rfl (.inr rfl) (pe_call (C__law_spot.G.mono (by decide)) hr (by rfl) C__law_spot.g C__law_spot.kp C__law_spot.b .nil pass0 (pa_cons (pv 0) (pa_cons (pv 2) (pa_cons pe_int pa_nil)))))
        (pss_cons (ps_if (pt_cmpR op_eq (pv 4) pe_int (nomark _))
          (pss_one (ps_ret (pe_tup (pa_cons (pe_call (C_from_on.G.mono (by decide)) hr (by rfl) C_from_on.g C_from_on.kp C_from_on.b .nil pass0 (pa_cons (pv 1) (pa_cons (pv 5) pa_nil))) (pa_cons (pe_call (C__law_model_from.G.mono (by decide)) hr (by rfl) C__law_model_from.g C__law_model_from.kp C__law_model_from.b .nil pass0 (pa_cons (pv 2) (pa_cons (pv 5) pa_nil))) pa_nil)))))
          pss_nil)
        (pss_cons (ps_setLc (i := 9) (own := [("_law_sort", 6), ("_law_at_here", 7), ("_law_parts_here", 8)]) (g := (gTup K 3 (gCons (gName 6) (gCons (gName 7) (gCons (gName 8) gNil))))) rfl sc__law_done.nd rfl rfl (sw_true rfl rfl rfl (by decide +kernel)) (pi_list (pv 2)) (blkOk_by (N := N__law_done) (sc := defScope s__law_done) (by decide +kernel)) (fun _ _ _ _ _ => (pg_tup rfl (pgs_cons (pg_name (i := 6) sc__law_done.nd rfl (.inl rfl) (.inr rfl)) (pgs_cons (pg_name (i := 7) sc__law_done.nd rfl (.inl rfl) (.inr rfl)) (pgs_cons (pg_name (i := 8) sc__law_done.nd rfl (.inl rfl) (.inr rfl)) pgs_nil))))) (fun _ _ _ _ _ => (pts_one (pt_cmpR op_lt (pv 7) (pv 5) (nomark _)))) (fun _ _ _ _ _ => (pe_tup (pa_cons (pv 6) (pa_cons (pv 7) (pa_cons (pe_call (C__law_within.G.mono (by decide)) hr (by rfl) C__law_within.g C__law_within.kp C__law_within.b .nil pass0 (pa_cons (pv 8) (pa_cons pe_int (pa_cons (pv 5) pa_nil)))) pa_nil))))))
        (pss_one (ps_ret (pe_tup (pa_cons (pe_call (C_cut_off.G.mono (by decide)) hr (by rfl) C_cut_off.g C_cut_off.kp C_cut_off.b .nil pass0 (pa_cons (pv 1) (pa_cons (pv 5) pa_nil))) (pa_cons (pv 9) pa_nil))))))))
      pss_nil)
    (C8.pss_cut (ps_if (pw_and (pt_cmpR op_eq (pv 4) pe_int (nomark _)) (pw_and1 (pt_cmpR (op_neD hu64) (pv 1) (pe_tup pa_nil) (nomark _)))).pt
      (pss_cons (ps_set (i := 10) sc__law_done.nd rfl (.inl rfl) (pe_call (C__law_draw.G.mono (by decide)) hr (by rfl) C__law_draw.g C__law_draw.kp C__law_draw.b .nil pass0 (pa_cons (pv 0) (pa_cons (pe_callB call_len_seq (by rfl) bi.m_len (by decide +kernel) (pa_cons (pv 1) pa_nil)) pa_nil))))
        (pss_cons (ps_asg (pe_ix ix_list (pv 2) (pv 10) (fun _ _ => rfl)) (pg_tup rfl (pgs_cons (pg_name (i := 6) sc__law_done.nd rfl (.inl rfl)) (pgs_cons (pg_name (i := 7) sc__law_done.nd rfl (.inl rfl)) (pgs_cons (pg_name (i := 8) sc__law_done.nd rfl (.inl rfl)) pgs_nil)))))
        (pss_cons (ps_set (i := 5) sc__law_done.nd rfl (.inr rfl) (pe_call (C__law_spot.G.mono (by decide)) hr (by rfl) C__law_spot.g C__law_spot.kp C__law_spot.b .nil pass0 (pa_cons (pv 0) (pa_cons (pv 2) (pa_cons (pe_op op_add (pv 7) pe_int) pa_nil)))))
        (pss_cons (ps_set (i := 11) sc__law_done.nd rfl (.inl rfl) (pe_tup (pa_cons (pv 6) (pa_cons (pv 7) (pa_cons (pe_call (C__law_within.G.mono (by decide)) hr (by rfl) C__law_within.g C__law_within.kp C__law_within.b .nil pass0 (pa_cons (pv 8) (pa_cons pe_int (pa_cons (pv 5) pa_nil)))) pa_nil)))))
        (pss_one (ps_ret (pe_tup (pa_cons (pe_call (C_let_go.G.mono (by decide)) hr (by rfl) C_let_go.g C_let_go.kp C_let_go.b .nil pass0 (pa_cons (pv 1) (pa_cons (pv 10) (pa_cons (pv 5) pa_nil)))) (pa_cons (pe_op op_cat (pe_op op_cat (pe_slice sl_list (pv 2) po_none (po_some (pv 10))) (pe_lst (pa_cons (pv 11) pa_nil))) (pe_slice sl_list (pv 2) (po_some (pe_op op_add (pv 10) pe_int)) po_none)) pa_nil)))))))))
      pss_nil)
    (pss_cons (ps_asg (pe_tup (pa_cons (pe_call (C__law_strand.G.mono (by decide)) hr (by rfl) C__law_strand.g C__law_strand.kp C__law_strand.b .nil pass0 (pa_cons (pv 0) (pa_cons pe_int (pa_cons (pv 3) pa_nil)))) (pa_cons (pe_call (C__law_spot.G.mono (by decide)) hr (by rfl) C__law_spot.g C__law_spot.kp C__law_spot.b .nil pass0 (pa_cons (pv 0) (pa_cons (pv 2) (pa_cons pe_int pa_nil)))) pa_nil))) (pg_tup rfl (pgs_cons (pg_name (i := 12) sc__law_done.nd rfl (.inl rfl)) (pgs_cons (pg_name (i := 5) sc__law_done.nd rfl (.inr rfl)) pgs_nil))))
    (pss_one (ps_ret (pe_tup (pa_cons (pe_call (C_behind.G.mono (by decide)) hr (by rfl) C_behind.g C_behind.kp C_behind.b .nil pass0 (pa_cons (pv 1) (pa_cons (pv 12) (pa_cons (pv 5) pa_nil)))) (pa_cons (pe_op op_cat (pv 2) (pe_lc (own := [("_law_one", 13)]) (g := (gName 13)) (tt := tYes) rfl sc__law_done.nd (pi_list (pe_call (C__law_model.G.mono (by decide)) hr (by rfl) C__law_model.g C__law_model.kp C__law_model.b .nil pass0 (pa_cons (pv 12) pa_nil))) (blkOk_by (N := N__law_done) (sc := defScope s__law_done) (by decide +kernel)) (fun _ _ _ _ _ => (pg_name (i := 13) sc__law_done.nd rfl (.inl rfl) (.inr rfl))) (fun _ _ _ _ _ => pts_nil) (fun _ _ _ _ _ => (pe_call (C__law_moved.G.mono (by decide)) hr (by rfl) C__law_moved.g C__law_moved.kp C__law_moved.b .nil pass0 (pa_cons (pv 13) (pa_cons (pv 5) pa_nil)))))) pa_nil))))))))), ?_⟩
    refine ⟨_, rfl, p, l, T, 5, rfl, hp, by omega, hq _ (by omega) (by omega), fun way H1 w0 w1 hp1 k1 => ?_⟩
    have hs1 := hs.mono (k1.tups hp)
    have hM1 := hM.kx (KX.keep k1 hp)
    have hp1' : T + 1 < 2 ^ 37 := by omega
    refine ⟨fun σ' H' => σ' = [some (.ref p), some (.ref a), some (.ref m), some (.bl small), some (.int way), none, none, none, none, none, none, none, none, none] ∧ H' = H1, ?_, fun σ' H' hm => ?_⟩
    · -- cut off, from on
      have spotQ : ∀ (R : Int → Hp → Prop), (∀ (H2 : Hp) (x : Int), Pot H2 p l (T + 5) → Keep p l H1 H2 → 0 ≤ x → x ≤ C + 2 ^ 129 → R x H2) → ∃ (p' l' a' : Addr) (T' : Nat) (Ls' : List Lw) (least C' : Int), [V.ref p, V.ref m, V.int 0] = [.ref p', .ref a', .int least] ∧ Pot H1 p' l' T' ∧ T' < 2 ^ 37 ∧ ModAt [p', l'] H1 a' (Ls'.map moOf) ∧ Ls'.length ≤ 60 ∧ 2 ^ 126 ≤ C' ∧ C' ≤ 2 ^ 139 ∧ (∀ L ∈ Ls', GoodE C' L) ∧ least ≤ C' ∧ ∀ (H' : Hp) (n : Int), Pot H' p' l' (T' + 4) → Keep p' l' H1 H' → least ≤ n → n ≤ C' + 2 ^ 129 → R n H' := fun R hR =>
        ⟨p, l, m, T + 1, Ls, 0, C, rfl, hp1, hp1', hM1, by omega, by omega, by omega, ge, by omega, fun H' n h1 h2 h3 h4 => hR H' n h1 h2 h3 h4⟩
      have hw : way = 1 ∨ way = 2 ∨ (way ≠ 1 ∧ way ≠ 2) := by omega
      rcases hw with rfl | rfl | ⟨c1, c2⟩
      · refine ⟨_, rfl, rfl, _, rfl, iteEqT (decide_eq_true rfl) ?_⟩
        refine ⟨_, rfl, _, rfl, spotQ _ fun H2 x hp2 k2 x0 x1 => ?_⟩
        have hs2 := hs1.mono (k2.tups hp1)
        obtain ⟨nmX, as, em, hE⟩ := hM1.kx (KX.keep k2 hp1)
        have hal := hE.1
        rw [List.length_map] at hal
        have hX := Ext.pot hp2
        refine ⟨_, rfl, rfl, _, rfl, iteEqF (decide_eq_false (fun h => by injection h with h; exact absurd h (by decide))) ?_⟩
        refine ⟨_, rfl, m, rfl, ⟨_, SqL.of em⟩, fun D nD => ?_⟩
        have nDX := hX.fresh nD
        refine lc_list (xs := as.map V.ref) (fun i H' => Same H2 H' ∧ Grow [p, l] H' D ((belowOf x (Ls.take i)).map moOf)) ⟨same_new (Same.refl _) nD, Grow.nil nDX⟩ (fun i H' hi hm => SqL.of (hm.1 _ _ em)) (fun i v H' hx hm => ?_) (fun H' hm => ?_)
        · obtain ⟨sm, hG⟩ := hm
          obtain ⟨b, m2, rfl, _, em2, nb, t, eb, tb, nt⟩ := hE.get hx
          rw [List.getElem?_map] at em2
          obtain ⟨L, eL, rfl⟩ := Option.map_eq_some_iff.mp em2
          have gL := hg L (List.mem_of_getElem? eL)
          have hil : i < Ls.length := (List.getElem?_eq_some_iff.mp eL).1
          have hln : (moOf L).pts.length ≤ 10 := law_len10 gL
          have ht : Ls.take (i + 1) = Ls.take i ++ [L] := by
            rw [List.take_add_one, eL]
            rfl
          obtain ⟨cs, eD, hcl⟩ := hG.at
          have hXD : Ext (D :: [p, l]) H' := (hX.same sm).cons eD
          refine ⟨b, _, rfl, SqT.of (sm _ _ eb), rfl, _, _, rfl, _, _, rfl, _, _, rfl, rfl, rfl, ?_⟩
          refine ⟨_, rfl, _, rfl, _, _, rfl, rfl, _, rfl, ?_⟩
          rw [ht, below_snoc]
          by_cases hlt : L.pl < x
          · rw [if_pos hlt, decide_eq_true (show (moOf L).pl < x from hlt)]
            refine iteT ?_
            refine ⟨_, rfl, _, rfl, _, rfl, _, rfl, D :: [p, l], t, _, 0, some x, rfl, hXD, TableAt.same sm tb, by omega, fun H3 R s3 nR hR => ⟨(by show 3 ≤ sizeLine; decide), fun z nz => ?_⟩⟩
            have sz : Same H3 (upd H3 z (.tup [.int (moOf L).so, .int (moOf L).pl, .ref R])) := same_new (Same.refl _) nz
            have hmo : MoAt (D :: [p, l]) (upd H3 z (.tup [.int (moOf L).so, .int (moOf L).pl, .ref R])) z (moOf (letL L x)) := by
              rw [← mo_let gL x]
              exact ⟨(hXD.same s3).fresh nz, R, upd_same, TableAt.same sz hR, nR⟩
            have s13 := s3.trans sz
            refine ⟨_, s13 _ _ eD, ?_, same_mine (sm.trans s13) nD, ?_⟩
            · have h1 := below_len x (Ls.take i)
              rw [List.length_take] at h1
              rw [List.length_map, hcl, List.length_map]
              exact small1000 (by omega)
            · rw [List.map_append]
              exact (hG.same s13).snoc (s13 _ _ eD) hmo
          · rw [if_neg hlt, decide_eq_false (show ¬ (moOf L).pl < x from hlt), List.append_nil]
            exact iteF ⟨sm, hG⟩
        · obtain ⟨sm, hG⟩ := hm
          rw [List.length_map, hal, List.take_length] at hG
          refine ⟨_, rfl, _, rfl, a, Ls, x, rfl, hs2.mono (Tups.same sm), by omega, fun H3 o s3 no ho => ?_⟩
          refine ⟨_, rfl, (by show 2 ≤ sizeLine; decide), fun r nr => ?_⟩
          have sr := same_new (o := .tup [.ref o, .ref D]) (Same.refl _) nr
          have sa := (sm.trans s3).trans sr
          refine q _ r o D (belowOf x Ls) ((hp2.same sa).mono (by omega)) ((k1.trans k2).trans (Same.keep sa)) upd_same (ho.mono (Tups.same sr)) (hG.mod.same (s3.trans sr)) ?_ (goodE_below ge (by omega) (by omega))
          have := below_len x Ls
          omega
      · refine ⟨_, rfl, rfl, _, rfl, iteEqF (decide_eq_false (fun h => by injection h with h; exact absurd h (by decide))) ⟨_, rfl, rfl, _, rfl, iteEqT (decide_eq_true rfl) ?_⟩⟩
        refine ⟨_, rfl, _, rfl, spotQ _ fun H2 x hp2 k2 x0 x1 => ?_⟩
        have hs2 := hs1.mono (k2.tups hp1)
        have hM2 := hM1.kx (KX.keep k2 hp1)
        refine ⟨_, rfl, rfl, _, rfl, iteEqT (decide_eq_true rfl) ?_⟩
        refine ⟨_, rfl, _, rfl, a, Ls, x, rfl, hs2, by omega, (fun L hL => (hg L hL).1.2.1), fun H3 o s3 no ho => ?_⟩
        refine ⟨_, rfl, _, rfl, [p, l], m, Ls, x, rfl, (Ext.pot hp2).same s3, hM2.same s3, by omega, hg, fun H4 o2 s4 hm4 => ⟨(by show 2 ≤ sizeLine; decide), fun r nr => ?_⟩⟩
        have sr := same_new (o := .tup [.ref o, .ref o2]) (Same.refl _) nr
        have sa := (s3.trans s4).trans sr
        refine q _ r o o2 (aboveOf x Ls) ((hp2.same sa).mono (by omega)) ((k1.trans k2).trans (Same.keep sa)) upd_same (ho.mono (Tups.same (s4.trans sr))) (hm4.same sr) ?_ (fun L hL => (goodE_above ge (by omega) x0 L hL).up (by omega))
        have := above_len x Ls
        omega
      · refine ⟨_, rfl, rfl, _, rfl, iteEqF (decide_eq_false (fun h => by injection h with h; exact c1 h)) ⟨_, rfl, rfl, _, rfl, iteEqF (decide_eq_false (fun h => by injection h with h; exact c2 h)) ?_⟩⟩
        exact ⟨rfl, rfl⟩
    obtain ⟨rfl, rfl⟩ := hm
    refine ⟨fun σ' H2 => σ' = [some (.ref p), some (.ref a), some (.ref m), some (.bl small), some (.int way), none, none, none, none, none, none, none, none, none] ∧ Same H' H2, ?_, fun σ' H2 hm => ?_⟩
    · refine ⟨_, rfl, rfl, _, rfl, ite2 (fun e => ?_) (fun _ => ⟨rfl, Same.refl _⟩)⟩
      refine ⟨_, rfl, Nat.zero_le _, fun Z nZ => ?_⟩
      have sZ : Same H' (upd H' Z (.tup [])) := same_new (Same.refl _) nZ
      have eZ : upd H' Z (.tup []) Z = some (.tup []) := upd_same
      refine ⟨strandD Ls, .tuple [], (hs1.mono (Tups.same sZ)).dp, .tup (SqT.of eZ) .nil, (strand_sh hg).shaped (Nat.le_trans (strand_depth Ls) (by decide)), rfl, _, rfl, ?_⟩
      generalize upd H' Z (.tup []) = H2 at sZ eZ
      by_cases hne : Ls = []
      · subst hne
        exact iteF ⟨rfl, sZ⟩
      refine ite2 (fun _ => ?_) (fun _ => ⟨rfl, sZ⟩)
      have hlpos : 0 < Ls.length := List.length_pos_iff.mpr hne
      obtain ⟨as0, ea, la⟩ := hs1.mono (Tups.same sZ)
      have hal0 := la.1
      have hp2 := hp1.same sZ
      refine ⟨_, rfl, _, rfl, a, _, rfl, .inr (SqT.of ea), p, l, T + 1, _, rfl, hp2, by omega, ?_, fun d H3 d0 d1 hp3 k3 => ?_⟩
      · rw [List.length_map, hal0]
        exact hq _ (by omega) (by omega)
      rw [List.length_map, hal0] at d1
      obtain ⟨n, rfl⟩ : ∃ n : Nat, d = n := ⟨d.toNat, by omega⟩
      have hn : n < Ls.length := by omega
      have hs3 := (hs1.mono (Tups.same sZ)).mono (k3.tups hp2)
      obtain ⟨nmX, as, em, hE⟩ := (hM1.same sZ).kx (KX.keep k3 hp2)
      have hal := hE.1
      rw [List.length_map] at hal
      have eL : Ls[n]? = some Ls[n] := List.getElem?_eq_getElem hn
      generalize Ls[n] = L at eL
      have ha : (as.map V.ref)[n]? = some (.ref (as[n]'(by omega))) := by
        rw [List.getElem?_map, List.getElem?_eq_getElem (by omega)]
        rfl
      obtain ⟨b, m2, eb0, _, em2, nb, t, eb, tb, nt⟩ := hE.get ha
      rw [List.getElem?_map, eL] at em2
      have em2 : moOf L = m2 := Option.some.inj em2
      subst em2
      rw [eb0] at ha
      have gL := hg L (List.mem_of_getElem? eL)
      have gE := ge L (List.mem_of_getElem? eL)
      have hln : (moOf L).pts.length ≤ 10 := law_len10 gL
      refine ⟨_, rfl, _, rfl, m, _, (n : Int), _, rfl, rfl, SqL.of em, atI_nat ha, ?_⟩
      refine ⟨b, _, rfl, SqT.of eb, rfl, _, _, rfl, _, _, rfl, _, _, rfl, rfl, ?_⟩
      have hpl := gE.2.2.2.2.1
      have hpl0 := gE.2.2.2.1
      refine ⟨_, rfl, _, rfl, _, rfl, _, _, rfl, rfl, p, l, m, T + 1 + 1, Ls, L.pl + 1, C, rfl, hp3, by omega, ⟨nmX, as, em, hE⟩, by omega, by omega, by omega, ge, by omega, fun H4 x hp4 k4 x0 x1 => ?_⟩
      have hs4 := hs3.mono (k4.tups hp3)
      have kx4 := KX.keep k4 hp3
      have em4 := kx4.2 _ _ nmX em
      have hE4 := hE.mono fun a m h => h.kx kx4
      have tb4 := tb.kx nt kx4
      have hX4 := Ext.pot hp4
      refine ⟨_, rfl, _, rfl, _, rfl, _, rfl, [p, l], t, _, 0, some x, rfl, hX4, tb4, by omega, fun H5 R s5 nR hR => ⟨(by show 3 ≤ sizeLine; decide), fun z nz => ?_⟩⟩
      have sz : Same H5 (upd H5 z (.tup [.int (moOf L).so, .int (moOf L).pl, .ref R])) := same_new (Same.refl _) nz
      have hmo : MoAt [p, l] (upd H5 z (.tup [.int (moOf L).so, .int (moOf L).pl, .ref R])) z (moOf (letL L x)) := by
        rw [← mo_let gL x]
        exact ⟨(hX4.same s5).fresh nz, R, upd_same, TableAt.same sz hR, nR⟩
      generalize upd H5 z (.tup [.int (moOf L).so, .int (moOf L).pl, .ref R]) = H6 at sz hmo
      have s46 := s5.trans sz
      refine ⟨_, rfl, _, rfl, _, rfl, a, Ls, n, x, L, rfl, hs4.mono (Tups.same s46), by omega, eL, fun H7 o s7 no ho => ?_⟩
      have s47 := s46.trans s7
      have em7 := s47 _ _ em4
      refine ⟨_, rfl, _, rfl, _, rfl, m, _, rfl, SqL.of em7, fun U1 nU1 => ?_⟩
      rw [cut_take, ← List.map_take]
      have sU1 : Same H7 (upd H7 U1 (.lst ((as.take n).map V.ref))) := same_new (Same.refl _) nU1
      have eU1 : upd H7 U1 (.lst ((as.take n).map V.ref)) U1 = some (.lst ((as.take n).map V.ref)) := upd_same
      generalize upd H7 U1 (.lst ((as.take n).map V.ref)) = H8 at sU1 eU1
      refine ⟨_, rfl, (by show 1 ≤ sizeLine; decide), fun U2 nU2 => ?_⟩
      have sU2 : Same H8 (upd H8 U2 (.lst [.ref z])) := same_new (Same.refl _) nU2
      have eU2 : upd H8 U2 (.lst [.ref z]) U2 = some (.lst ([z].map V.ref)) := upd_same
      generalize upd H8 U2 (.lst [.ref z]) = H9 at sU2 eU2
      refine ⟨U1, U2, _, _, rfl, rfl, sU2 _ _ eU1, eU2, ?_, fun U3 nU3 => ?_⟩
      · rw [List.length_map, List.length_map, List.length_take]
        exact Nat.le_of_lt (small1000 (by show min n as.length + 1 ≤ 1000; omega))
      rw [← List.map_append]
      have sU3 : Same H9 (upd H9 U3 (.lst ((as.take n ++ [z]).map V.ref))) := same_new (Same.refl _) nU3
      have eU3 : upd H9 U3 (.lst ((as.take n ++ [z]).map V.ref)) U3 = some (.lst ((as.take n ++ [z]).map V.ref)) := upd_same
      generalize upd H9 U3 (.lst ((as.take n ++ [z]).map V.ref)) = H10 at sU3 eU3
      have s710 := (sU1.trans sU2).trans sU3
      refine ⟨_, rfl, _, rfl, _, _, rfl, rfl, _, rfl, m, _, rfl, SqL.of (s710 _ _ em7), fun U4 nU4 => ?_⟩
      rw [show (n : Int) + 1 = ((n + 1 : Nat) : Int) by omega, cut_drop _ _ (by rw [List.length_map]; omega), ← List.map_drop]
      have sU4 : Same H10 (upd H10 U4 (.lst ((as.drop (n + 1)).map V.ref))) := same_new (Same.refl _) nU4
      have eU4 : upd H10 U4 (.lst ((as.drop (n + 1)).map V.ref)) U4 = some (.lst ((as.drop (n + 1)).map V.ref)) := upd_same
      generalize upd H10 U4 (.lst ((as.drop (n + 1)).map V.ref)) = H11 at sU4 eU4
      refine ⟨U3, U4, _, _, rfl, rfl, sU4 _ _ eU3, eU4, ?_, fun U5 nU5 => ?_⟩
      · rw [List.length_map, List.length_map, List.length_append, List.length_take, List.length_drop]
        exact Nat.le_of_lt (small1000 (by show min n as.length + 1 + (as.length - (n + 1)) ≤ 1000; omega))
      rw [← List.map_append]
      have sU5 : Same H11 (upd H11 U5 (.lst ((as.take n ++ [z] ++ as.drop (n + 1)).map V.ref))) := same_new (Same.refl _) nU5
      have eU5 : upd H11 U5 (.lst ((as.take n ++ [z] ++ as.drop (n + 1)).map V.ref)) U5 = some (.lst ((as.take n ++ [z] ++ as.drop (n + 1)).map V.ref)) := upd_same
      generalize upd H11 U5 (.lst ((as.take n ++ [z] ++ as.drop (n + 1)).map V.ref)) = H12 at sU5 eU5
      have s711 := s710.trans sU4
      have s412 := (s47.trans s711).trans sU5
      have s612 := (s7.trans s711).trans sU5
      refine ⟨(by show 2 ≤ sizeLine; decide), fun r nr => ?_⟩
      have sr := same_new (o := .tup [.ref o, .ref U5]) (Same.refl _) nr
      have s4r := s412.trans sr
      have nU5X : U5 ∉ [p, l] := (hX4.same (s47.trans s711)).fresh nU5
      have hset : (Ls.set n (letL L x)).map moOf = (Ls.map moOf).take n ++ [moOf (letL L x)] ++ (Ls.map moOf).drop (n + 1) := by
        rw [List.set_eq_take_append_cons_drop, if_pos hn, List.map_append, List.map_take, List.map_cons, List.map_drop, List.append_assoc]
        rfl
      refine q _ r o U5 (Ls.set n (letL L x)) ((hp4.same s4r).mono (by omega)) ((((k1.trans (Same.keep sZ)).trans k3).trans k4).trans (Same.keep s4r)) upd_same (ho.mono (Tups.same ((s711.trans sU5).trans sr))) ⟨nU5X, _, sr _ _ eU5, ?_⟩ ?_ ?_
      · rw [hset]
        have e4 := hE4.mono fun a m h => h.same s4r
        exact ((e4.take n).app (Each.one (hmo.same (s612.trans sr)))).app (e4.drop (n + 1))
      · rw [List.length_set]
        omega
      · intro M hM2
        rcases List.mem_or_eq_of_mem_set hM2 with h | h
        · exact (ge M h).up (by omega)
        · rw [h]
          exact gE.let (by omega) (by omega) (by omega)
    obtain ⟨rfl, sm⟩ := hm
    have hp2 := hp1.same sm
    have hs2 := hs1.mono (Tups.same sm)
    have hM2 := hM1.same sm
    refine ⟨_, rfl, _, rfl, p, l, T + 1, 8, small, rfl, hp2, by omega, rfl, fun H3 o Ms hp3 k3 ho hlo hgo => ?_⟩
    have hs3 := hs2.mono (k3.tups hp2)
    have hM3 := hM2.kx (KX.keep k3 hp2)
    refine ⟨_, rfl, _, rfl, p, l, m, T + 1 + 20000, Ls, 0, C, rfl, hp3, by omega, hM3, by omega, by omega, by omega, ge, by omega, fun H4 x hp4 k4 x0 x1 => ?_⟩
    refine ⟨(by show 2 ≤ sizeLine; decide), fun t nt => ?_⟩
    have st : Same H4 (upd H4 t (.tup [.ref o, .int x])) := same_new (Same.refl _) nt
    have et : upd H4 t (.tup [.ref o, .int x]) t = some (.tup [.ref o, .int x]) := upd_same
    have hs4 := (hs3.mono (k4.tups hp3)).mono (Tups.same st)
    have hM4 := (hM3.kx (KX.keep k4 hp3)).same st
    have ho4 := (ho.mono (k4.tups hp3)).mono (Tups.same st)
    have hp5 := hp4.same st
    refine ⟨t, _, rfl, SqT.of et, rfl, _, _, rfl, _, _, rfl, rfl, ?_⟩
    generalize upd H4 t (.tup [.ref o, .int x]) = H5 at st et hs4 hM4 ho4 hp5
    refine ⟨_, rfl, _, rfl, _, rfl, a, o, Ls, Ms, x, rfl, hs4, ho4, by omega, fun H6 b s6 hb => ?_⟩
    have hX6 := (Ext.pot hp5).same s6
    have hgo' : ∀ L ∈ Ms, GoodL L := fun L hL => (hgo L hL).good (by decide)
    refine ⟨_, rfl, _, rfl, [p, l], o, Ms, rfl, hX6, ho4.mono (Tups.same s6), by omega, hgo', fun H7 o2 s7 hm7 => ?_⟩
    obtain ⟨no2X, bs, eo2, hEo⟩ := hm7
    have hbl := hEo.1
    rw [List.length_map] at hbl
    have hX7 := hX6.same s7
    refine ⟨o2, rfl, ⟨_, SqL.of eo2⟩, fun D nD => ?_⟩
    have nDX := hX7.fresh nD
    refine lc_list (xs := bs.map V.ref) (fun i H' => Same H7 H' ∧ Grow [p, l] H' D (((Ms.take i).map fun L => movL L x).map moOf)) ⟨same_new (Same.refl _) nD, Grow.nil nDX⟩ (fun i H' hi hm => SqL.of (hm.1 _ _ eo2)) (fun i v H' hx hm => ?_) (fun H' hm => ?_)
    · obtain ⟨sm2, hG⟩ := hm
      obtain ⟨c, m2, rfl, _, em2, nb, t2, eb, tb, nt2⟩ := hEo.get hx
      rw [List.getElem?_map] at em2
      obtain ⟨L, eL, rfl⟩ := Option.map_eq_some_iff.mp em2
      have hln : (moOf L).pts.length ≤ 10 := law_len10 (hgo' L (List.mem_of_getElem? eL))
      have hil : i < Ms.length := (List.getElem?_eq_some_iff.mp eL).1
      obtain ⟨cs, eD, hcl⟩ := hG.at
      have hXD : Ext (D :: [p, l]) H' := (hX7.same sm2).cons eD
      refine ⟨rfl, yesIte ?_⟩
      refine ⟨_, rfl, _, rfl, D :: [p, l], c, moOf L, x, t2, rfl, hXD, sm2 _ _ eb, TableAt.same sm2 tb, by omega, fun H8 z s8 hz => ?_⟩
      have eD8 := s8 _ _ eD
      refine ⟨_, eD8, ?_, same_mine (sm2.trans s8) nD, ?_⟩
      · rw [List.length_map, hcl, List.length_map, List.length_map, List.length_take]
        exact small1000 (by omega)
      · rw [List.take_add_one, eL]
        show Grow [p, l] _ D (((Ms.take i ++ [L]).map fun L => movL L x).map moOf)
        rw [List.map_append, List.map_append]
        show Grow [p, l] _ D (_ ++ [moOf (movL L x)])
        rw [mo_mov]
        exact (hG.same s8).snoc eD8 hz
    · obtain ⟨sm2, hG⟩ := hm
      rw [List.length_map, hbl, List.take_length] at hG
      have s57 := s6.trans (s7.trans sm2)
      obtain ⟨nmX, as, em, hE⟩ := hM4.same s57
      obtain ⟨nDX', cs, eD, hED⟩ := hG.mod
      have hal := hE.1
      have hcl := hED.1
      rw [List.length_map] at hal
      rw [List.length_map, List.length_map] at hcl
      refine ⟨m, D, _, _, rfl, rfl, em, eD, ?_, fun R nR => ?_⟩
      · rw [List.length_map, List.length_map]
        exact Nat.le_of_lt (small1000 (by omega))
      rw [← List.map_append]
      have sR : Same H' (upd H' R (.lst ((as ++ cs).map V.ref))) := same_new (Same.refl _) nR
      have eR : upd H' R (.lst ((as ++ cs).map V.ref)) R = some (.lst ((as ++ cs).map V.ref)) := upd_same
      generalize upd H' R (.lst ((as ++ cs).map V.ref)) = H9 at sR eR
      refine ⟨(by show 2 ≤ sizeLine; decide), fun r nr => ?_⟩
      have sr := same_new (o := .tup [.ref b, .ref R]) (Same.refl _) nr
      have sRr := sR.trans sr
      have s5r := s57.trans sRr
      refine q _ r b R (Ls ++ Ms.map fun L => movL L x) ((hp5.same s5r).mono (by omega)) (((((k1.trans (Same.keep sm)).trans k3).trans k4).trans (Same.keep st)).trans (Same.keep s5r)) upd_same (hb.mono (Tups.same ((s7.trans sm2).trans sRr))) ⟨(hX7.same sm2).fresh nR, _, sr _ _ eR, ?_⟩ ?_ ?_
      · rw [List.map_append]
        exact (hE.mono fun a m h => h.same sRr).app (hED.mono fun a m h => h.same sRr)
      · rw [List.length_append, List.length_map]
        omega
      · intro M hM'
        rcases List.mem_append.mp hM' with h | h
        · exact (ge M h).up (by omega)
        · obtain ⟨N, hN, rfl⟩ := List.mem_map.mp h
          exact ((hgo N hN).movB x0).up (by omega)
theorem ok_law {fP fD fS fM fN fR fT fA f : Addr} {fdP fdD fdS fdM fdN fdR fdT fdA fd : FuncData} (F : Fun K "law" "law" s_law f fd) (bi : Bi mg)
    (C__law_pot : Cal P w K mg base "_law_pot" P__law_pot 1 (spPot K) fP fdP) (C__law_draw : Cal P w K mg base "_law_draw" P__law_draw 2 spDraw fD fdD) (C__law_strand : Cal P w K mg base "_law_strand" P__law_strand 5 spStrandP fS fdS) (C__law_model : Cal P w K mg base "_law_model" P__law_model 2 spModel fM fdM)
    (C__law_done : Cal P w K mg base "_law_done" P__law_done 6 spDone73 fN fdN) (C__law_right : Cal P w K mg base "_law_right" P__law_right 7 spRight73 fR fdR) (C__law_spot : Cal P w K mg base "_law_spot" P__law_spot 4 spSpotM fT fdT) (C__law_again : Cal P w K mg base "_law_again" P__law_again 5 spAgain73 fA fdA) : FnG P w K mg base 8 f fd P_law (spLaw K) := by
  refine okG F sc_law (fun vs H Q E h => ?_) (fun cdv A outer s H vs Q E hr gd h => ?_)
  · obtain ⟨a, ns, rfl, _⟩ := h
    rfl
  · obtain ⟨a, ns, rfl, hS, hn, q⟩ := h
    have hu64 := hr.units
    refine ⟨_, (pss_cons (ps_set (i := 1) sc_law.nd rfl (.inl rfl) (pe_call (C__law_pot.G.mono (by decide)) hr (by rfl) C__law_pot.g C__law_pot.kp C__law_pot.b .nil pass0 (pa_cons (pv 0) pa_nil)))
    (pss_cons (ps_for PassesOwn.never rfl (pi_range1 rfl bi.m_range (pa_cons (pe_callB (call_max2 rfl) (by rfl) bi.m_max (by decide +kernel) (pa_cons pe_int (pa_cons (pe_callB (call_min2 rfl) (by rfl) bi.m_min (by decide +kernel) (pa_cons pe_int (pa_cons (pe_op op_fdiv (pe_callB call_len_seq (by rfl) bi.m_len (by decide +kernel) (pa_cons (pv 0) pa_nil)) pe_int) pa_nil))) pa_nil))) pa_nil)) (pg_name (i := 2) sc_law.nd rfl (.inl rfl))
      (pss_cons (ps_set (i := 3) sc_law.nd rfl (.inl rfl) (pe_cmpR op_eq (pe_call (C__law_draw.G.mono (by decide)) hr (by rfl) C__law_draw.g C__law_draw.kp C__law_draw.b .nil pass0 (pa_cons (pv 1) (pa_cons pe_int pa_nil))) pe_int (nomark _)))
        (pss_cons (ps_set (i := 4) sc_law.nd rfl (.inl rfl) (pe_call (C__law_strand.G.mono (by decide)) hr (by rfl) C__law_strand.g C__law_strand.kp C__law_strand.b .nil pass0 (pa_cons (pv 1) (pa_cons pe_int (pa_cons (pv 3) pa_nil)))))
        (pss_cons (ps_set (i := 5) sc_law.nd rfl (.inl rfl) (pe_call (C__law_model.G.mono (by decide)) hr (by rfl) C__law_model.g C__law_model.kp C__law_model.b .nil pass0 (pa_cons (pv 4) pa_nil)))
        (pss_cons (ps_for PassesOwn.never rfl (pi_range1 rfl bi.m_range (pa_cons (pe_op op_add pe_int (pe_call (C__law_draw.G.mono (by decide)) hr (by rfl) C__law_draw.g C__law_draw.kp C__law_draw.b .nil pass0 (pa_cons (pv 1) (pa_cons pe_int pa_nil)))) pa_nil)) (pg_name (i := 6) sc_law.nd rfl (.inl rfl))
          (pss_cons (ps_set (i := 7) sc_law.nd rfl (.inl rfl) (pe_callB (call_reprD gd hu64) (by rfl) bi.m_repr (by decide +kernel) (pa_cons (pv 4) pa_nil)))
            (pss_cons (ps_asg (pe_call (C__law_done.G.mono (by decide)) hr (by rfl) C__law_done.g C__law_done.kp C__law_done.b .nil pass0 (pa_cons (pv 1) (pa_cons (pv 4) (pa_cons (pv 5) (pa_cons (pv 3) pa_nil))))) (pg_tup rfl (pgs_cons (pg_name (i := 8) sc_law.nd rfl (.inl rfl)) (pgs_cons (pg_name (i := 9) sc_law.nd rfl (.inl rfl)) pgs_nil))))
            (pss_cons (ps_if (pw_or (pt_cmpR op_ne (pe_callB (call_reprD gd hu64) (by rfl) bi.m_repr (by decide +kernel) (pa_cons (pv 4) pa_nil)) (pv 7) (nomark _)) (pw_or1 (pt_not (pt_val (pe_call (C__law_right.G.mono (by decide)) hr (by rfl) C__law_right.g C__law_right.kp C__law_right.b .nil pass0 (pa_cons (pv 1) (pa_cons (pv 4) (pa_cons (pv 5) pa_nil)))))))).pt
              (pss_one (ps_ret pe_bl))
              pss_nil)
            (pss_cons (ps_par (i := 4) (j := 5) rfl sc_law.nd rfl rfl (by decide) rfl rfl (pa_cons (pv 8) (pa_cons (pv 9) pa_nil)) rfl)
            (pss_cons (ps_set (i := 10) sc_law.nd rfl (.inl rfl) (pe_call (C__law_spot.G.mono (by decide)) hr (by rfl) C__law_spot.g C__law_spot.kp C__law_spot.b .nil pass0 (pa_cons (pv 1) (pa_cons (pv 5) (pa_cons pe_int pa_nil)))))
            (pss_one (ps_if (pw_and (pt_cmpR op_lt (pe_callB call_len_seq (by rfl) bi.m_len (by decide +kernel) (pa_cons (pv 4) pa_nil)) pe_int (nomark _)) (pw_and1 (pt_not (pt_val (pe_call (C__law_again.G.mono (by decide)) hr (by rfl) C__law_again.g C__law_again.kp C__law_again.b .nil pass0 (pa_cons (pv 4) (pa_cons (pv 5) (pa_cons (pv 10) pa_nil)))))))).pt
              (pss_one (ps_ret pe_bl))
              pss_nil))))))))
        (pss_one (ps_if (pt_not (pt_val (pe_call (C__law_right.G.mono (by decide)) hr (by rfl) C__law_right.g C__law_right.kp C__law_right.b .nil pass0 (pa_cons (pv 1) (pa_cons (pv 4) (pa_cons (pv 5) pa_nil))))))
          (pss_one (ps_ret pe_bl))
          pss_nil)))))))
    (pss_one (ps_ret pe_bl)))), ?_⟩
    refine ⟨_, rfl, a, ns, rfl, hS, hn, fun H1 p l sA np nl hp => ?_⟩
    have hS1 : SqL K H1 a (ns.map V.int) := sA.seq hS
    refine ⟨_, rfl, a, _, rfl, .inl hS1, _, _, rfl, rfl, ⟨by decide, by decide⟩, _, _, rfl, _, _, rfl, _, rfl, ?_, ?_, ?_⟩
    · rw [List.length_map]
      split <;> split <;> omega
    · rw [List.length_map]
      split <;> split <;> omega
    have hq : ∀ b : Int, 0 < b → b ≤ 1000 → CDivW 0 b := fun b h0 h1 => wide_div (b := 10) h0 (by omega) (by decide) (by decide)
    generalize hN : Int.toNat _ = N
    have hN8 : N ≤ 8 := by
      rw [← hN, List.length_map]
      split <;> split <;> omega
    clear hN
    refine for_range (n := N) (fun i σ' H' => ∃ (x2 x3 x4 x5 x6 x7 x8 x9 x10 : Option V), σ' = [some (.ref a), some (.ref p), x2, x3, x4, x5, x6, x7, x8, x9, x10] ∧ Pot H' p l (200000 * i)) ⟨_, _, _, _, _, _, _, _, _, rfl, hp⟩ (fun i σ' H' hi hm => ?_) (fun σ' H' hm => ?_)
    rotate_left
    · exact q _
    obtain ⟨x2, x3, x4, x5, x6, x7, x8, x9, x10, rfl, hpi⟩ := hm
    refine ⟨_, rfl, p, l, 200000 * i, 2, rfl, hpi, by omega, hq _ (by omega) (by omega), fun d H2 d0 d1 hp2 k2 => ?_⟩
    refine ⟨rfl, ?_⟩
    generalize decide (V.int d = V.int 0) = small
    refine ⟨_, rfl, _, rfl, p, l, 200000 * i + 1, 8, small, rfl, hp2, by omega, rfl, fun H3 S Ls hp3 k3 hs3 hl3 ge3 => ?_⟩
    refine ⟨_, rfl, [p, l], S, Ls, rfl, Ext.pot hp3, hs3, by omega, (fun L hL => (ge3 L hL).good (by decide)), fun H4 M s4 hM4 => ?_⟩
    have hp4 := hp3.same s4
    refine ⟨_, rfl, p, l, 200000 * i + 1 + 20000, 6, rfl, hp4, by omega, hq _ (by omega) (by omega), fun e H5 e0 e1 hp5 k5 => ?_⟩
    refine ⟨_, _, rfl, rfl, 1 + e, rfl, by omega, by omega, ?_⟩
    have hs5 := (hs3.mono (Tups.same s4)).mono (k5.tups hp4)
    have hM5 := hM4.kx (KX.keep k5 hp4)
    clear k2 k3 hs3 hM4 s4 hp2 hp3 hp4 hpi k5
    refine for_range (n := (1 + e).toNat) (fun j σ' H' => ∃ (x6 x7 x8 x9 x10 : Option V) (S M : Addr) (Ls : List Lw) (C : Int), σ' = [some (.ref a), some (.ref p), some (.int (0 + i)), some (.bl small), some (.ref S), some (.ref M), x6, x7, x8, x9, x10] ∧ Pot H' p l (200000 * i + 20002 + 21000 * j) ∧ StrandAt H' S Ls ∧ ModAt [p, l] H' M (Ls.map moOf) ∧ Ls.length ≤ 8 + 8 * j ∧ C = 2 ^ 130 * 2 ^ j ∧ ∀ L ∈ Ls, GoodE C L) ⟨_, _, _, _, _, S, M, Ls, _, rfl, hp5.mono (by omega), hs5, hM5, hl3, rfl, fun L hL => (ge3 L hL).up (by decide)⟩ (fun j σ' H' hj hm => ?_) (fun σ' H' hm => ?_)
    · obtain ⟨x6, x7, x8, x9, x10, S, M, Ls, C, rfl, hpj, hs, hM, hl, hC, ge⟩ := hm
      have hj5 : j ≤ 5 := by omega
      have hC1 : 2 ^ 130 ≤ C ∧ C ≤ 2 ^ 135 ∧ 2 * C = 2 ^ 130 * 2 ^ (j + 1) := by
        have hj : j = 0 ∨ j = 1 ∨ j = 2 ∨ j = 3 ∨ j = 4 ∨ j = 5 := by omega
        rw [hC]
        rcases hj with rfl | rfl | rfl | rfl | rfl | rfl <;> decide
      obtain ⟨c1, c2, c3⟩ := hC1
      have hg : ∀ L ∈ Ls, GoodL L := fun L hL => (ge L hL).good (by omega)
      have sh := strand_sh hg
      have dep := strand_depth Ls
      have fit : (strandD Ls).shown.length ≤ sizeLine := sh.fits (strand_bulk hg (by omega))
      refine ⟨_, rfl, S, strandD Ls, rfl, hs.dp, sh.ok.1, sh.ok.2.1, by omega, fit, ?_⟩
      refine ⟨_, rfl, _, rfl, _, rfl, _, rfl, p, l, 200000 * i + 20002 + 21000 * j, S, M, Ls, C, small, rfl, hpj, by omega, hs, hM, by omega, c1, by omega, ge, fun H6 r S2 M2 Ms hp6 k6 er hs6 hM6 hl6 ge6 => ?_⟩
      refine ⟨r, _, rfl, SqT.of er, rfl, _, _, rfl, _, _, rfl, rfl, ?_⟩
      have hsE := hs.mono (k6.tups hpj)
      have hME := hM.kx (KX.keep k6 hpj)
      refine ⟨_, rfl, S, strandD Ls, rfl, hsE.dp, sh.ok.1, sh.ok.2.1, by omega, fit, _, rfl, rfl, _, rfl, ?_⟩
      refine iteNS rfl ?_
      refine ⟨_, rfl, _, rfl, _, rfl, p, l, 200000 * i + 20002 + 21000 * j + 20100, S, M, Ls, C, rfl, hp6, by omega, hsE, hME, by omega, by omega, by omega, ge, fun H7 hp7 k7 => ?_⟩
      refine ⟨true, rfl, iteNT ?_⟩
      have hs7 := hs6.mono (k7.tups hp6)
      have hM7 := hM6.kx (KX.keep k7 hp6)
      refine ⟨_, rfl, _, rfl, _, _, rfl, ?_⟩
      refine ⟨_, rfl, _, rfl, p, l, M2, 200000 * i + 20002 + 21000 * j + 20100 + 24, Ms, 0, 2 * C, rfl, hp7, by omega, hM7, by omega, by omega, by omega, ge6, by omega, fun H8 x hp8 k8 x0 x1 => ?_⟩
      have hs8 := hs7.mono (k8.tups hp7)
      have hM8 := hM7.kx (KX.keep k8 hp7)
      have hs8' := hs8
      obtain ⟨as, ea, la⟩ := hs8'
      have hal := la.1
      have fin : ∀ H9, Same H8 H9 → ∃ (x6 x7 x8 x9 x10 : Option V) (S M : Addr) (Ls : List Lw) (C' : Int), [some (.ref a), some (.ref p), some (.int (0 + i)), some (.bl small), some (.ref S2), some (.ref M2), some (.int (0 + j)), some (.str (strandD Ms).shown), some (.ref S2), some (.ref M2), some (.int x)] = [some (V.ref a), some (.ref p), some (.int (0 + i)), some (.bl small), some (.ref S), some (.ref M), x6, x7, x8, x9, x10] ∧ Pot H9 p l (200000 * i + 20002 + 21000 * (j + 1)) ∧ StrandAt H9 S Ls ∧ ModAt [p, l] H9 M (Ls.map moOf) ∧ Ls.length ≤ 8 + 8 * (j + 1) ∧ C' = 2 ^ 130 * 2 ^ (j + 1) ∧ ∀ L ∈ Ls, GoodE C' L := fun H9 s9 =>
        ⟨_, _, _, _, _, S2, M2, Ms, 2 * C, rfl, (hp8.same s9).mono (by omega), hs8.mono (Tups.same s9), hM8.same s9, by omega, c3, ge6⟩
      have fin2 : ∀ (y7 : Option V) H9, Same H8 H9 → ∃ (x6 x7 x8 x9 x10 : Option V) (S M : Addr) (Ls : List Lw) (C' : Int), [some (.ref a), some (.ref p), some (.int (0 + i)), some (.bl small), some (.ref S2), some (.ref M2), some (.int (0 + j)), y7, some (.ref S2), some (.ref M2), some (.int x)] = [some (V.ref a), some (.ref p), some (.int (0 + i)), some (.bl small), some (.ref S), some (.ref M), x6, x7, x8, x9, x10] ∧ Pot H9 p l (200000 * i + 20002 + 21000 * (j + 1)) ∧ StrandAt H9 S Ls ∧ ModAt [p, l] H9 M (Ls.map moOf) ∧ Ls.length ≤ 8 + 8 * (j + 1) ∧ C' = 2 ^ 130 * 2 ^ (j + 1) ∧ ∀ L ∈ Ls, GoodE C' L := fun y7 H9 s9 =>
        ⟨_, _, _, _, _, S2, M2, Ms, 2 * C, rfl, (hp8.same s9).mono (by omega), hs8.mono (Tups.same s9), hM8.same s9, by omega, c3, ge6⟩
      clear fin
      refine ⟨_, rfl, S2, _, rfl, .inr (SqT.of ea), _, _, rfl, rfl, _, rfl, ite2 (fun e => ?_) (fun _ => fin2 _ _ (Same.refl _))⟩
      have e : ((as.map V.ref).length : Int) < 31 := of_decide_eq_true e
      rw [List.length_map] at e
      refine ⟨_, rfl, _, rfl, _, rfl, [p, l], S2, M2, Ms, x, 2 * C, rfl, hs8, hM8, by omega, by omega, ge6, x0, by omega, fun H9 s9 => ?_⟩
      exact ⟨true, rfl, iteNT (fin2 _ _ s9)⟩
    · obtain ⟨x6, x7, x8, x9, x10, S, M, Ls, C, rfl, hpj, hs, hM, hl, hC, ge⟩ := hm
      have hj6 : (1 + e).toNat ≤ 6 := by omega
      have hC1 : 2 ^ 130 ≤ C ∧ C ≤ 2 ^ 136 := by
        have hj : (1 + e).toNat = 0 ∨ (1 + e).toNat = 1 ∨ (1 + e).toNat = 2 ∨ (1 + e).toNat = 3 ∨ (1 + e).toNat = 4 ∨ (1 + e).toNat = 5 ∨ (1 + e).toNat = 6 := by omega
        rw [hC]
        rcases hj with h | h | h | h | h | h | h <;> rw [h] <;> decide
      refine ⟨_, rfl, _, rfl, _, rfl, p, l, _, S, M, Ls, C, rfl, hpj, by omega, hs, hM, by omega, by omega, by omega, ge, fun H7 hp7 k7 => ?_⟩
      refine ⟨true, rfl, iteNT ?_⟩
      exact ⟨_, _, _, _, _, _, _, _, _, rfl, hp7.mono (by omega)⟩
end
/-! ### the end of a law whose def is such a one -/
theorem lawG {P : Program} {w : World} {K : PySem.W.Frag} {mg mb : Str → Option Value} {k : Nat} {fa a : Addr} {fd : FuncData} {x : Str} {sp : Sp} {t : Shared} {ws : List Value} {ns : List Int} (kin : K.In t.heap) (gl : t.heap.Ns mainGlobals mg) (bl : t.heap.Ns builtinsNs mb)
    (bb : ∀ y : Str, y ≠ "__name__" → mb y = bootBuiltins y) (nol : t.heap.NoLimit) (gn : t.gens = #[]) (ea : t.heap.get? a = some { cls := .type "list", data := .seq ws.toArray }) (ia : IntsAre ws ns) (sz : ns.length ≤ sizeLine) (hr : Room k callerA)
    (F : ∀ bs : Heap, K.In bs → bs.Ns mainGlobals mg → FnG P w K mg bs k fa fd [x] sp) (bd : ∀ (s : Shared) (u : Value), BindsTo s fd ⟨[u], []⟩ [(x, u)]) (hs : ∀ H : Hp, SqL K H a (ns.map V.int) → sp [.ref a] H (fun v _ => v = .bl true) fun _ _ _ => False) :
    codeAny (model P w) callerA (.call (.ref fa) ⟨[.ref a], []⟩) (fun r s' => r = .ok (.ret (.bool true)) ∧ OldK t.heap s'.heap ∧ s'.os = t.os ∧ AllBare s'.gens) t := by
  have va := vals_ints ia
  have key : ∀ H : Hp, Only H → SqL K H a (ns.map V.int) → HOk P w H t.heap → (∀ b, H b ≠ none → b = a) → (H a ≠ none → K.lookup a = none) → codeAny (model P w) callerA (.call (.ref fa) ⟨[.ref a], []⟩)
      (fun r s' => r = .ok (.ret (.bool true)) ∧ OldK t.heap s'.heap ∧ s'.os = t.os ∧ AllBare s'.gens) t := fun H on sq hok only notK => by
    have free : ∀ {b : Addr} {o : Obj} {es : Array DictEntry} {n : Nat}, t.heap.get? b = some o → o.data = .dict es n → H b = none := fun {b o es n} e d => by
      rcases on b with z | ⟨ob, xs, z⟩
      · exact z
      · have e' : b = a := only b (by rw [z]; exact Option.some_ne_none _)
        rw [e', ea] at e
        cases e
        cases (show Data.seq ws.toArray _ = Data.dict es n from d)
    have nsB : ∀ {b : Addr} {m : Str → Option Value}, t.heap.Ns b m → (hidT t.heap H).Ns b m := fun ⟨o, es, n, e, d, r⟩ => ⟨o, es, n, hidT_get e (free e d), d, r⟩
    have kB : K.In (hidT t.heap H) := fun b o e => hidT_get (kin b o e) (by
      rcases on b with z | ⟨ob, xs, z⟩
      · exact z
      · have e' : b = a := only b (by rw [z]; exact Option.some_ne_none _)
        rw [e', notK (by rw [← e', z]; exact Option.some_ne_none _)] at e
        cases e)
    have md : Mod K mg (hidT t.heap H) := ⟨kB, nsB gl, ⟨mb, nsB bl, bb⟩, nol.elim fun mc z => ⟨mc, nsB z.1, z.2⟩⟩
    have e0 : Env0 P w K mg (hidT t.heap H) callerA [] t H := ⟨rfl, md, fun _ _ e => of_hidT e, Nat.le_of_eq (hidT_size _ _), trivial, (fun b hb => by cases hb), hok, .of_eq gn⟩
    refine codeAny_mono ((F _ kB (nsB gl)).goes callerA [] t H _ [.ref a] [.ref a] _ _ hr rfl e0 (bd t (.ref a)) (.cons rfl .nil) (hs H sq)) fun r s' h => ?_
    match r, h with
    | .error _, h => exact False.elim h
    | .ok .next, h => exact False.elim h
    | .ok .brk, h => exact False.elim h
    | .ok .cont, h => exact False.elim h
    | .ok (.ret u), h =>
      obtain ⟨v, H', eos, eb, un, ok', rv, q⟩ := h
      cases (show v = .bl true from q)
      cases (show u = Value.bool true from rv)
      refine ⟨rfl, OldK.of_keep fun b o e => ?_, eos, eb⟩
      rcases on b with z | ⟨ob, xs, z⟩
      · exact un.keep b o e z (fun y => by cases y) (fun y => by cases y)
      · obtain ⟨e1, _⟩ := hok b _ z
        obtain ⟨e2, _⟩ := ok' b _ (un.frzs b ob _ z)
        rw [e] at e1
        cases e1
        exact e2
  cases hk : K.lookup a with
  | some o =>
    have e := kin a o hk
    rw [ea] at e
    cases e
    exact key (fun _ => none) (fun _ => .inl rfl) (.inr ⟨_, ws.toArray, _, hk, rfl, rfl, rfl, (by rw [List.size_toArray, ia.length]; exact sz), by simpa using va⟩) (fun b u z => nomatch (show (none : Option HO) = some u from z)) (fun b z => absurd rfl z) (fun z => absurd rfl z)
  | none =>
    have at_ : ∀ b, (if b = a then some (HO.frz { cls := .type "list", data := .seq ws.toArray } (.lst (ns.map V.int))) else none) ≠ none → b = a := fun b z => by
      by_cases h : b = a
      · exact h
      · exact absurd (if_neg h) z
    refine key (fun b => if b = a then some (.frz { cls := .type "list", data := .seq ws.toArray } (.lst (ns.map V.int))) else none) (fun b => ?_) (.inl (.inr ⟨_, if_pos rfl⟩)) (fun b u z => ?_) at_ (fun _ => hk)
    · by_cases h : b = a
      · exact .inr ⟨_, _, if_pos h⟩
      · exact .inl (if_neg h)
    · have h : b = a := at_ b (fun y => by rw [show (if b = a then some (HO.frz { cls := .type "list", data := .seq ws.toArray } (.lst (ns.map V.int))) else none) = some u from z] at y; cases y)
      subst h
      have z' := (if_pos rfl).symm.trans z
      cases z'
      exact ⟨ea, by rw [List.length_map]; exact sz, ws, _, va, ea⟩
theorem walkG {l : PySem.W.OpenLaw} {n k : Nat} {q : Program} {loose : List Str} {XP : (Str → Option Value) → Heap → Prop} {YP : World → Heap → Prop} {d : DefRec} {K : Params → PySem.W.Frag} {sp : World → Sp} {x : Str} (hn : l.most = some n) (h2 : n ≤ sizeLine) (hd : d.params.defaults = []) (hr : Room k callerA)
    (hY : ∀ (w : World) (h : Heap), YP w h → (K w.params).In h) (F : ∀ (w : World) (mg : Str → Option Value) (fa : Addr) (h : Heap), (K w.params).In h → h.Ns mainGlobals mg → mg d.name = some (.ref fa) → ∃ fd : FuncData, (∀ (s : Shared) (u : Value), BindsTo s fd ⟨[u], []⟩ [(x, u)]) ∧
      ∀ bs : Heap, (K w.params).In bs → bs.Ns mainGlobals mg → FnG l.prog w (K w.params) mg bs k fa fd [x] (sp w)) (hs : ∀ (w : World) (H : Hp) (a : Addr) (ns : List Int), ns.length ≤ n → SqL (K w.params) H a (ns.map V.int) → sp w [.ref a] H (fun v _ => v = .bl true) fun _ _ _ => False) :
    PySem.W.WalkO q loose XP YP l.row.toRowW d [] (fun f vs => PySem.call f vs) := Att.attach_call hn hd fun w s t mg mb fa o pm cd dc a ws ns G Y ho hdt hcd hmg eo ia hl hg => by
  obtain ⟨fd, bd, hF⟩ := F w mg fa _ (hY w _ Y) G.T.g hmg
  exact lawG (hY w _ Y) G.T.g G.T.b G.T.builtins G.T.nolimit hg eo ia (Nat.le_trans hl h2) hr hF bd fun H sq => hs w H a ns hl sq
theorem all_mk {l : PySem.W.OpenLaw} {w : World} {K : PySem.W.Frag} {h : Heap} {mg : Str → Option Value} {fa f1 f2 f3 f4 f5 f6 f7 f8 f9 f10 f11 f12 f13 f14 f15 f16 f17 f18 f19 f20 f21 f22 f23 f24 f25 f26 f27 f28 f29 f30 f31 f32 f33 f34 f35 f36 f37 f38 f39 f40 f41 f42 f43 f44 f45 f46 f47 f48 f49 : Addr} {tk_MOST_STEPS tk_MOST_LAID : Tok} (X : K.In h) (G : h.Ns mainGlobals mg) (hfa : mg "law" = some (.ref fa))
    {od1 an1 od2 an2 od3 an3 od4 an4 od5 an5 od6 an6 od7 an7 od8 an8 od9 an9 od10 an10 od11 an11 od12 an12 od13 an13 od14 an14 od15 an15 od16 an16 od17 an17 od18 an18 od19 an19 od20 an20 od21 an21 od22 an22 od23 an23 od24 an24 od25 an25 od26 an26 od27 an27 od28 an28 od29 an29 od30 an30 od31 an31 od32 an32 od33 an33 od34 an34 od35 an35 od36 an36 od37 an37 od38 an38 od39 an39 od40 an40 od41 an41 od42 an42 od43 an43 od44 an44 od45 an45 od46 an46 od47 an47 od48 an48 od49 an49 : Option Addr} {sl1 sl2 sl3 sl4 sl5 sl6 sl7 sl8 sl9 sl10 sl11 sl12 sl13 sl14 sl15 sl16 sl17 sl18 sl19 sl20 sl21 sl22 sl23 sl24 sl25 sl26 sl27 sl28 sl29 sl30 sl31 sl32 sl33 sl34 sl35 sl36 sl37 sl38 sl39 sl40 sl41 sl42 sl43 sl44 sl45 sl46 sl47 sl48 sl49 : Array (Option Value)} {oc1 kV1 dc1 pm1 cd1 ct1 oc2 kV2 dc2 pm2 cd2 ct2 oc3 kV3 dc3 pm3 cd3 ct3 oc4 kV4 dc4 pm4 cd4 ct4 oc5 kV5 dc5 pm5 cd5 ct5 oc6 kV6 dc6 pm6 cd6 ct6 oc7 kV7 dc7 pm7 cd7 ct7 oc8 kV8 dc8 pm8 cd8 ct8 oc9 kV9 dc9 pm9 cd9 ct9 oc10 kV10 dc10 pm10 cd10 ct10 oc11 kV11 dc11 pm11 cd11 ct11 oc12 kV12 dc12 pm12 cd12 ct12 oc13 kV13 dc13 pm13 cd13 ct13 oc14 kV14 dc14 pm14 cd14 ct14 oc15 kV15 dc15 pm15 cd15 ct15 oc16 kV16 dc16 pm16 cd16 ct16 oc17 kV17 dc17 pm17 cd17 ct17 oc18 kV18 dc18 pm18 cd18 ct18 oc19 kV19 dc19 pm19 cd19 ct19 oc20 kV20 dc20 pm20 cd20 ct20 oc21 kV21 dc21 pm21 cd21 ct21 oc22 kV22 dc22 pm22 cd22 ct22 oc23 kV23 dc23 pm23 cd23 ct23 oc24 kV24 dc24 pm24 cd24 ct24 oc25 kV25 dc25 pm25 cd25 ct25 oc26 kV26 dc26 pm26 cd26 ct26 oc27 kV27 dc27 pm27 cd27 ct27 oc28 kV28 dc28 pm28 cd28 ct28 oc29 kV29 dc29 pm29 cd29 ct29 oc30 kV30 dc30 pm30 cd30 ct30 oc31 kV31 dc31 pm31 cd31 ct31 oc32 kV32 dc32 pm32 cd32 ct32 oc33 kV33 dc33 pm33 cd33 ct33 oc34 kV34 dc34 pm34 cd34 ct34 oc35 kV35 dc35 pm35 cd35 ct35 oc36 kV36 dc36 pm36 cd36 ct36 oc37 kV37 dc37 pm37 cd37 ct37 oc38 kV38 dc38 pm38 cd38 ct38 oc39 kV39 dc39 pm39 cd39 ct39 oc40 kV40 dc40 pm40 cd40 ct40 oc41 kV41 dc41 pm41 cd41 ct41 oc42 kV42 dc42 pm42 cd42 ct42 oc43 kV43 dc43 pm43 cd43 ct43 oc44 kV44 dc44 pm44 cd44 ct44 oc45 kV45 dc45 pm45 cd45 ct45 oc46 kV46 dc46 pm46 cd46 ct46 oc47 kV47 dc47 pm47 cd47 ct47 oc48 kV48 dc48 pm48 cd48 ct48 oc49 kV49 dc49 pm49 cd49 ct49 : Value}
    (a1 : PySem.W.nsIn K mainGlobals "is_whole" = some (some (.ref f1))) (l1 : K.lookup f1 = some ⟨oc1, od1, .func (PySem.W.fnOf "is_whole" "is_whole" (defArgs s_is_whole) (defBody s_is_whole) (defScope s_is_whole) .none kV1 dc1 pm1 an1 cd1 ct1), sl1⟩) (c1 : PySem.W.codeIn K cd1 "is_whole" = true) (k1 : PySem.W.keepIn K (.ref f1) = true)
    (a2 : PySem.W.nsIn K mainGlobals "is_tuple" = some (some (.ref f2))) (l2 : K.lookup f2 = some ⟨oc2, od2, .func (PySem.W.fnOf "is_tuple" "is_tuple" (defArgs s_is_tuple) (defBody s_is_tuple) (defScope s_is_tuple) .none kV2 dc2 pm2 an2 cd2 ct2), sl2⟩) (c2 : PySem.W.codeIn K cd2 "is_tuple" = true) (k2 : PySem.W.keepIn K (.ref f2) = true)
    (a3 : PySem.W.nsIn K mainGlobals "is_step" = some (some (.ref f3))) (l3 : K.lookup f3 = some ⟨oc3, od3, .func (PySem.W.fnOf "is_step" "is_step" (defArgs s_is_step) (defBody s_is_step) (defScope s_is_step) .none kV3 dc3 pm3 an3 cd3 ct3), sl3⟩) (c3 : PySem.W.codeIn K cd3 "is_step" = true) (k3 : PySem.W.keepIn K (.ref f3) = true)
    (a4 : PySem.W.nsIn K mainGlobals "are_steps" = some (some (.ref f4))) (l4 : K.lookup f4 = some ⟨oc4, od4, .func (PySem.W.fnOf "are_steps" "are_steps" (defArgs s_are_steps) (defBody s_are_steps) (defScope s_are_steps) .none kV4 dc4 pm4 an4 cd4 ct4), sl4⟩) (c4 : PySem.W.codeIn K cd4 "are_steps" = true) (k4 : PySem.W.keepIn K (.ref f4) = true)
    (a5 : PySem.W.nsIn K mainGlobals "is_wisp" = some (some (.ref f5))) (l5 : K.lookup f5 = some ⟨oc5, od5, .func (PySem.W.fnOf "is_wisp" "is_wisp" (defArgs s_is_wisp) (defBody s_is_wisp) (defScope s_is_wisp) .none kV5 dc5 pm5 an5 cd5 ct5), sl5⟩) (c5 : PySem.W.codeIn K cd5 "is_wisp" = true) (k5 : PySem.W.keepIn K (.ref f5) = true)
    (a6 : PySem.W.nsIn K mainGlobals "thick_at" = some (some (.ref f6))) (l6 : K.lookup f6 = some ⟨oc6, od6, .func (PySem.W.fnOf "thick_at" "thick_at" (defArgs s_thick_at) (defBody s_thick_at) (defScope s_thick_at) .none kV6 dc6 pm6 an6 cd6 ct6), sl6⟩) (c6 : PySem.W.codeIn K cd6 "thick_at" = true) (k6 : PySem.W.keepIn K (.ref f6) = true)
    (a7 : PySem.W.nsIn K mainGlobals "tail" = some (some (.ref f7))) (l7 : K.lookup f7 = some ⟨oc7, od7, .func (PySem.W.fnOf "tail" "tail" (defArgs s_tail) (defBody s_tail) (defScope s_tail) .none kV7 dc7 pm7 an7 cd7 ct7), sl7⟩) (c7 : PySem.W.codeIn K cd7 "tail" = true) (k7 : PySem.W.keepIn K (.ref f7) = true)
    (a8 : PySem.W.nsIn K mainGlobals "is_laid" = some (some (.ref f8))) (l8 : K.lookup f8 = some ⟨oc8, od8, .func (PySem.W.fnOf "is_laid" "is_laid" (defArgs s_is_laid) (defBody s_is_laid) (defScope s_is_laid) .none kV8 dc8 pm8 an8 cd8 ct8), sl8⟩) (c8 : PySem.W.codeIn K cd8 "is_laid" = true) (k8 : PySem.W.keepIn K (.ref f8) = true)
    (a9 : PySem.W.nsIn K mainGlobals "is_strand" = some (some (.ref f9))) (l9 : K.lookup f9 = some ⟨oc9, od9, .func (PySem.W.fnOf "is_strand" "is_strand" (defArgs s_is_strand) (defBody s_is_strand) (defScope s_is_strand) .none kV9 dc9 pm9 an9 cd9 ct9), sl9⟩) (c9 : PySem.W.codeIn K cd9 "is_strand" = true) (k9 : PySem.W.keepIn K (.ref f9) = true)
    (a10 : PySem.W.nsIn K mainGlobals "thick_of" = some (some (.ref f10))) (l10 : K.lookup f10 = some ⟨oc10, od10, .func (PySem.W.fnOf "thick_of" "thick_of" (defArgs s_thick_of) (defBody s_thick_of) (defScope s_thick_of) .none kV10 dc10 pm10 an10 cd10 ct10), sl10⟩) (c10 : PySem.W.codeIn K cd10 "thick_of" = true) (k10 : PySem.W.keepIn K (.ref f10) = true)
    (a11 : PySem.W.nsIn K mainGlobals "parts_of" = some (some (.ref f11))) (l11 : K.lookup f11 = some ⟨oc11, od11, .func (PySem.W.fnOf "parts_of" "parts_of" (defArgs s_parts_of) (defBody s_parts_of) (defScope s_parts_of) .none kV11 dc11 pm11 an11 cd11 ct11), sl11⟩) (c11 : PySem.W.codeIn K cd11 "parts_of" = true) (k11 : PySem.W.keepIn K (.ref f11) = true)
    (a12 : PySem.W.nsIn K mainGlobals "thicknesses_at" = some (some (.ref f12))) (l12 : K.lookup f12 = some ⟨oc12, od12, .func (PySem.W.fnOf "thicknesses_at" "thicknesses_at" (defArgs s_thicknesses_at) (defBody s_thicknesses_at) (defScope s_thicknesses_at) .none kV12 dc12 pm12 an12 cd12 ct12), sl12⟩) (c12 : PySem.W.codeIn K cd12 "thicknesses_at" = true) (k12 : PySem.W.keepIn K (.ref f12) = true)
    (a13 : PySem.W.nsIn K mainGlobals "numbers_of" = some (some (.ref f13))) (l13 : K.lookup f13 = some ⟨oc13, od13, .func (PySem.W.fnOf "numbers_of" "numbers_of" (defArgs s_numbers_of) (defBody s_numbers_of) (defScope s_numbers_of) .none kV13 dc13 pm13 an13 cd13 ct13), sl13⟩) (c13 : PySem.W.codeIn K cd13 "numbers_of" = true) (k13 : PySem.W.keepIn K (.ref f13) = true)
    (a14 : PySem.W.nsIn K mainGlobals "running" = some (some (.ref f14))) (l14 : K.lookup f14 = some ⟨oc14, od14, .func (PySem.W.fnOf "running" "running" (defArgs s_running) (defBody s_running) (defScope s_running) .none kV14 dc14 pm14 an14 cd14 ct14), sl14⟩) (c14 : PySem.W.codeIn K cd14 "running" = true) (k14 : PySem.W.keepIn K (.ref f14) = true)
    (a15 : PySem.W.nsIn K mainGlobals "sorts_of" = some (some (.ref f15))) (l15 : K.lookup f15 = some ⟨oc15, od15, .func (PySem.W.fnOf "sorts_of" "sorts_of" (defArgs s_sorts_of) (defBody s_sorts_of) (defScope s_sorts_of) .none kV15 dc15 pm15 an15 cd15 ct15), sl15⟩) (c15 : PySem.W.codeIn K cd15 "sorts_of" = true) (k15 : PySem.W.keepIn K (.ref f15) = true)
    (a16 : PySem.W.nsIn K mainGlobals "by_sorts" = some (some (.ref f16))) (l16 : K.lookup f16 = some ⟨oc16, od16, .func (PySem.W.fnOf "by_sorts" "by_sorts" (defArgs s_by_sorts) (defBody s_by_sorts) (defScope s_by_sorts) .none kV16 dc16 pm16 an16 cd16 ct16), sl16⟩) (c16 : PySem.W.codeIn K cd16 "by_sorts" = true) (k16 : PySem.W.keepIn K (.ref f16) = true)
    (a17 : PySem.W.nsIn K mainGlobals "thick" = some (some (.ref f17))) (l17 : K.lookup f17 = some ⟨oc17, od17, .func (PySem.W.fnOf "thick" "thick" (defArgs s_thick) (defBody s_thick) (defScope s_thick) .none kV17 dc17 pm17 an17 cd17 ct17), sl17⟩) (c17 : PySem.W.codeIn K cd17 "thick" = true) (k17 : PySem.W.keepIn K (.ref f17) = true)
    (a18 : PySem.W.nsIn K mainGlobals "end_of" = some (some (.ref f18))) (l18 : K.lookup f18 = some ⟨oc18, od18, .func (PySem.W.fnOf "end_of" "end_of" (defArgs s_end_of) (defBody s_end_of) (defScope s_end_of) .none kV18 dc18 pm18 an18 cd18 ct18), sl18⟩) (c18 : PySem.W.codeIn K cd18 "end_of" = true) (k18 : PySem.W.keepIn K (.ref f18) = true)
    (a19 : PySem.W.nsIn K mainGlobals "weight_between" = some (some (.ref f19))) (l19 : K.lookup f19 = some ⟨oc19, od19, .func (PySem.W.fnOf "weight_between" "weight_between" (defArgs s_weight_between) (defBody s_weight_between) (defScope s_weight_between) .none kV19 dc19 pm19 an19 cd19 ct19), sl19⟩) (c19 : PySem.W.codeIn K cd19 "weight_between" = true) (k19 : PySem.W.keepIn K (.ref f19) = true)
    (a20 : PySem.W.nsIn K mainGlobals "let_by" = some (some (.ref f20))) (l20 : K.lookup f20 = some ⟨oc20, od20, .func (PySem.W.fnOf "let_by" "let_by" (defArgs s_let_by) (defBody s_let_by) (defScope s_let_by) .none kV20 dc20 pm20 an20 cd20 ct20), sl20⟩) (c20 : PySem.W.codeIn K cd20 "let_by" = true) (k20 : PySem.W.keepIn K (.ref f20) = true)
    (a21 : PySem.W.nsIn K mainGlobals "moved" = some (some (.ref f21))) (l21 : K.lookup f21 = some ⟨oc21, od21, .func (PySem.W.fnOf "moved" "moved" (defArgs s_moved) (defBody s_moved) (defScope s_moved) .none kV21 dc21 pm21 an21 cd21 ct21), sl21⟩) (c21 : PySem.W.codeIn K cd21 "moved" = true) (k21 : PySem.W.keepIn K (.ref f21) = true)
    (a22 : PySem.W.nsIn K mainGlobals "behind" = some (some (.ref f22))) (l22 : K.lookup f22 = some ⟨oc22, od22, .func (PySem.W.fnOf "behind" "behind" (defArgs s_behind) (defBody s_behind) (defScope s_behind) .none kV22 dc22 pm22 an22 cd22 ct22), sl22⟩) (c22 : PySem.W.codeIn K cd22 "behind" = true) (k22 : PySem.W.keepIn K (.ref f22) = true)
    (a23 : PySem.W.nsIn K mainGlobals "cut_off" = some (some (.ref f23))) (l23 : K.lookup f23 = some ⟨oc23, od23, .func (PySem.W.fnOf "cut_off" "cut_off" (defArgs s_cut_off) (defBody s_cut_off) (defScope s_cut_off) .none kV23 dc23 pm23 an23 cd23 ct23), sl23⟩) (c23 : PySem.W.codeIn K cd23 "cut_off" = true) (k23 : PySem.W.keepIn K (.ref f23) = true)
    (a24 : PySem.W.nsIn K mainGlobals "rest_from" = some (some (.ref f24))) (l24 : K.lookup f24 = some ⟨oc24, od24, .func (PySem.W.fnOf "rest_from" "rest_from" (defArgs s_rest_from) (defBody s_rest_from) (defScope s_rest_from) .none kV24 dc24 pm24 an24 cd24 ct24), sl24⟩) (c24 : PySem.W.codeIn K cd24 "rest_from" = true) (k24 : PySem.W.keepIn K (.ref f24) = true)
    (a25 : PySem.W.nsIn K mainGlobals "from_on" = some (some (.ref f25))) (l25 : K.lookup f25 = some ⟨oc25, od25, .func (PySem.W.fnOf "from_on" "from_on" (defArgs s_from_on) (defBody s_from_on) (defScope s_from_on) .none kV25 dc25 pm25 an25 cd25 ct25), sl25⟩) (c25 : PySem.W.codeIn K cd25 "from_on" = true) (k25 : PySem.W.keepIn K (.ref f25) = true)
    (a26 : PySem.W.nsIn K mainGlobals "let_go" = some (some (.ref f26))) (l26 : K.lookup f26 = some ⟨oc26, od26, .func (PySem.W.fnOf "let_go" "let_go" (defArgs s_let_go) (defBody s_let_go) (defScope s_let_go) .none kV26 dc26 pm26 an26 cd26 ct26), sl26⟩) (c26 : PySem.W.codeIn K cd26 "let_go" = true) (k26 : PySem.W.keepIn K (.ref f26) = true)
    (a27 : PySem.W.nsIn K mainGlobals "changes_of" = some (some (.ref f27))) (l27 : K.lookup f27 = some ⟨oc27, od27, .func (PySem.W.fnOf "changes_of" "changes_of" (defArgs s_changes_of) (defBody s_changes_of) (defScope s_changes_of) .none kV27 dc27 pm27 an27 cd27 ct27), sl27⟩) (c27 : PySem.W.codeIn K cd27 "changes_of" = true) (k27 : PySem.W.keepIn K (.ref f27) = true)
    (a28 : PySem.W.nsIn K mainGlobals "stretches" = some (some (.ref f28))) (l28 : K.lookup f28 = some ⟨oc28, od28, .func (PySem.W.fnOf "stretches" "stretches" (defArgs s_stretches) (defBody s_stretches) (defScope s_stretches) .none kV28 dc28 pm28 an28 cd28 ct28), sl28⟩) (c28 : PySem.W.codeIn K cd28 "stretches" = true) (k28 : PySem.W.keepIn K (.ref f28) = true)
    (a29 : PySem.W.nsIn K mainGlobals "_law_blend" = some (some (.ref f29))) (l29 : K.lookup f29 = some ⟨oc29, od29, .func (PySem.W.fnOf "_law_blend" "_law_blend" (defArgs s__law_blend) (defBody s__law_blend) (defScope s__law_blend) .none kV29 dc29 pm29 an29 cd29 ct29), sl29⟩) (c29 : PySem.W.codeIn K cd29 "_law_blend" = true) (k29 : PySem.W.keepIn K (.ref f29) = true)
    (a30 : PySem.W.nsIn K mainGlobals "_law_pot" = some (some (.ref f30))) (l30 : K.lookup f30 = some ⟨oc30, od30, .func (PySem.W.fnOf "_law_pot" "_law_pot" (defArgs s__law_pot) (defBody s__law_pot) (defScope s__law_pot) .none kV30 dc30 pm30 an30 cd30 ct30), sl30⟩) (c30 : PySem.W.codeIn K cd30 "_law_pot" = true) (k30 : PySem.W.keepIn K (.ref f30) = true)
    (a31 : PySem.W.nsIn K mainGlobals "_law_draw" = some (some (.ref f31))) (l31 : K.lookup f31 = some ⟨oc31, od31, .func (PySem.W.fnOf "_law_draw" "_law_draw" (defArgs s__law_draw) (defBody s__law_draw) (defScope s__law_draw) .none kV31 dc31 pm31 an31 cd31 ct31), sl31⟩) (c31 : PySem.W.codeIn K cd31 "_law_draw" = true) (k31 : PySem.W.keepIn K (.ref f31) = true)
    (a32 : PySem.W.nsIn K mainGlobals "_law_pick" = some (some (.ref f32))) (l32 : K.lookup f32 = some ⟨oc32, od32, .func (PySem.W.fnOf "_law_pick" "_law_pick" (defArgs s__law_pick) (defBody s__law_pick) (defScope s__law_pick) .none kV32 dc32 pm32 an32 cd32 ct32), sl32⟩) (c32 : PySem.W.codeIn K cd32 "_law_pick" = true) (k32 : PySem.W.keepIn K (.ref f32) = true)
    (a33 : PySem.W.nsIn K mainGlobals "_law_great" = some (some (.ref f33))) (l33 : K.lookup f33 = some ⟨oc33, od33, .func (PySem.W.fnOf "_law_great" "_law_great" (defArgs s__law_great) (defBody s__law_great) (defScope s__law_great) .none kV33 dc33 pm33 an33 cd33 ct33), sl33⟩) (c33 : PySem.W.codeIn K cd33 "_law_great" = true) (k33 : PySem.W.keepIn K (.ref f33) = true)
    (a34 : PySem.W.nsIn K mainGlobals "_law_wisp" = some (some (.ref f34))) (l34 : K.lookup f34 = some ⟨oc34, od34, .func (PySem.W.fnOf "_law_wisp" "_law_wisp" (defArgs s__law_wisp) (defBody s__law_wisp) (defScope s__law_wisp) .none kV34 dc34 pm34 an34 cd34 ct34), sl34⟩) (c34 : PySem.W.codeIn K cd34 "_law_wisp" = true) (k34 : PySem.W.keepIn K (.ref f34) = true)
    (a35 : PySem.W.nsIn K mainGlobals "_law_whole" = some (some (.ref f35))) (l35 : K.lookup f35 = some ⟨oc35, od35, .func (PySem.W.fnOf "_law_whole" "_law_whole" (defArgs s__law_whole) (defBody s__law_whole) (defScope s__law_whole) .none kV35 dc35 pm35 an35 cd35 ct35), sl35⟩) (c35 : PySem.W.codeIn K cd35 "_law_whole" = true) (k35 : PySem.W.keepIn K (.ref f35) = true)
    (a36 : PySem.W.nsIn K mainGlobals "_law_same" = some (some (.ref f36))) (l36 : K.lookup f36 = some ⟨oc36, od36, .func (PySem.W.fnOf "_law_same" "_law_same" (defArgs s__law_same) (defBody s__law_same) (defScope s__law_same) .none kV36 dc36 pm36 an36 cd36 ct36), sl36⟩) (c36 : PySem.W.codeIn K cd36 "_law_same" = true) (k36 : PySem.W.keepIn K (.ref f36) = true)
    (a37 : PySem.W.nsIn K mainGlobals "_law_strand" = some (some (.ref f37))) (l37 : K.lookup f37 = some ⟨oc37, od37, .func (PySem.W.fnOf "_law_strand" "_law_strand" (defArgs s__law_strand) (defBody s__law_strand) (defScope s__law_strand) .none kV37 dc37 pm37 an37 cd37 ct37), sl37⟩) (c37 : PySem.W.codeIn K cd37 "_law_strand" = true) (k37 : PySem.W.keepIn K (.ref f37) = true)
    (a38 : PySem.W.nsIn K mainGlobals "_law_parts" = some (some (.ref f38))) (l38 : K.lookup f38 = some ⟨oc38, od38, .func (PySem.W.fnOf "_law_parts" "_law_parts" (defArgs s__law_parts) (defBody s__law_parts) (defScope s__law_parts) .none kV38 dc38 pm38 an38 cd38 ct38), sl38⟩) (c38 : PySem.W.codeIn K cd38 "_law_parts" = true) (k38 : PySem.W.keepIn K (.ref f38) = true)
    (a39 : PySem.W.nsIn K mainGlobals "_law_model" = some (some (.ref f39))) (l39 : K.lookup f39 = some ⟨oc39, od39, .func (PySem.W.fnOf "_law_model" "_law_model" (defArgs s__law_model) (defBody s__law_model) (defScope s__law_model) .none kV39 dc39 pm39 an39 cd39 ct39), sl39⟩) (c39 : PySem.W.codeIn K cd39 "_law_model" = true) (k39 : PySem.W.keepIn K (.ref f39) = true)
    (a40 : PySem.W.nsIn K mainGlobals "_law_within" = some (some (.ref f40))) (l40 : K.lookup f40 = some ⟨oc40, od40, .func (PySem.W.fnOf "_law_within" "_law_within" (defArgs s__law_within) (defBody s__law_within) (defScope s__law_within) .none kV40 dc40 pm40 an40 cd40 ct40), sl40⟩) (c40 : PySem.W.codeIn K cd40 "_law_within" = true) (k40 : PySem.W.keepIn K (.ref f40) = true)
    (a41 : PySem.W.nsIn K mainGlobals "_law_moved" = some (some (.ref f41))) (l41 : K.lookup f41 = some ⟨oc41, od41, .func (PySem.W.fnOf "_law_moved" "_law_moved" (defArgs s__law_moved) (defBody s__law_moved) (defScope s__law_moved) .none kV41 dc41 pm41 an41 cd41 ct41), sl41⟩) (c41 : PySem.W.codeIn K cd41 "_law_moved" = true) (k41 : PySem.W.keepIn K (.ref f41) = true)
    (a42 : PySem.W.nsIn K mainGlobals "_law_model_from" = some (some (.ref f42))) (l42 : K.lookup f42 = some ⟨oc42, od42, .func (PySem.W.fnOf "_law_model_from" "_law_model_from" (defArgs s__law_model_from) (defBody s__law_model_from) (defScope s__law_model_from) .none kV42 dc42 pm42 an42 cd42 ct42), sl42⟩) (c42 : PySem.W.codeIn K cd42 "_law_model_from" = true) (k42 : PySem.W.keepIn K (.ref f42) = true)
    (a43 : PySem.W.nsIn K mainGlobals "_law_at" = some (some (.ref f43))) (l43 : K.lookup f43 = some ⟨oc43, od43, .func (PySem.W.fnOf "_law_at" "_law_at" (defArgs s__law_at) (defBody s__law_at) (defScope s__law_at) .none kV43 dc43 pm43 an43 cd43 ct43), sl43⟩) (c43 : PySem.W.codeIn K cd43 "_law_at" = true) (k43 : PySem.W.keepIn K (.ref f43) = true)
    (a44 : PySem.W.nsIn K mainGlobals "_law_borders" = some (some (.ref f44))) (l44 : K.lookup f44 = some ⟨oc44, od44, .func (PySem.W.fnOf "_law_borders" "_law_borders" (defArgs s__law_borders) (defBody s__law_borders) (defScope s__law_borders) .none kV44 dc44 pm44 an44 cd44 ct44), sl44⟩) (c44 : PySem.W.codeIn K cd44 "_law_borders" = true) (k44 : PySem.W.keepIn K (.ref f44) = true)
    (a45 : PySem.W.nsIn K mainGlobals "_law_spot" = some (some (.ref f45))) (l45 : K.lookup f45 = some ⟨oc45, od45, .func (PySem.W.fnOf "_law_spot" "_law_spot" (defArgs s__law_spot) (defBody s__law_spot) (defScope s__law_spot) .none kV45 dc45 pm45 an45 cd45 ct45), sl45⟩) (c45 : PySem.W.codeIn K cd45 "_law_spot" = true) (k45 : PySem.W.keepIn K (.ref f45) = true)
    (a46 : PySem.W.nsIn K mainGlobals "_law_right" = some (some (.ref f46))) (l46 : K.lookup f46 = some ⟨oc46, od46, .func (PySem.W.fnOf "_law_right" "_law_right" (defArgs s__law_right) (defBody s__law_right) (defScope s__law_right) .none kV46 dc46 pm46 an46 cd46 ct46), sl46⟩) (c46 : PySem.W.codeIn K cd46 "_law_right" = true) (k46 : PySem.W.keepIn K (.ref f46) = true)
    (a47 : PySem.W.nsIn K mainGlobals "_law_again" = some (some (.ref f47))) (l47 : K.lookup f47 = some ⟨oc47, od47, .func (PySem.W.fnOf "_law_again" "_law_again" (defArgs s__law_again) (defBody s__law_again) (defScope s__law_again) .none kV47 dc47 pm47 an47 cd47 ct47), sl47⟩) (c47 : PySem.W.codeIn K cd47 "_law_again" = true) (k47 : PySem.W.keepIn K (.ref f47) = true)
    (a48 : PySem.W.nsIn K mainGlobals "_law_done" = some (some (.ref f48))) (l48 : K.lookup f48 = some ⟨oc48, od48, .func (PySem.W.fnOf "_law_done" "_law_done" (defArgs s__law_done) (defBody s__law_done) (defScope s__law_done) .none kV48 dc48 pm48 an48 cd48 ct48), sl48⟩) (c48 : PySem.W.codeIn K cd48 "_law_done" = true) (k48 : PySem.W.keepIn K (.ref f48) = true)
    (a49 : PySem.W.nsIn K mainGlobals "law" = some (some (.ref f49))) (l49 : K.lookup f49 = some ⟨oc49, od49, .func (PySem.W.fnOf "law" "law" (defArgs s_law) (defBody s_law) (defScope s_law) .none kV49 dc49 pm49 an49 cd49 ct49), sl49⟩) (c49 : PySem.W.codeIn K cd49 "law" = true) (k49 : PySem.W.keepIn K (.ref f49) = true)
    (z1 : PySem.W.nsIn K mainGlobals "len" = some none)
    (z2 : PySem.W.nsIn K mainGlobals "sum" = some none)
    (z3 : PySem.W.nsIn K mainGlobals "abs" = some none)
    (z4 : PySem.W.nsIn K mainGlobals "isinstance" = some none)
    (z5 : PySem.W.nsIn K mainGlobals "max" = some none)
    (z6 : PySem.W.nsIn K mainGlobals "min" = some none)
    (z7 : PySem.W.nsIn K mainGlobals "tuple" = some none)
    (z8 : PySem.W.nsIn K mainGlobals "list" = some none)
    (z9 : PySem.W.nsIn K mainGlobals "int" = some none)
    (z10 : PySem.W.nsIn K mainGlobals "bool" = some none)
    (z11 : PySem.W.nsIn K mainGlobals "range" = some none)
    (z12 : PySem.W.nsIn K mainGlobals "enumerate" = some none)
    (z13 : PySem.W.nsIn K mainGlobals "zip" = some none)
    (z14 : PySem.W.nsIn K mainGlobals "repr" = some none)
    (z15 : PySem.W.nsIn K mainGlobals "str" = some none)
    (z16 : PySem.W.nsIn K mainGlobals "sorted" = some none)
    (z17 : PySem.W.nsIn K mainGlobals "set" = some none)
    (z18 : PySem.W.nsIn K mainGlobals "all" = some none)
    (z19 : PySem.W.nsIn K mainGlobals "any" = some none)
    (z20 : PySem.W.nsIn K mainGlobals "dict" = some none)
    (q_MOST_STEPS : PySem.W.nsIn K mainGlobals "MOST_STEPS" = some (some (.int 8 tk_MOST_STEPS)))
    (q_MOST_LAID : PySem.W.nsIn K mainGlobals "MOST_LAID" = some (some (.int 60 tk_MOST_LAID))) :
    ∃ fd : FuncData, (∀ (s : Shared) (v : Value), BindsTo s fd ⟨[v], []⟩ [("_law_script", v)]) ∧ ∀ base : Heap, K.In base → base.Ns mainGlobals mg → FnG l.prog w K mg base 8 fa fd P_law (spLaw K) := by
  have e := hfa.symm.trans (PySem.W.mg_of X G a49)
  cases e
  have g_MOST_STEPS := PySem.W.mg_of X G q_MOST_STEPS
  have g_MOST_LAID := PySem.W.mg_of X G q_MOST_LAID
  have F1 := fun_mk (st := s_is_whole) l1 c1 k1
  have F2 := fun_mk (st := s_is_tuple) l2 c2 k2
  have F3 := fun_mk (st := s_is_step) l3 c3 k3
  have F4 := fun_mk (st := s_are_steps) l4 c4 k4
  have F5 := fun_mk (st := s_is_wisp) l5 c5 k5
  have F6 := fun_mk (st := s_thick_at) l6 c6 k6
  have F7 := fun_mk (st := s_tail) l7 c7 k7
  have F8 := fun_mk (st := s_is_laid) l8 c8 k8
  have F9 := fun_mk (st := s_is_strand) l9 c9 k9
  have F10 := fun_mk (st := s_thick_of) l10 c10 k10
  have F11 := fun_mk (st := s_parts_of) l11 c11 k11
  have F12 := fun_mk (st := s_thicknesses_at) l12 c12 k12
  have F13 := fun_mk (st := s_numbers_of) l13 c13 k13
  have F14 := fun_mk (st := s_running) l14 c14 k14
  have F15 := fun_mk (st := s_sorts_of) l15 c15 k15
  have F16 := fun_mk (st := s_by_sorts) l16 c16 k16
  have F17 := fun_mk (st := s_thick) l17 c17 k17
  have F18 := fun_mk (st := s_end_of) l18 c18 k18
  have F19 := fun_mk (st := s_weight_between) l19 c19 k19
  have F20 := fun_mk (st := s_let_by) l20 c20 k20
  have F21 := fun_mk (st := s_moved) l21 c21 k21
  have F22 := fun_mk (st := s_behind) l22 c22 k22
  have F23 := fun_mk (st := s_cut_off) l23 c23 k23
  have F24 := fun_mk (st := s_rest_from) l24 c24 k24
  have F25 := fun_mk (st := s_from_on) l25 c25 k25
  have F26 := fun_mk (st := s_let_go) l26 c26 k26
  have F27 := fun_mk (st := s_changes_of) l27 c27 k27
  have F28 := fun_mk (st := s_stretches) l28 c28 k28
  have F29 := fun_mk (st := s__law_blend) l29 c29 k29
  have F30 := fun_mk (st := s__law_pot) l30 c30 k30
  have F31 := fun_mk (st := s__law_draw) l31 c31 k31
  have F32 := fun_mk (st := s__law_pick) l32 c32 k32
  have F33 := fun_mk (st := s__law_great) l33 c33 k33
  have F34 := fun_mk (st := s__law_wisp) l34 c34 k34
  have F35 := fun_mk (st := s__law_whole) l35 c35 k35
  have F36 := fun_mk (st := s__law_same) l36 c36 k36
  have F37 := fun_mk (st := s__law_strand) l37 c37 k37
  have F38 := fun_mk (st := s__law_parts) l38 c38 k38
  have F39 := fun_mk (st := s__law_model) l39 c39 k39
  have F40 := fun_mk (st := s__law_within) l40 c40 k40
  have F41 := fun_mk (st := s__law_moved) l41 c41 k41
  have F42 := fun_mk (st := s__law_model_from) l42 c42 k42
  have F43 := fun_mk (st := s__law_at) l43 c43 k43
  have F44 := fun_mk (st := s__law_borders) l44 c44 k44
  have F45 := fun_mk (st := s__law_spot) l45 c45 k45
  have F46 := fun_mk (st := s__law_right) l46 c46 k46
  have F47 := fun_mk (st := s__law_again) l47 c47 k47
  have F48 := fun_mk (st := s__law_done) l48 c48 k48
  have F49 := fun_mk (st := s_law) l49 c49 k49
  have bi : Bi mg := ⟨PySem.W.mg_none_of X G z1, PySem.W.mg_none_of X G z2, PySem.W.mg_none_of X G z3, PySem.W.mg_none_of X G z4, PySem.W.mg_none_of X G z5, PySem.W.mg_none_of X G z6, PySem.W.mg_none_of X G z7, PySem.W.mg_none_of X G z8, PySem.W.mg_none_of X G z9, PySem.W.mg_none_of X G z10, PySem.W.mg_none_of X G z11, PySem.W.mg_none_of X G z12, PySem.W.mg_none_of X G z13, PySem.W.mg_none_of X G z14, PySem.W.mg_none_of X G z15, PySem.W.mg_none_of X G z16, PySem.W.mg_none_of X G z17, PySem.W.mg_none_of X G z18, PySem.W.mg_none_of X G z19, PySem.W.mg_none_of X G z20⟩
  refine ⟨PySem.W.fnOf "law" "law" (defArgs s_law) (defBody s_law) (defScope s_law) .none kV49 dc49 pm49 an49 cd49 ct49, fun s v => .of_eq rfl, fun base _ _ => ?_⟩
  have C_is_whole : Cal l.prog w K mg base "is_whole" P_is_whole 1 spIsWhole f1 _ := ⟨ok_is_whole F1 bi, PySem.W.mg_of X G a1, F1.kp, F1.binds (ps := P_is_whole) fun _ _ _ _ _ _ us hl => match us, hl with | [_, _], _ => rfl⟩
  have C_is_tuple : Cal l.prog w K mg base "is_tuple" P_is_tuple 1 spIsTuple f2 _ := ⟨ok_is_tuple F2 bi, PySem.W.mg_of X G a2, F2.kp, F2.binds (ps := P_is_tuple) fun _ _ _ _ _ _ us hl => match us, hl with | [_, _, _], _ => rfl⟩
  have C_is_step : Cal l.prog w K mg base "is_step" P_is_step 2 spIsStep f3 _ := ⟨ok_is_step F3 bi C_is_tuple C_is_whole, PySem.W.mg_of X G a3, F3.kp, F3.binds (ps := P_is_step) fun _ _ _ _ _ _ us hl => match us, hl with | [_], _ => rfl⟩
  have C_are_steps : Cal l.prog w K mg base "are_steps" P_are_steps 3 spAreSteps f4 _ := ⟨ok_are_steps F4 bi g_MOST_STEPS C_is_tuple C_is_step, PySem.W.mg_of X G a4, F4.kp, F4.binds (ps := P_are_steps) fun _ _ _ _ _ _ us hl => match us, hl with | [_], _ => rfl⟩
  have C_is_wisp : Cal l.prog w K mg base "is_wisp" P_is_wisp 4 spIsWisp f5 _ := ⟨ok_is_wisp F5 bi C_is_tuple C_is_whole C_are_steps, PySem.W.mg_of X G a5, F5.kp, F5.binds (ps := P_is_wisp) fun _ _ _ _ _ _ us hl => match us, hl with | [_], _ => rfl⟩
  have C_thick_at : Cal l.prog w K mg base "thick_at" P_thick_at 1 spThick f6 _ := ⟨ok_thick_at F6 bi, PySem.W.mg_of X G a6, F6.kp, F6.binds (ps := P_thick_at) fun _ _ _ _ _ _ us hl => match us, hl with | [_, _], _ => rfl⟩
  have C_tail : Cal l.prog w K mg base "tail" P_tail 1 spTail f7 _ := ⟨ok_tail F7 bi, PySem.W.mg_of X G a7, F7.kp, F7.binds (ps := P_tail) fun _ _ _ _ _ _ us hl => match us, hl with | [_, _], _ => rfl⟩
  have C_is_laid : Cal l.prog w K mg base "is_laid" P_is_laid 5 spIsLaid f8 _ := ⟨ok_is_laid F8 bi C_is_tuple C_is_whole C_is_wisp, PySem.W.mg_of X G a8, F8.kp, F8.binds (ps := P_is_laid) fun _ _ _ _ _ _ us hl => match us, hl with | [_], _ => rfl⟩
  have C_is_strand : Cal l.prog w K mg base "is_strand" P_is_strand 6 spIsStrand f9 _ := ⟨ok_is_strand F9 bi g_MOST_LAID C_is_tuple C_is_laid, PySem.W.mg_of X G a9, F9.kp, F9.binds (ps := P_is_strand) fun _ _ _ _ _ _ us hl => match us, hl with | [_], _ => rfl⟩
  have C_thick_of : Cal l.prog w K mg base "thick_of" P_thick_of 2 spThickOf f10 _ := ⟨ok_thick_of F10 bi C_thick_at, PySem.W.mg_of X G a10, F10.kp, F10.binds (ps := P_thick_of) fun _ _ _ _ _ _ us hl => match us, hl with | [_, _], _ => rfl⟩
  have C_parts_of : Cal l.prog w K mg base "parts_of" P_parts_of 1 spPartsOf f11 _ := ⟨ok_parts_of F11 bi, PySem.W.mg_of X G a11, F11.kp, F11.binds (ps := P_parts_of) fun _ _ _ _ _ _ us hl => match us, hl with | [_], _ => rfl⟩
  have C_thicknesses_at : Cal l.prog w K mg base "thicknesses_at" P_thicknesses_at 3 spThicks f12 _ := ⟨ok_thicknesses_at F12 bi C_thick_of, PySem.W.mg_of X G a12, F12.kp, F12.binds (ps := P_thicknesses_at) fun _ _ _ _ _ _ us hl => match us, hl with | [_, _], _ => rfl⟩
  have C_numbers_of : Cal l.prog w K mg base "numbers_of" P_numbers_of 1 spNumbers f13 _ := ⟨ok_numbers_of F13 bi, PySem.W.mg_of X G a13, F13.kp, F13.binds (ps := P_numbers_of) fun _ _ _ _ _ _ us hl => match us, hl with | [_], _ => rfl⟩
  have C_running : Cal l.prog w K mg base "running" P_running 4 spRunning f14 _ := ⟨ok_running F14 bi C_thicknesses_at C_numbers_of, PySem.W.mg_of X G a14, F14.kp, F14.binds (ps := P_running) fun _ _ _ _ _ _ us hl => match us, hl with | [_, _], _ => rfl⟩
  have C_sorts_of : Cal l.prog w K mg base "sorts_of" P_sorts_of 1 spSorts f15 _ := ⟨ok_sorts_of F15 bi, PySem.W.mg_of X G a15, F15.kp, F15.binds (ps := P_sorts_of) fun _ _ _ _ _ _ us hl => match us, hl with | [_, _], _ => rfl⟩
  have C_by_sorts : Cal l.prog w K mg base "by_sorts" P_by_sorts 4 spBy f16 _ := ⟨ok_by_sorts F16 bi C_thicknesses_at C_sorts_of, PySem.W.mg_of X G a16, F16.kp, F16.binds (ps := P_by_sorts) fun _ _ _ _ _ _ us hl => match us, hl with | [_, _], _ => rfl⟩
  have C_thick : Cal l.prog w K mg base "thick" P_thick 4 spThickS f17 _ := ⟨ok_thick F17 bi C_thicknesses_at, PySem.W.mg_of X G a17, F17.kp, F17.binds (ps := P_thick) fun _ _ _ _ _ _ us hl => match us, hl with | [_, _], _ => rfl⟩
  have C_end_of : Cal l.prog w K mg base "end_of" P_end_of 2 spEnd f18 _ := ⟨ok_end_of F18 bi C_parts_of, PySem.W.mg_of X G a18, F18.kp, F18.binds (ps := P_end_of) fun _ _ _ _ _ _ us hl => match us, hl with | [_], _ => rfl⟩
  have C_weight_between : Cal l.prog w K mg base "weight_between" P_weight_between 2 spBetween f19 _ := ⟨ok_weight_between F19 bi C_parts_of, PySem.W.mg_of X G a19, F19.kp, F19.binds (ps := P_weight_between) fun _ _ _ _ _ _ us hl => match us, hl with | [_, _, _], _ => rfl⟩
  have C_let_by : Cal l.prog w K mg base "let_by" P_let_by 1 spLetBy f20 _ := ⟨ok_let_by F20 bi, PySem.W.mg_of X G a20, F20.kp, F20.binds (ps := P_let_by) fun _ _ _ _ _ _ us hl => match us, hl with | [_, _], _ => rfl⟩
  have C_moved : Cal l.prog w K mg base "moved" P_moved 1 spMoved f21 _ := ⟨ok_moved F21 bi, PySem.W.mg_of X G a21, F21.kp, F21.binds (ps := P_moved) fun _ _ _ _ _ _ us hl => match us, hl with | [_, _], _ => rfl⟩
  have C_behind : Cal l.prog w K mg base "behind" P_behind 2 spBehind f22 _ := ⟨ok_behind F22 bi C_moved, PySem.W.mg_of X G a22, F22.kp, F22.binds (ps := P_behind) fun _ _ _ _ _ _ us hl => match us, hl with | [_, _, _], _ => rfl⟩
  have C_cut_off : Cal l.prog w K mg base "cut_off" P_cut_off 2 spCutOff f23 _ := ⟨ok_cut_off F23 bi C_let_by, PySem.W.mg_of X G a23, F23.kp, F23.binds (ps := P_cut_off) fun _ _ _ _ _ _ us hl => match us, hl with | [_, _], _ => rfl⟩
  have C_rest_from : Cal l.prog w K mg base "rest_from" P_rest_from 2 spRestFrom f24 _ := ⟨ok_rest_from F24 bi C_moved C_tail, PySem.W.mg_of X G a24, F24.kp, F24.binds (ps := P_rest_from) fun _ _ _ _ _ _ us hl => match us, hl with | [_, _], _ => rfl⟩
  have C_from_on : Cal l.prog w K mg base "from_on" P_from_on 3 spFromOn f25 _ := ⟨ok_from_on F25 bi C_thick_of C_rest_from, PySem.W.mg_of X G a25, F25.kp, F25.binds (ps := P_from_on) fun _ _ _ _ _ _ us hl => match us, hl with | [_, _], _ => rfl⟩
  have C_let_go : Cal l.prog w K mg base "let_go" P_let_go 2 spLetGo f26 _ := ⟨ok_let_go F26 bi C_let_by, PySem.W.mg_of X G a26, F26.kp, F26.binds (ps := P_let_go) fun _ _ _ _ _ _ us hl => match us, hl with | [_, _, _], _ => rfl⟩
  have C_changes_of : Cal l.prog w K mg base "changes_of" P_changes_of 2 spChanges f27 _ := ⟨ok_changes_of F27 bi C_parts_of, PySem.W.mg_of X G a27, F27.kp, F27.binds (ps := P_changes_of) fun _ _ _ _ _ _ us hl => match us, hl with | [_], _ => rfl⟩
  have C_stretches : Cal l.prog w K mg base "stretches" P_stretches 3 spStretches f28 _ := ⟨ok_stretches F28 bi C_changes_of C_numbers_of C_sorts_of, PySem.W.mg_of X G a28, F28.kp, F28.binds (ps := P_stretches) fun _ _ _ _ _ _ us hl => match us, hl with | [_], _ => rfl⟩
  have C__law_blend : Cal l.prog w K mg base "_law_blend" P__law_blend 1 spBlend f29 _ := ⟨ok__law_blend F29, PySem.W.mg_of X G a29, F29.kp, F29.binds (ps := P__law_blend) fun _ _ _ _ _ _ us hl => match us, hl with | [_, _], _ => rfl⟩
  have C__law_pot : Cal l.prog w K mg base "_law_pot" P__law_pot 1 (spPot K) f30 _ := ⟨ok__law_pot F30 bi, PySem.W.mg_of X G a30, F30.kp, F30.binds (ps := P__law_pot) fun _ _ _ _ _ _ us hl => match us, hl with | [_], _ => rfl⟩
  have C__law_draw : Cal l.prog w K mg base "_law_draw" P__law_draw 2 spDraw f31 _ := ⟨ok__law_draw F31 bi C__law_blend, PySem.W.mg_of X G a31, F31.kp, F31.binds (ps := P__law_draw) fun _ _ _ _ _ _ us hl => match us, hl with | [_, _], _ => rfl⟩
  have C__law_pick : Cal l.prog w K mg base "_law_pick" P__law_pick 3 spPick f32 _ := ⟨ok__law_pick F32 bi C__law_draw, PySem.W.mg_of X G a32, F32.kp, F32.binds (ps := P__law_pick) fun _ _ _ _ _ _ us hl => match us, hl with | [_, _], _ => rfl⟩
  have C__law_great : Cal l.prog w K mg base "_law_great" P__law_great 3 spGreat f33 _ := ⟨ok__law_great F33 bi C__law_draw, PySem.W.mg_of X G a33, F33.kp, F33.binds (ps := P__law_great) fun _ _ _ _ _ _ us hl => match us, hl with | [_], _ => rfl⟩
  have C__law_wisp : Cal l.prog w K mg base "_law_wisp" P__law_wisp 4 spWispP f34 _ := ⟨ok__law_wisp F34 bi C__law_draw C__law_great, PySem.W.mg_of X G a34, F34.kp, F34.binds (ps := P__law_wisp) fun _ _ _ _ _ _ us hl => match us, hl with | [_, _, _], _ => rfl⟩
  have C__law_whole : Cal l.prog w K mg base "_law_whole" P__law_whole 1 spWhole f35 _ := ⟨ok__law_whole F35 bi, PySem.W.mg_of X G a35, F35.kp, F35.binds (ps := P__law_whole) fun _ _ _ _ _ _ us hl => match us, hl with | [_], _ => rfl⟩
  have C__law_same : Cal l.prog w K mg base "_law_same" P__law_same 6 (spSame K 5) f36 _ := ⟨ok__law_same F36 (PySem.W.mg_of X G a36) (F36.binds (ps := P__law_same) fun _ _ _ _ _ _ us hl => match us, hl with | [_, _], _ => rfl) bi C__law_whole 5, PySem.W.mg_of X G a36, F36.kp, F36.binds (ps := P__law_same) fun _ _ _ _ _ _ us hl => match us, hl with | [_, _], _ => rfl⟩
  have C__law_strand : Cal l.prog w K mg base "_law_strand" P__law_strand 5 spStrandP f37 _ := ⟨ok__law_strand F37 bi C__law_draw C__law_great C__law_wisp C__law_pick, PySem.W.mg_of X G a37, F37.kp, F37.binds (ps := P__law_strand) fun _ _ _ _ _ _ us hl => match us, hl with | [_, _, _], _ => rfl⟩
  have C__law_parts : Cal l.prog w K mg base "_law_parts" P__law_parts 1 spLawPartsF f38 _ := ⟨ok__law_parts F38 bi, PySem.W.mg_of X G a38, F38.kp, F38.binds (ps := P__law_parts) fun _ _ _ _ _ _ us hl => match us, hl with | [_], _ => rfl⟩
  have C__law_model : Cal l.prog w K mg base "_law_model" P__law_model 2 spModel f39 _ := ⟨ok__law_model F39 bi C__law_parts, PySem.W.mg_of X G a39, F39.kp, F39.binds (ps := P__law_model) fun _ _ _ _ _ _ us hl => match us, hl with | [_], _ => rfl⟩
  have C__law_within : Cal l.prog w K mg base "_law_within" P__law_within 1 spWithin f40 _ := ⟨ok__law_within F40 bi, PySem.W.mg_of X G a40, F40.kp, F40.binds (ps := P__law_within) fun _ _ _ _ _ _ us hl => match us, hl with | [_, _, _], _ => rfl⟩
  have C__law_moved : Cal l.prog w K mg base "_law_moved" P__law_moved 1 spMovedM f41 _ := ⟨ok__law_moved F41 bi, PySem.W.mg_of X G a41, F41.kp, F41.binds (ps := P__law_moved) fun _ _ _ _ _ _ us hl => match us, hl with | [_, _], _ => rfl⟩
  have C__law_model_from : Cal l.prog w K mg base "_law_model_from" P__law_model_from 2 spModelFrom f42 _ := ⟨ok__law_model_from F42 bi C__law_within C__law_moved, PySem.W.mg_of X G a42, F42.kp, F42.binds (ps := P__law_model_from) fun _ _ _ _ _ _ us hl => match us, hl with | [_, _], _ => rfl⟩
  have C__law_at : Cal l.prog w K mg base "_law_at" P__law_at 1 spAtM f43 _ := ⟨ok__law_at F43 bi, PySem.W.mg_of X G a43, F43.kp, F43.binds (ps := P__law_at) fun _ _ _ _ _ _ us hl => match us, hl with | [_, _], _ => rfl⟩
  have C__law_borders : Cal l.prog w K mg base "_law_borders" P__law_borders 1 spBordersM f44 _ := ⟨ok__law_borders F44 bi, PySem.W.mg_of X G a44, F44.kp, F44.binds (ps := P__law_borders) fun _ _ _ _ _ _ us hl => match us, hl with | [_], _ => rfl⟩
  have C__law_spot : Cal l.prog w K mg base "_law_spot" P__law_spot 4 spSpotM f45 _ := ⟨ok__law_spot F45 bi C__law_borders C__law_pick C__law_draw, PySem.W.mg_of X G a45, F45.kp, F45.binds (ps := P__law_spot) fun _ _ _ _ _ _ us hl => match us, hl with | [_, _, _], _ => rfl⟩
  have C__law_right : Cal l.prog w K mg base "_law_right" P__law_right 7 spRight73 f46 _ := ⟨ok__law_right F46 bi C__law_borders C_is_strand C__law_same C_stretches C_end_of C__law_spot C__law_at C_running C_by_sorts C_thick C_weight_between, PySem.W.mg_of X G a46, F46.kp, F46.binds (ps := P__law_right) fun _ _ _ _ _ _ us hl => match us, hl with | [_, _, _], _ => rfl⟩
  have C__law_again : Cal l.prog w K mg base "_law_again" P__law_again 5 spAgain73 f47 _ := ⟨ok__law_again F47 bi C_behind C_cut_off C_from_on C__law_borders C_by_sorts C__law_at C_end_of, PySem.W.mg_of X G a47, F47.kp, F47.binds (ps := P__law_again) fun _ _ _ _ _ _ us hl => match us, hl with | [_, _, _], _ => rfl⟩
  have C__law_done : Cal l.prog w K mg base "_law_done" P__law_done 6 spDone73 f48 _ := ⟨ok__law_done F48 bi C__law_draw C__law_spot C_from_on C__law_model_from C__law_within C_cut_off C_let_go C__law_strand C_behind C__law_moved C__law_model, PySem.W.mg_of X G a48, F48.kp, F48.binds (ps := P__law_done) fun _ _ _ _ _ _ us hl => match us, hl with | [_, _, _, _], _ => rfl⟩
  exact ok_law F49 bi C__law_pot C__law_draw C__law_strand C__law_model C__law_done C__law_right C__law_spot C__law_again
end My
open PySem PySem.W PyProof.Rows
set_option maxHeartbeats 0 in
theorem PySem.Challenge.cw_evenstrand_k73_whole_strands_joined_and_holds : PySem.Challenge.rw_evenstrand_k73_whole_strands_joined_and.Holds := by
  w_on; o_law; k_head; (case hw => w_witness2)
  k_fill
  refine My.walkG (l := PySem.Challenge.rw_evenstrand_k73_whole_strands_joined_and) (n := 63) (k := 8) (x := "_law_script") (sp := fun w => My.spLaw _) rfl (by decide) rfl ⟨rfl, by decide, by decide⟩ (fun w h Y => PySem.W.kIn_of Y) ?F (fun _ _ a ns hl hS => ⟨a, ns, rfl, hS, hl, fun _ => rfl⟩)
  case F =>
    intro w mg fa h KX G hmg
    refine' My.all_mk KX G hmg ?a1 ?l1 ?c1 ?k1 ?a2 ?l2 ?c2 ?k2 ?a3 ?l3 ?c3 ?k3 ?a4 ?l4 ?c4 ?k4 ?a5 ?l5 ?c5 ?k5 ?a6 ?l6 ?c6 ?k6 ?a7 ?l7 ?c7 ?k7 ?a8 ?l8 ?c8 ?k8 ?a9 ?l9 ?c9 ?k9 ?a10 ?l10 ?c10 ?k10 ?a11 ?l11 ?c11 ?k11 ?a12 ?l12 ?c12 ?k12 ?a13 ?l13 ?c13 ?k13 ?a14 ?l14 ?c14 ?k14 ?a15 ?l15 ?c15 ?k15 ?a16 ?l16 ?c16 ?k16 ?a17 ?l17 ?c17 ?k17 ?a18 ?l18 ?c18 ?k18 ?a19 ?l19 ?c19 ?k19 ?a20 ?l20 ?c20 ?k20 ?a21 ?l21 ?c21 ?k21 ?a22 ?l22 ?c22 ?k22 ?a23 ?l23 ?c23 ?k23 ?a24 ?l24 ?c24 ?k24 ?a25 ?l25 ?c25 ?k25 ?a26 ?l26 ?c26 ?k26 ?a27 ?l27 ?c27 ?k27 ?a28 ?l28 ?c28 ?k28 ?a29 ?l29 ?c29 ?k29 ?a30 ?l30 ?c30 ?k30 ?a31 ?l31 ?c31 ?k31 ?a32 ?l32 ?c32 ?k32 ?a33 ?l33 ?c33 ?k33 ?a34 ?l34 ?c34 ?k34 ?a35 ?l35 ?c35 ?k35 ?a36 ?l36 ?c36 ?k36 ?a37 ?l37 ?c37 ?k37 ?a38 ?l38 ?c38 ?k38 ?a39 ?l39 ?c39 ?k39 ?a40 ?l40 ?c40 ?k40 ?a41 ?l41 ?c41 ?k41 ?a42 ?l42 ?c42 ?k42 ?a43 ?l43 ?c43 ?k43 ?a44 ?l44 ?c44 ?k44 ?a45 ?l45 ?c45 ?k45 ?a46 ?l46 ?c46 ?k46 ?a47 ?l47 ?c47 ?k47 ?a48 ?l48 ?c48 ?k48 ?a49 ?l49 ?c49 ?k49 ?z1 ?z2 ?z3 ?z4 ?z5 ?z6 ?z7 ?z8 ?z9 ?z10 ?z11 ?z12 ?z13 ?z14 ?z15 ?z16 ?z17 ?z18 ?z19 ?z20 ?q_MOST_STEPS ?q_MOST_LAID
    (case a1 => k_is)
    (case l1 => k_is)
    (case c1 => k_is)
    (case k1 => k_is)
    (case a2 => k_is)
    (case l2 => k_is)
    (case c2 => k_is)
    (case k2 => k_is)
    (case a3 => k_is)
    (case l3 => k_is)
    (case c3 => k_is)
    (case k3 => k_is)
    (case a4 => k_is)
    (case l4 => k_is)
    (case c4 => k_is)
    (case k4 => k_is)
    (case a5 => k_is)
    (case l5 => k_is)
    (case c5 => k_is)
    (case k5 => k_is)
    (case a6 => k_is)
    (case l6 => k_is)
    (case c6 => k_is)
    (case k6 => k_is)
    (case a7 => k_is)
    (case l7 => k_is)
    (case c7 => k_is)
    (case k7 => k_is)
    (case a8 => k_is)
    (case l8 => k_is)
    (case c8 => k_is)
    (case k8 => k_is)
    (case a9 => k_is)
    (case l9 => k_is)
    (case c9 => k_is)
    (case k9 => k_is)
    (case a10 => k_is)
    (case l10 => k_is)
    (case c10 => k_is)
    (case k10 => k_is)
    (case a11 => k_is)
    (case l11 => k_is)
    (case c11 => k_is)
    (case k11 => k_is)
    (case a12 => k_is)
    (case l12 => k_is)
    (case c12 => k_is)
    (case k12 => k_is)
    (case a13 => k_is)
    (case l13 => k_is)
    (case c13 => k_is)
    (case k13 => k_is)
    (case a14 => k_is)
    (case l14 => k_is)
    (case c14 => k_is)
    (case k14 => k_is)
    (case a15 => k_is)
    (case l15 => k_is)
    (case c15 => k_is)
    (case k15 => k_is)
    (case a16 => k_is)
    (case l16 => k_is)
    (case c16 => k_is)
    (case k16 => k_is)
    (case a17 => k_is)
    (case l17 => k_is)
    (case c17 => k_is)
    (case k17 => k_is)
    (case a18 => k_is)
    (case l18 => k_is)
    (case c18 => k_is)
    (case k18 => k_is)
    (case a19 => k_is)
    (case l19 => k_is)
    (case c19 => k_is)
    (case k19 => k_is)
    (case a20 => k_is)
    (case l20 => k_is)
    (case c20 => k_is)
    (case k20 => k_is)
    (case a21 => k_is)
    (case l21 => k_is)
    (case c21 => k_is)
    (case k21 => k_is)
    (case a22 => k_is)
    (case l22 => k_is)
    (case c22 => k_is)
    (case k22 => k_is)
    (case a23 => k_is)
    (case l23 => k_is)
    (case c23 => k_is)
    (case k23 => k_is)
    (case a24 => k_is)
    (case l24 => k_is)
    (case c24 => k_is)
    (case k24 => k_is)
    (case a25 => k_is)
    (case l25 => k_is)
    (case c25 => k_is)
    (case k25 => k_is)
    (case a26 => k_is)
    (case l26 => k_is)
    (case c26 => k_is)
    (case k26 => k_is)
    (case a27 => k_is)
    (case l27 => k_is)
    (case c27 => k_is)
    (case k27 => k_is)
    (case a28 => k_is)
    (case l28 => k_is)
    (case c28 => k_is)
    (case k28 => k_is)
    (case a29 => k_is)
    (case l29 => k_is)
    (case c29 => k_is)
    (case k29 => k_is)
    (case a30 => k_is)
    (case l30 => k_is)
    (case c30 => k_is)
    (case k30 => k_is)
    (case a31 => k_is)
    (case l31 => k_is)
    (case c31 => k_is)
    (case k31 => k_is)
    (case a32 => k_is)
    (case l32 => k_is)
    (case c32 => k_is)
    (case k32 => k_is)
    (case a33 => k_is)
    (case l33 => k_is)
    (case c33 => k_is)
    (case k33 => k_is)
    (case a34 => k_is)
    (case l34 => k_is)
    (case c34 => k_is)
    (case k34 => k_is)
    (case a35 => k_is)
    (case l35 => k_is)
    (case c35 => k_is)
    (case k35 => k_is)
    (case a36 => k_is)
    (case l36 => k_is)
    (case c36 => k_is)
    (case k36 => k_is)
    (case a37 => k_is)
    (case l37 => k_is)
    (case c37 => k_is)
    (case k37 => k_is)
    (case a38 => k_is)
    (case l38 => k_is)
    (case c38 => k_is)
    (case k38 => k_is)
    (case a39 => k_is)
    (case l39 => k_is)
    (case c39 => k_is)
    (case k39 => k_is)
    (case a40 => k_is)
    (case l40 => k_is)
    (case c40 => k_is)
    (case k40 => k_is)
    (case a41 => k_is)
    (case l41 => k_is)
    (case c41 => k_is)
    (case k41 => k_is)
    (case a42 => k_is)
    (case l42 => k_is)
    (case c42 => k_is)
    (case k42 => k_is)
    (case a43 => k_is)
    (case l43 => k_is)
    (case c43 => k_is)
    (case k43 => k_is)
    (case a44 => k_is)
    (case l44 => k_is)
    (case c44 => k_is)
    (case k44 => k_is)
    (case a45 => k_is)
    (case l45 => k_is)
    (case c45 => k_is)
    (case k45 => k_is)
    (case a46 => k_is)
    (case l46 => k_is)
    (case c46 => k_is)
    (case k46 => k_is)
    (case a47 => k_is)
    (case l47 => k_is)
    (case c47 => k_is)
    (case k47 => k_is)
    (case a48 => k_is)
    (case l48 => k_is)
    (case c48 => k_is)
    (case k48 => k_is)
    (case a49 => k_is)
    (case l49 => k_is)
    (case c49 => k_is)
    (case k49 => k_is)
    (case z1 => k_is)
    (case z2 => k_is)
    (case z3 => k_is)
    (case z4 => k_is)
    (case z5 => k_is)
    (case z6 => k_is)
    (case z7 => k_is)
    (case z8 => k_is)
    (case z9 => k_is)
    (case z10 => k_is)
    (case z11 => k_is)
    (case z12 => k_is)
    (case z13 => k_is)
    (case z14 => k_is)
    (case z15 => k_is)
    (case z16 => k_is)
    (case z17 => k_is)
    (case z18 => k_is)
    (case z19 => k_is)
    (case z20 => k_is)
    (case q_MOST_STEPS => k_is)
    (case q_MOST_LAID => k_is)
