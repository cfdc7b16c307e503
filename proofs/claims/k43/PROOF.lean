import PyProof.Rows.All
import Wide.All
import OpenK.AllK
import Wide.FinOn
import HandS.ForMost
import HandS.Wide
import HandS.IsInst
import HandS.More
import HandS.TupAny
import HandS.Codes
import HandS.Zip
import HandS.SortKw
import HandS.Walk
import KE.KMinKey
import PyProof.Rows.NestShow
import PyProof.ReprBulk
import PyProof.FitsInt
import HandS.SortInts
import HandS.Flow
import HandS.SetKeys
import HandS.NoneIn
import HandS.Style
import HandS.SetFor
import HandS.Defaults
import PyProof.LongRange
import PyProof.Rows.SortShellAny
import PyProof.FactsAll.NoneType_2
import KE.DatumOrd
import PyProof.Claim2Refuses
import PyProof.MaxThree
import HandS.FStr
import KE.IntTextLaws
import HandS.TupMul
import KE.KxIndex
import PyProof.Rows.StrJoinRep
import HandS.SortRule
import PyProof.TupleOfSeq
import KE.KDictKeyed
import KE.KDictWalk
import KE.SortData
import KE.SortKeyHeap
import HandS.Rev
import HandS.Deep
import HandS.WideBits
import HandS.Conv
import HandS.DictTup
import KE.KDictCopyH
import KE.KDictItemsList
import KE.KDictList
import KE.SortData
import KE.SortKeyHeap
import PySem.Challenge.RW_evenstrand_k43_levels_by_steps
set_option Elab.async false
set_option linter.all false
set_option maxRecDepth 100000
set_option maxHeartbeats 4000000
namespace My
open PySem PySem.Spec PyProof.Rows L2
/-! ### a text again and again; a great number read -/
section
variable {X : Cx}
open PySem.W in
theorem op_rep_str : OpR X (binaryOp .Mult) (fun x y H Q => ∃ (z : Str) (k : Int), x = .str z ∧ y = .int k ∧ z.length ≤ 16 ∧ 0 ≤ k ∧ k ≤ 1048576 ∧ Q (.str (PySem.Txt.mul z k)) H) := by
  intro pins s σ H x y v u Q I rx ry h
  obtain ⟨z, k, rfl, rfl, hz, k0, k1, q⟩ := h
  obtain ⟨t, rfl⟩ := rx
  obtain ⟨t', rfl⟩ := ry
  exact PySem.W.KXi.mul rfl hz (by omega) k1 fun t' tk _ _ => ⟨.str (PySem.Txt.mul z k), H, I.tok _, ⟨_, rfl⟩, q⟩
end
section
open PySem.Calls PySem.NumText PySem.W
set_option maxHeartbeats 4000000 in
theorem read_big {M : Model} {A : Around} {E : Value → Shared → Prop} {s : Shared} {Q : Value → Shared → Prop} {v : Value} {text : List Nat} {n : Int} (hn : s.heap.NoDigits)
    (hs : ¬ (text.takeWhile (· != 0)).length ≤ 640) (hr : (int_private% "readNumeral") 4300 10 (text.takeWhile (· != 0)) = (int_private% "Numeral.value") n)
    (ha : ((text.takeWhile (· != 0)).length == text.length) = true) (h : Q (.int n s.toks) { s with toks := s.toks + 1 }) :
    wpAny M A ((int_private% "intFromText") v text 10) Q E s := by
  obtain ⟨mc, hns, hnone⟩ := hn
  obtain ⟨hp, g, d, tk, os⟩ := s
  repeat (any_goals (first
    | assumption
    | (with_reducible refine wpAny_ite_false (decide_eq_false hs) ?_)
    | (with_reducible refine wpAny_ite_true (decide_eq_true ha) ?_)
    | ((with_reducible show wpAny _ _ (Builtin.intMaxStrDigits) _ _ _); unfold Builtin.intMaxStrDigits)
    | ((with_reducible refine wpAny_bind (wpAny_nsGet hns ?_)); rw [hnone])
    | wp_step))
  all_goals (try rw [hr])
  all_goals (try dsimp only)
  repeat (any_goals (first
    | assumption
    | (with_reducible refine wpAny_ite_true ha ?_)
    | wp_step))
set_option maxHeartbeats 4000000 in
theorem meets_big {x : Str} {u : Tok} {n : Int} (hs : ¬ (numSeenOf x).length ≤ 640) (hr : (int_private% "readNumeral") 4300 10 (numSeenOf x) = (int_private% "Numeral.value") n)
    (ha : ((numSeenOf x).length == (numTextOf x).length) = true) : Meets (Builtin.«int.__new__» ⟨[.type "int", .str x u], []⟩) (fun _ R s => s.heap.NoDigits ∧ R (.ok (.ret (.int n s.toks))) { s with toks := s.toks + 1 }) :=
  Meets.of_wp fun prog w A R s hS => by
    obtain ⟨hn, h⟩ := hS
    obtain ⟨hp, g, d, tk, os⟩ := s
    have f1 := F.conv_sub_int
    have f2 := F.madeHere_int
    have f3 := KIN.str_int
    have f4 := KIN.str_idx
    have f5 := KIN.str_trunc
    have f6 : typeOf (.str x u) = pure (.type "str") := rfl
    have hk := KIN.Hid.mk (And.intro hs (And.intro hr ha))
    clear hs hr ha
    repeat (any_goals (first
      | assumption
      | ((with_reducible show wpAny _ _ ((int_private% "intFromText") _ _ _) _ _ _); refine read_big hn hk.out.1 hk.out.2.1 hk.out.2.2 ?_)
      | wp_step))
    all_goals first | exact ⟨_, rfl, h⟩ | skip
end
section
open PySem.Calls PySem.NumText PySem.W
theorem call_big {prog : Program} {w : World} {A : Around} {E : Value → Shared → Prop} {s : Shared} {Q : Value → Shared → Prop} {x : Str} {t : Tok} {n : Int} (hs : ¬ (numSeenOf x).length ≤ 640) (hr : (int_private% "readNumeral") 4300 10 (numSeenOf x) = (int_private% "Numeral.value") n)
    (ha : ((numSeenOf x).length == (numTextOf x).length) = true) (hn : s.heap.NoDigits) (h : Q (.int n s.toks) { s with toks := s.toks + 1 }) : wpAny (model prog w) A (call (.type "int") [.str x t]) Q E s :=
  call_int_1 (meets_big hs hr ha) ⟨hn, rfl, h⟩
theorem noDigits {X : Cx} {pins : List (Addr × Obj)} {σ : L2.St} {s : Shared} {H : Hp} (I : L2.Inv X pins σ H s) (nd : nsIn X.K cStatics "sys.int_max_str_digits" = some none) : s.heap.NoDigits := by
  obtain ⟨mc, hm, _⟩ := I.mod.nolimit
  have X0 := I.mod.kin
  refine Heap.NoDigits.keeps (h := X.base) ⟨mc, hm, ?_⟩ I.bk
  obtain ⟨o, es, ep, ho, hd, _, hf⟩ := hm
  unfold nsIn at nd
  split at nd
  · rename_i c d es' n' sl q
    have := X0 _ _ q
    rw [ho] at this
    cases this
    cases hd
    split at nd
    · cases nd
    · rename_i he
      rw [← hf]
      unfold nsFind findBy
      rw [← Array.find?_toList, he]
      rfl
  · cases nd
theorem call_int_big {X : Cx} {x : Str} {n : Int} (hs : ¬ (numSeenOf x).length ≤ 640) (hr : (int_private% "readNumeral") 4300 10 (numSeenOf x) = (int_private% "Numeral.value") n)
    (ha : ((numSeenOf x).length == (numTextOf x).length) = true) (nd : nsIn X.K cStatics "sys.int_max_str_digits" = some none) : CallR X (.type "int") (fun xs H Q => xs = [.str x] ∧ Q (.int n) H) := by
  intro pins s σ H xs us Q I rs h
  obtain ⟨rfl, h⟩ := h
  cases rs with
  | cons r1 rs =>
    cases rs
    obtain ⟨t, rfl⟩ := r1
    exact call_big hs hr ha (noDigits I nd) ⟨.int n, H, I.tok _, ⟨_, rfl⟩, h⟩
/-- 10 ^ 900, written -/
def bigL : List Nat := 49 :: List.replicate 900 48
theorem bigL_val : (int_private% "readNumeral") 4300 10 bigL = (int_private% "Numeral.value") (10 ^ 900 : Int) := by kernel_rfl
theorem bigL_seen : (bigL.takeWhile (· != 0)) = bigL := by decide +kernel
theorem bigL_len : ¬ bigL.length ≤ 640 := by decide +kernel
theorem bigL_low : bigL.all (· < 128) = true := by decide +kernel
def bigT : Str := (Str.ofString "1" : Str) ++ PySem.Txt.mul (Str.ofString "0") 900
theorem fold_rep {α : Type} (xs : Array α) : ∀ (n : Nat) (acc : Array α), ((List.replicate n xs).foldl (· ++ ·) acc).toList = acc.toList ++ (List.replicate n xs.toList).flatten
  | 0, acc => by
    show acc.toList = acc.toList ++ []
    rw [List.append_nil]
  | n + 1, acc => by
    rw [List.replicate_succ, List.foldl_cons, fold_rep xs n, Array.toList_append, List.replicate_succ, List.flatten_cons, List.append_assoc]
theorem rep_one {α : Type} (x : α) : ∀ n : Nat, (List.replicate n [x]).flatten = List.replicate n x
  | 0 => rfl
  | n + 1 => by
    rw [List.replicate_succ, List.flatten_cons, rep_one x n, List.replicate_succ]
    rfl
theorem bigT_cps : bigT.cps.toList = bigL := by
  have e0 : (Str.ofString "0").cps.toList = [48] := by decide
  have e1 : (Str.ofString "1").cps.toList = [49] := by decide
  show ((Str.ofString "1").cps ++ (PySem.Txt.mul (Str.ofString "0") 900).cps).toList = bigL
  rw [Array.toList_append, e1]
  have e2 : PySem.Txt.mul (Str.ofString "0") 900 = ⟨(List.replicate (900 : Int).toNat (Str.ofString "0").cps).foldl (· ++ ·) #[]⟩ := by
    unfold PySem.Txt.mul
    rw [if_neg (by decide), if_neg (by decide)]
  rw [e2]
  show [49] ++ ((List.replicate (900 : Int).toNat (Str.ofString "0").cps).foldl (· ++ ·) #[]).toList = bigL
  rw [fold_rep, e0, rep_one]
  rfl
theorem bigT_text : numTextOf bigT = bigL := by
  have h : bigT.cps.all (· < 128) = true := by
    rw [← Array.all_toList, bigT_cps]
    exact bigL_low
  show (if bigT.cps.all (· < 128) then bigT.cps.toList else Unicode.numberText bigT.cps.toList) = bigL
  rw [if_pos h, bigT_cps]
theorem bigT_seen : numSeenOf bigT = bigL := by
  show (numTextOf bigT).takeWhile (· != 0) = bigL
  rw [bigT_text, bigL_seen]
theorem call_bigT {X : Cx} (nd : nsIn X.K cStatics "sys.int_max_str_digits" = some none) : CallR X (.type "int") (fun xs H Q => xs = [.str bigT] ∧ Q (.int (10 ^ 900)) H) :=
  call_int_big (by rw [bigT_seen]; exact bigL_len) (by rw [bigT_seen]; exact bigL_val) (by rw [bigT_seen, bigT_text]; exact beq_self_eq_true _) nd
end
/-! ### a tuple again and again, of none too -/
section
theorem tuple_mul0 (l : Addr) (items : Array Value) (n : Nat) (dd : Option Addr) (sl : Array (Option Value)) (x : Int) (u : Tok) (c0 : (decide (x < -(2 ^ 63)) || decide (x ≥ 2 ^ 63)) = false) (c1 : (items.isEmpty || x == 1) = true) :
    Meets (Builtin.«tuple.__mul__» ⟨[.ref l, .int x u], []⟩) (fun _ R s => s.heap.get? l = some { cls := .type "tuple", dict := dd, data := .seq items n, slots := sl } ∧ R (.ok (.ret (.ref l))) s) :=
  .of_wp fun prog w A R s h => by
    obtain ⟨hp, g, d, tk, os⟩ := s
    obtain ⟨hl, h⟩ := h
    have f1 := AutoSeq1.idx_int
    wp_walk using wpAny_loadPart' hl
    repeat (first
      | (refine wpAny_ite_false (decide_eq_false (by rw [c0]; exact Bool.false_ne_true)) ?_; wp_walk using wpAny_loadPart' hl)
      | (refine wpAny_ite_true (decide_eq_true c1) ?_; wp_walk using wpAny_loadPart' hl))
    all_goals first | exact ⟨_, rfl, h⟩ | skip
def rRepTA (K : PySem.W.Frag) : R2 := fun x y H Q => ∃ l k xs, x = .ref l ∧ y = .int k ∧ SqT K H l xs ∧ 2 ≤ k ∧ k ≤ 1000 ∧ xs.length ≤ 1000 ∧ (xs = [] → Q (.ref l) H) ∧ (xs ≠ [] → ∀ p, H p = none → Q (.ref p) (upd H p (.tup (List.replicate k.toNat xs).flatten)))
variable {X : Cx}
theorem op_repTA : OpR X (binaryOp .Mult) (rRepTA X.K) := by
  intro pins s σ H x y v u Q I rx ry h
  obtain ⟨l, k, xs, rfl, rfl, hT, h1, h2, hz, q0, q1⟩ := h
  by_cases hne : xs = []
  · subst hne
    cases rx
    obtain ⟨t, rfl⟩ := ry
    obtain ⟨its, r, ⟨⟨cls, dd, data, sl⟩, ho, hc, n, hd⟩, hs⟩ := I.tuple hT
    simp only at hc hd
    subst hc hd
    have hle : its.length = 0 := r.length.symm
    have hits : its = [] := List.eq_nil_of_length_eq_zero hle
    subst hits
    have c0 : (decide (k < -(2 ^ 63)) || decide (k ≥ 2 ^ 63)) = false := by
      rw [decide_eq_false (by omega), decide_eq_false (by omega)] <;> rfl
    refine wpAny_binaryOp_repeat_ref (T := "tuple") (U := "int") (by decide) ⟨_, ho, rfl⟩ (fun s' => typeIs_int s' k t) noFill_tuple_mul F.fills_int_mul F.slot_int_rmul repeat_tuple F.slot_int_index.lookup
      (call_meets F.slot_int_rmul (typeIs_int s k t) F.entry_int_rmul (F.args_int_rmul_2 _ _) (int_rmul_tuple k t l #[] n dd sl)
        ⟨ho, rfl, ⟨_, ho, rfl⟩, call_meets F.slot_tuple_mul ⟨_, ho, rfl⟩ F.entry_tuple_mul (F.args_tuple_mul_2 _ _) (tuple_mul0 l #[] n dd sl k t c0 rfl) ⟨ho, ?_⟩⟩)
    exact ⟨.ref l, H, I, rfl, q0 rfl⟩
  · exact op_repT pins s σ H _ _ v u Q I rx ry ⟨l, k, xs, rfl, rfl, hT, hne, h1, h2, hz, q1 hne⟩
def rNeE (K : PySem.W.Frag) : R2 := fun x y H Q => ∃ a b xs, x = .ref a ∧ y = .ref b ∧ SqT K H a xs ∧ SqT K H b [] ∧ Q (.bl (!xs.isEmpty)) H
theorem op_neE (hu : X.A.units + 64 < cLine) : OpR X (compareOp .NotEq) (rNeE X.K) := by
  intro pins s σ H x y v u Q I rx ry h
  obtain ⟨a, b, xs, rfl, rfl, hA, hB, q⟩ := h
  cases rx
  cases ry
  obtain ⟨its, r, hT, _⟩ := I.tuple hA
  obtain ⟨its2, r2, hT2, _⟩ := I.tuple hB
  cases r2
  have e : (!((List.range (min its.toArray.size ([] : List Value).toArray.size)).all (fun _ => true) && its.toArray.size == ([] : List Value).toArray.size)) = !xs.isEmpty := by
    cases r with
    | nil => rfl
    | cons _ _ =>
      show (!(_ && (_ + 1 == 0))) = true
      rw [show ((_ + 1 : Nat) == 0) = false from rfl, Bool.and_false]
      rfl
  refine PySem.SeqAt.RcNeAt.tuples (e := fun _ => true) hT hT2 (by omega) (fun j h1 h2 => absurd h2 (Nat.not_lt_zero _)) _ _ _ _ ⟨.bl (!xs.isEmpty), H, I, ?_, q⟩
  rw [e]
  rfl
end
/-! ### a tuple once, or not at all -/
section
theorem tuple_mulZ (l : Addr) (items : Array Value) (n : Nat) (dd : Option Addr) (sl : Array (Option Value)) (x : Int) (u : Tok) (c0 : (decide (x < -(2 ^ 63)) || decide (x ≥ 2 ^ 63)) = false) (c1 : (items.isEmpty || x == 1) = false) (c2 : (decide (x ≤ 0) || items.isEmpty) = true) :
    Meets (Builtin.«tuple.__mul__» ⟨[.ref l, .int x u], []⟩) (fun _ R s => s.heap.get? l = some { cls := .type "tuple", dict := dd, data := .seq items n, slots := sl } ∧
      R (.ok (.ret (Value.ref s.heap.objs.size))) { s with heap := s.heap.push { cls := Value.type "tuple", data := Data.seq #[] }, toks := s.toks }) :=
  .of_wp fun prog w A R s h => by
    obtain ⟨hp, g, d, tk, os⟩ := s
    obtain ⟨hl, h⟩ := h
    have f1 := AutoSeq1.idx_int
    wp_walk using wpAny_loadPart' hl
    repeat (first
      | (refine wpAny_ite_false (decide_eq_false (by rw [c0]; exact Bool.false_ne_true)) ?_; wp_walk using wpAny_loadPart' hl)
      | (refine wpAny_ite_false (decide_eq_false (by rw [c1]; exact Bool.false_ne_true)) ?_; wp_walk using wpAny_loadPart' hl)
      | (refine wpAny_ite_true (decide_eq_true c2) ?_; wp_walk using wpAny_loadPart' hl))
    all_goals first | exact ⟨_, rfl, h⟩ | skip
def rRep01 (K : PySem.W.Frag) : R2 := fun x y H Q => ∃ (l : Addr) (b : Bool) (xs : List V), x = .ref l ∧ y = .int (if b then 1 else 0) ∧ SqT K H l xs ∧ xs ≠ [] ∧ (b = true → Q (.ref l) H) ∧ (b = false → ∀ p, H p = none → Q (.ref p) (upd H p (.tup [])))
variable {X : Cx}
theorem op_rep01 : OpR X (binaryOp .Mult) (rRep01 X.K) := by
  intro pins s σ H x y v u Q I rx ry h
  obtain ⟨l, b, xs, rfl, rfl, hT, hne, q1, q0⟩ := h
  cases rx
  obtain ⟨t, rfl⟩ := ry
  obtain ⟨its, r, ⟨⟨cls, dd, data, sl⟩, ho, hc, n, hd⟩, hs⟩ := I.tuple hT
  simp only at hc hd
  subst hc hd
  have hle : its.length = xs.length := r.length.symm
  have hi : its.toArray.isEmpty = false := by
    cases its with
    | nil => exact absurd (List.eq_nil_of_length_eq_zero hle.symm) hne
    | cons a b => rfl
  cases b with
  | true =>
    refine wpAny_binaryOp_repeat_ref (T := "tuple") (U := "int") (by decide) ⟨_, ho, rfl⟩ (fun s' => typeIs_int s' 1 t) noFill_tuple_mul F.fills_int_mul F.slot_int_rmul repeat_tuple F.slot_int_index.lookup
      (call_meets F.slot_int_rmul (typeIs_int s 1 t) F.entry_int_rmul (F.args_int_rmul_2 _ _) (int_rmul_tuple 1 t l its.toArray n dd sl)
        ⟨ho, rfl, ⟨_, ho, rfl⟩, call_meets F.slot_tuple_mul ⟨_, ho, rfl⟩ F.entry_tuple_mul (F.args_tuple_mul_2 _ _) (tuple_mul0 l its.toArray n dd sl 1 t rfl (by rw [hi]; rfl)) ⟨ho, ?_⟩⟩)
    exact ⟨.ref l, H, I, rfl, q1 rfl⟩
  | false =>
    refine wpAny_binaryOp_repeat_ref (T := "tuple") (U := "int") (by decide) ⟨_, ho, rfl⟩ (fun s' => typeIs_int s' 0 t) noFill_tuple_mul F.fills_int_mul F.slot_int_rmul repeat_tuple F.slot_int_index.lookup
      (call_meets F.slot_int_rmul (typeIs_int s 0 t) F.entry_int_rmul (F.args_int_rmul_2 _ _) (int_rmul_tuple 0 t l its.toArray n dd sl)
        ⟨ho, rfl, ⟨_, ho, rfl⟩, call_meets F.slot_tuple_mul ⟨_, ho, rfl⟩ F.entry_tuple_mul (F.args_tuple_mul_2 _ _) (tuple_mulZ l its.toArray n dd sl 0 t rfl (by rw [hi]; rfl) rfl) ⟨ho, ?_⟩⟩)
    refine ⟨.ref s.heap.objs.size, _, I.laid (t' := s.toks) (o := .tup []) (fun b ob q => Heap.get?_push_of_some _ q) (Nat.le_refl _) ?_, rfl, q0 rfl _ (I.hok.fresh (Nat.le_refl _))⟩
    exact ⟨by rw [sizeLine_eq]; exact Nat.zero_le _, _, .nil, IsTup.new _ _⟩
end
/-! ### tuples whose objects are known: they bear no dict of their own -/
def BareO (o : Obj) : Prop := o.dict = none ∧ o.slots = #[]
def NewT (H : Hp) (xs : List V) (Q : VK) : Prop := ∀ (p : Addr) (o : Obj), H p = none → BareO o → Q (.ref p) (upd H p (.frz o (.tup xs)))
section
variable {X : Cx}
theorem newT_at {pins : List (Addr × Obj)} {σ : L2.St} {H : Hp} {s : Shared} {h' : Heap} {t' : Nat} {xs : List V} {its : List Value} {Q : VK} {arr : Array Value} (I : L2.Inv X pins σ H s) (k : ∀ b u, s.heap.get? b = some u → h'.get? b = some u) (v : Vals xs its) (hl : xs.length ≤ sizeLine) (ha : arr = its.toArray) (q : NewT H xs Q) :
    EP X pins σ Q (.ref h'.objs.size) { s with heap := h'.push { cls := .type "tuple", data := .seq arr }, toks := t' } := by
  subst ha
  have J : L2.Inv X pins σ H { s with heap := h', toks := t' } := I.kept k
  have ho : (h'.push { cls := .type "tuple", data := .seq its.toArray }).get? h'.objs.size = some { cls := .type "tuple", data := .seq its.toArray } := Heap.get?_push_size _ rfl
  exact ⟨.ref h'.objs.size, _, J.laid (t' := t') (fun b u e => Heap.get?_push_of_some _ e) (Nat.le_refl _) (show ObjOk X.prog X.w _ _ _ (.frz _ (.tup xs)) from ⟨ho, hl, its, v, _, ho, rfl, _, rfl⟩), rfl, q _ _ J.fresh ⟨rfl, rfl⟩⟩
def tTupF (t : TA) : TE := fun σ H Q => t σ H fun vs H1 => vs.length ≤ sizeLine ∧ NewT H1 vs Q
theorem pe_tupF {es : List Expr} {t : TA} {pos : Pos} {x1 : Nat} (h : PA X es t) : PE X (.Tuple es x1 pos) (tTupF t) := by
  refine ⟨fun pins s σ H Q I q => wpAny_Tuple (thn (h.run pos pins s σ H _ I q) fun us s1 ⟨vs, H1, I1, v, hl, q⟩ => ⟨by rw [← v.length]; exact hl, ?_⟩)⟩
  exact newT_at (t' := s1.toks) I1 (fun _ _ e => e) v hl rfl q
def rCatF (K : PySem.W.Frag) : R2 := fun x y H Q => ∃ a b xs ys, x = .ref a ∧ y = .ref b ∧ SqT K H a xs ∧ SqT K H b ys ∧ xs.length + ys.length ≤ sizeLine ∧ (xs = [] → Q (.ref b) H) ∧ (xs ≠ [] → ys = [] → Q (.ref a) H) ∧ (xs ≠ [] → ys ≠ [] → NewT H (xs ++ ys) Q)
theorem vals_app : ∀ {xs ys : List V} {us vs : List Value}, Vals xs us → Vals ys vs → Vals (xs ++ ys) (us ++ vs)
  | _, _, _, _, .nil, b => b
  | _, _, _, _, .cons a r, b => .cons a (vals_app r b)
theorem op_catF : OpR X (binaryOp .Add) (rCatF X.K) := by
  intro pins s σ H x y v u Q I rx ry h
  obtain ⟨a, b, xs, ys, rfl, rfl, hA, hB, hz, q0, q1, q2⟩ := h
  cases rx
  cases ry
  obtain ⟨its, r, ⟨⟨cls, dd, data, sl⟩, ho, hc, n, hd⟩, hs⟩ := I.tuple hA
  simp only at hc hd
  subst hc hd
  obtain ⟨its2, r2, ⟨⟨cls, dd2, data, sl2⟩, ho2, hc, n2, hd⟩, hs2⟩ := I.tuple hB
  simp only at hc hd
  subst hc hd
  have e1 : its.toArray.isEmpty = xs.isEmpty := by cases r <;> rfl
  have e2 : its2.toArray.isEmpty = ys.isEmpty := by cases r2 <;> rfl
  by_cases hx : xs = []
  · refine concat_meets ⟨_, ho, rfl⟩ ⟨_, ho2, rfl⟩ noFill_tuple_add seq_tuple_add F.slot_tuple_add F.entry_tuple_add (F.args_tuple_add_2 _ _) (PyProof.Rows.tuple_addW0 a b its.toArray its2.toArray n n2 dd dd2 sl sl2 (by rw [e1, hx]; rfl)) ⟨ho, ho2, ?_⟩
    exact ⟨.ref b, H, I, rfl, q0 hx⟩
  · have f1 : ¬ its.toArray.isEmpty = true := by rw [e1]; simpa using hx
    by_cases hy : ys = []
    · refine concat_meets ⟨_, ho, rfl⟩ ⟨_, ho2, rfl⟩ noFill_tuple_add seq_tuple_add F.slot_tuple_add F.entry_tuple_add (F.args_tuple_add_2 _ _) (PyProof.Rows.tuple_addW1 a b its.toArray its2.toArray n n2 dd dd2 sl sl2 f1 (by rw [e2, hy]; rfl)) ⟨ho, ho2, ?_⟩
      exact ⟨.ref a, H, I, rfl, q1 hx hy⟩
    · have f2 : ¬ its2.toArray.isEmpty = true := by rw [e2]; simpa using hy
      refine concat_meets ⟨_, ho, rfl⟩ ⟨_, ho2, rfl⟩ noFill_tuple_add seq_tuple_add F.slot_tuple_add F.entry_tuple_add (F.args_tuple_add_2 _ _) (PyProof.Rows.tuple_addW2 a b its.toArray its2.toArray n n2 dd dd2 sl sl2 f1 f2 (by show its.length + its2.length ≤ _; rw [← r.length, ← r2.length]; exact hz)) ⟨ho, ho2, ?_⟩
      exact newT_at (t' := s.toks) I (fun _ _ e => e) (vals_app r r2) (by rw [List.length_append]; exact hz) (by simp) (q2 hx hy)
/-- tuple(xs) -/
def rTupF (K : PySem.W.Frag) : List V → Hp → VK → Prop := fun xs H Q => ∃ p ys, xs = [.ref p] ∧ ((SqL K H p ys ∧ NewT H ys Q) ∨ (SqT K H p ys ∧ Q (.ref p) H))
theorem call_tupleF : CallR X (.type "tuple") (rTupF X.K) := by
  intro pins s σ H xs us Q I r h
  obtain ⟨p, ys, rfl, h⟩ := h
  rcases h with ⟨hL, q⟩ | ⟨hT, q⟩
  · rw [Vals.ref1 r]
    obtain ⟨its, rel, ⟨o, n, h1, h2, h3, h4⟩, hz⟩ := I.list hL
    have hz' : its.toArray.size ≤ sizeLine := by show its.length ≤ _; rw [← rel.length]; exact hz
    exact call_tuple_list (items := its.toArray) ⟨o, h1, h2, n, h4⟩ (fun h' k => newT_at (t' := s.toks) I k rel hz rfl q) (by first | exact hz' | skip)
  · exact call_tuple_of pins s σ H [.ref p] us Q I r ⟨p, ys, rfl, .inr ⟨hT, q⟩⟩
/-- t * n -/
def rRepF (K : PySem.W.Frag) : R2 := fun x y H Q => ∃ l k xs, x = .ref l ∧ y = .int k ∧ SqT K H l xs ∧ 0 ≤ k ∧ k ≤ 1000 ∧ xs.length ≤ 1000 ∧ (xs = [] ∨ k = 1 → Q (.ref l) H) ∧ (xs ≠ [] → k ≠ 1 → NewT H (List.replicate k.toNat xs).flatten Q)
theorem fold_repF {α : Type} (xs : Array α) : ∀ (n : Nat) (acc : Array α), ((List.replicate n xs).foldl (fun x1 x2 => x1 ++ x2) acc).toList = acc.toList ++ (List.replicate n xs.toList).flatten
  | 0, acc => by
    show acc.toList = acc.toList ++ []
    rw [List.append_nil]
  | n + 1, acc => by
    rw [List.replicate_succ, List.foldl_cons, fold_repF xs n, Array.toList_append, List.replicate_succ, List.flatten_cons, List.append_assoc]
theorem vals_rep {xs : List V} {us : List Value} (h : Vals xs us) : ∀ n : Nat, Vals (List.replicate n xs).flatten (List.replicate n us).flatten
  | 0 => .nil
  | n + 1 => by
    rw [List.replicate_succ, List.replicate_succ, List.flatten_cons, List.flatten_cons]
    exact vals_app h (vals_rep h n)
theorem rep_len {α : Type} (xs : List α) : ∀ n : Nat, (List.replicate n xs).flatten.length = n * xs.length
  | 0 => by simp
  | n + 1 => by rw [List.replicate_succ, List.flatten_cons, List.length_append, rep_len xs n, Nat.succ_mul, Nat.add_comm]
theorem op_repF : OpR X (binaryOp .Mult) (rRepF X.K) := by
  intro pins s σ H x y v u Q I rx ry h
  obtain ⟨l, k, xs, rfl, rfl, hT, k0, k1, hz, q0, q1⟩ := h
  cases rx
  obtain ⟨t, rfl⟩ := ry
  obtain ⟨its, r, ⟨⟨cls, dd, data, sl⟩, ho, hc, n, hd⟩, hs⟩ := I.tuple hT
  simp only at hc hd
  subst hc hd
  have hle : its.length = xs.length := r.length.symm
  have c0 : (decide (k < -(2 ^ 63)) || decide (k ≥ 2 ^ 63)) = false := by
    rw [decide_eq_false (by omega), decide_eq_false (by omega)] <;> rfl
  have e1 : its.toArray.isEmpty = xs.isEmpty := by cases r <;> rfl
  have go : ∀ {S : PySem.Spec}, PySem.Meets (Builtin.«tuple.__mul__» ⟨[.ref l, .int k t], []⟩) S → S X.A (PySem.wants (EP X pins σ Q) X.xe) s → wpAny (model X.prog X.w) X.A (binaryOp .Mult (.ref l) (.int k t)) (EP X pins σ Q) X.xe s := fun m q =>
    wpAny_binaryOp_repeat_ref (T := "tuple") (U := "int") (by decide) ⟨_, ho, rfl⟩ (fun s' => typeIs_int s' k t) noFill_tuple_mul F.fills_int_mul F.slot_int_rmul repeat_tuple F.slot_int_index.lookup
      (call_meets F.slot_int_rmul (typeIs_int s k t) F.entry_int_rmul (F.args_int_rmul_2 _ _) (int_rmul_tuple k t l its.toArray n dd sl)
        ⟨ho, rfl, ⟨_, ho, rfl⟩, call_meets F.slot_tuple_mul ⟨_, ho, rfl⟩ F.entry_tuple_mul (F.args_tuple_mul_2 _ _) m q⟩)
  by_cases hne : xs = [] ∨ k = 1
  · refine go (tuple_mul0 l its.toArray n dd sl k t c0 ?_) ⟨ho, .ref l, H, I, rfl, q0 hne⟩
    rw [e1]
    rcases hne with rfl | rfl
    · rfl
    · simp
  · rw [not_or] at hne
    have f1 : (its.toArray.isEmpty || k == 1) = false := by
      rw [e1]
      have h1 : xs.isEmpty = false := by simpa using hne.1
      have h2 : (k == 1) = false := by simpa using hne.2
      rw [h1, h2]
      rfl
    by_cases hk : k = 0
    · subst hk
      refine go (tuple_mulZ l its.toArray n dd sl 0 t c0 f1 rfl) ⟨ho, ?_⟩
      exact newT_at (t' := s.toks) (its := []) I (fun _ _ e => e) .nil (Nat.zero_le _) rfl (q1 hne.1 hne.2)
    · have hfl : ((List.replicate k.toNat its.toArray).foldl (fun x1 x2 => x1 ++ x2) #[]).toList = (List.replicate k.toNat its).flatten := by
        rw [fold_repF]
        rfl
      have hsz : k.toNat * xs.length ≤ sizeLine := by
        rw [sizeLine_eq]
        have : k.toNat * xs.length ≤ 1000 * 1000 := Nat.mul_le_mul (by omega) hz
        omega
      have hb : (its.toArray.size : Int) * k ≤ 1000 * 1000 := by
        have h1 : (its.toArray.size : Int) ≤ 1000 := by show ((its.length : Nat) : Int) ≤ 1000; omega
        exact Int.mul_le_mul h1 k1 k0 (by decide)
      refine go (tuple_mulW l its.toArray n dd sl k t c0 f1 ?_ ?_ ?_ ?_) ⟨ho, ?_⟩
      · have h1 : its.toArray.isEmpty = false := by rw [e1]; simpa using hne.1
        rw [h1, decide_eq_false (by omega)]
        rfl
      · omega
      · unfold Builtin.Tuple.tupleTooMany
        rw [decide_eq_false]
        rw [sizeLine_eq]
        have hb' : (its.toArray.size : Int) * k ≤ 1000000 := hb
        show ¬ ((its.toArray.size : Int) * k > ((16777216 : Nat) : Int))
        omega
      · rw [← Array.length_toList, hfl, rep_len, hle]
        exact hsz
      · exact newT_at (t' := s.toks) (its := (List.replicate k.toNat its).flatten) I (fun _ _ e => e) (vals_rep r _) (by rw [rep_len]; exact hsz) (by rw [← hfl]) (q1 hne.1 hne.2)
end
/-! ### data: what a value stands for, its objects being in the part F of the heap that stays -/
abbrev DT := PyData
def keyD : Key → DT
  | .inl i => .int i
  | .inr z => .str z
/-- the law's script -/
def scrD (ns : List Int) : DT := .dict [(.none, .list (ns.map PyData.int))]
/-- an object that is known to the sign -/
def DX (a : Addr) (o : Obj) : HO := .ext fun h => h.get? a = some o
/-- the entries of a dict whose keys are nested tuples -/
def NestAt (P : Program) (w : World) (a : Addr) (o : Obj) (l : List (NestedKey × Addr × V)) : Prop :=
  (a == sysModules) = false ∧ l.length ≤ sizeLine ∧ (l.map (·.1)).Nodup ∧ (∀ x ∈ l, x.1.depth ≤ 8) ∧ ∃ (xs : List (NestedKey × Addr × Value)) (es : Array DictEntry) (ep : Nat),
    o.ExactDict ∧ o.data = .dict es ep ∧ es.toList = xs.map (entryOfKey (nestedKind P w)) ∧ Paired (fun (p : NestedKey × Addr × V) (q : NestedKey × Addr × Value) => p.1 = q.1 ∧ p.2.1 = q.2.1 ∧ RelV p.2.2 q.2.2) l xs
/-- a tuple whose object bears no dict -/
def TupF (F : Hp) (a : Addr) (vs : List V) : Prop := ∃ o : Obj, F a = some (.frz o (.tup vs)) ∧ BareO o
/-- a pair that a walk gives: it is taken apart at once -/
abbrev pairD (d e : DT) : DT := .dict [(.bool false, d), (.bool false, e)]
mutual
inductive Dat (P : Program) (w : World) (K : PySem.W.Frag) (F : Hp) : V → DT → Prop
  | non : Dat P w K F .non .none
  | bl (b : Bool) : Dat P w K F (.bl b) (.bool b)
  | int (i : Int) : Dat P w K F (.int i) (.int i)
  | str (z : Str) : Dat P w K F (.str z) (.str z)
  | scr {a : Addr} {ns : List Int} : SqL K F a (ns.map V.int) → Dat P w K F (.ref a) (scrD ns)
  | lst {a : Addr} {vs : List V} {ds : List DT} : F a = some (.lst vs) → Dats P w K F vs ds → Dat P w K F (.ref a) (.list ds)
  | tup {a : Addr} {vs : List V} {ds : List DT} : TupF F a vs → Dats P w K F vs ds → Dat P w K F (.ref a) (.tuple ds)
  | pr {a : Addr} {v u : V} {d e : DT} : F a = some (.tup [v, u]) → Dat P w K F v d → Dat P w K F u e → Dat P w K F (.ref a) (.dict [(.bool false, d), (.bool false, e)])
  | dK {a : Addr} {l : List (Key × V)} {vs : List V} {ds : List DT} {kvs : List (DT × DT)} : (F a = some (.dK l) ∨ ∃ ob, F a = some (.frz ob (.dK l))) → vs = l.map (·.2) → Dats P w K F vs ds → kvs = List.zip (l.map fun p => keyD p.1) ds → Dat P w K F (.ref a) (.dict kvs)
  | dX {a : Addr} {o : Obj} {l : List (NestedKey × Addr × V)} {ws vs : List V} {ks ds : List DT} {kvs : List (DT × DT)} : F a = some (DX a o) → NestAt P w a o l → ws = l.map (fun x => V.ref x.2.1) → vs = l.map (·.2.2) → ks = l.map (·.1.data) → Dats P w K F ws ks → Dats P w K F vs ds → kvs = (PyData.bool true, PyData.none) :: List.zip ks ds → Dat P w K F (.ref a) (.dict kvs)
inductive Dats (P : Program) (w : World) (K : PySem.W.Frag) (F : Hp) : List V → List DT → Prop
  | nil : Dats P w K F [] []
  | cons {v : V} {vs : List V} {d : DT} {ds : List DT} : Dat P w K F v d → Dats P w K F vs ds → Dats P w K F (v :: vs) (d :: ds)
end
/-- a dict may be locked -/
def Lk (x y : Option HO) : Prop := x = y ∨ ∃ l ob, x = some (.dK l) ∧ y = some (.frz ob (.dK l))
theorem Lk.refl (x : Option HO) : Lk x x := .inl rfl
theorem Lk.trans {x y z : Option HO} (a : Lk x y) (b : Lk y z) : Lk x z := by
  rcases a with rfl | ⟨l, ob, rfl, rfl⟩
  · exact b
  · rcases b with rfl | ⟨l', ob', e, _⟩
    · exact .inr ⟨l, ob, rfl, rfl⟩
    · cases e
/-- more stands in F', what stood in F stands (a dict may be locked) -/
def Fle (F F' : Hp) : Prop := ∀ a o, F a = some o → Lk (some o) (F' a)
theorem Fle.refl (F : Hp) : Fle F F := fun a o e => .inl e.symm
theorem Fle.hit {F F' : Hp} (h : Fle F F') {a : Addr} {o : HO} (e : F a = some o) : ∃ o', F' a = some o' := by
  rcases h a o e with e | ⟨l, ob, _, e⟩
  · exact ⟨o, e.symm⟩
  · exact ⟨_, e⟩
theorem Fle.trans {F F1 F2 : Hp} (a : Fle F F1) (b : Fle F1 F2) : Fle F F2 := fun c o e => by
  obtain ⟨o', e'⟩ := a.hit e
  have h1 := a c o e
  rw [e'] at h1
  exact h1.trans (b c o' e')
theorem Fle.no {F F' : Hp} (h : Fle F F') {a : Addr} (e : F' a = none) : F a = none := by
  cases q : F a with
  | none => rfl
  | some o =>
    obtain ⟨o', e'⟩ := h.hit q
    rw [e'] at e
    cases e
theorem Fle.at {F F' : Hp} (h : Fle F F') {a : Addr} {o : HO} (e : F a = some o) (n : ∀ l, o ≠ .dK l) : F' a = some o := by
  rcases h a o e with e | ⟨l, ob, e, _⟩
  · exact e.symm
  · exact absurd (Option.some.inj e) (n l)
theorem Fle.new {F : Hp} {p : Addr} {o : HO} (n : F p = none) : Fle F (upd F p o) := fun a u e => by
  rw [upd_ne (ne_of_none e n)]
  exact .inl e.symm
theorem SqL.fle {K : PySem.W.Frag} {F F' : Hp} (h : Fle F F') {a : Addr} {vs : List V} (e : SqL K F a vs) : SqL K F' a vs := by
  rcases e with (e | ⟨ob, e⟩) | e
  · exact .inl (.inl (h.at e fun l q => by cases q))
  · exact .inl (.inr ⟨ob, h.at e fun l q => by cases q⟩)
  · exact .inr e
theorem TupF.mono {F F' : Hp} (h : Fle F F') {a : Addr} {vs : List V} (x : TupF F a vs) : TupF F' a vs := by
  obtain ⟨o, e, n⟩ := x
  exact ⟨o, h.at e fun l q => (by cases q), n⟩
theorem TupF.sq {K : PySem.W.Frag} {H : Hp} {a : Addr} {vs : List V} (x : TupF H a vs) : SqT K H a vs := by
  obtain ⟨o, e, _⟩ := x
  exact .inl (.inr ⟨o, e⟩)
section
variable {P : Program} {w : World} {K : PySem.W.Frag} {F F' : Hp}
mutual
theorem Dat.mono (h : Fle F F') : ∀ {v : V} {d : DT}, Dat P w K F v d → Dat P w K F' v d
  | _, _, .non => .non
  | _, _, .bl b => .bl b
  | _, _, .int i => .int i
  | _, _, .str z => .str z
  | _, _, .scr e => .scr (SqL.fle h e)
  | _, _, .lst e t => .lst (h.at e fun l q => by cases q) (Dats.mono h t)
  | _, _, .tup e t => .tup (e.mono h) (Dats.mono h t)
  | _, _, .pr e a b => .pr (h.at e fun l q => by cases q) (Dat.mono h a) (Dat.mono h b)
  | _, _, .dK e f t g => .dK (by
    rcases e with e | ⟨ob, e⟩
    · rcases h _ _ e with e1 | ⟨l, ob, e1, e2⟩
      · exact .inl e1.symm
      · cases e1
        exact .inr ⟨ob, e2⟩
    · exact .inr ⟨ob, h.at e fun l q => by cases q⟩) f (Dats.mono h t) g
  | _, _, .dX e n f g k s t q => .dX (h.at e fun l q => by cases q) n f g k (Dats.mono h s) (Dats.mono h t) q
theorem Dats.mono (h : Fle F F') : ∀ {vs : List V} {ds : List DT}, Dats P w K F vs ds → Dats P w K F' vs ds
  | _, _, .nil => .nil
  | _, _, .cons a b => .cons (Dat.mono h a) (Dats.mono h b)
end
theorem Dats.len : ∀ {vs : List V} {ds : List DT}, Dats P w K F vs ds → vs.length = ds.length
  | _, _, .nil => rfl
  | _, _, .cons _ b => congrArg (· + 1) b.len
theorem Dats.get : ∀ {vs : List V} {ds : List DT} {i : Nat} {v : V}, Dats P w K F vs ds → vs[i]? = some v → ∃ d, ds[i]? = some d ∧ Dat P w K F v d
  | _, _, 0, v, .cons a _, e => ⟨_, rfl, by cases Option.some.inj e; exact a⟩
  | _, _, i + 1, v, .cons _ b, e => b.get (i := i) e
  | _, _, _, _, .nil, e => by simp at e
theorem Dats.get' : ∀ {vs : List V} {ds : List DT} {i : Nat} {d : DT}, Dats P w K F vs ds → ds[i]? = some d → ∃ v, vs[i]? = some v ∧ Dat P w K F v d
  | _, _, 0, d, .cons a _, e => ⟨_, rfl, by cases Option.some.inj e; exact a⟩
  | _, _, i + 1, d, .cons _ b, e => b.get' (i := i) e
  | _, _, _, _, .nil, e => by simp at e
theorem Dats.append : ∀ {vs us : List V} {ds es : List DT}, Dats P w K F vs ds → Dats P w K F us es → Dats P w K F (vs ++ us) (ds ++ es)
  | _, _, _, _, .nil, b => b
  | _, _, _, _, .cons a r, b => .cons a (r.append b)
theorem Dats.snoc {vs : List V} {ds : List DT} {v : V} {d : DT} (a : Dats P w K F vs ds) (b : Dat P w K F v d) : Dats P w K F (vs ++ [v]) (ds ++ [d]) := a.append (.cons b .nil)
theorem Dats.take : ∀ {vs : List V} {ds : List DT} (n : Nat), Dats P w K F vs ds → Dats P w K F (vs.take n) (ds.take n)
  | _, _, 0, _ => by simpa using Dats.nil
  | _, _, _ + 1, .nil => .nil
  | _, _, n + 1, .cons a b => .cons a (b.take n)
theorem Dats.drop : ∀ {vs : List V} {ds : List DT} (n : Nat), Dats P w K F vs ds → Dats P w K F (vs.drop n) (ds.drop n)
  | _, _, 0, h => by simpa using h
  | _, _, _ + 1, .nil => .nil
  | _, _, n + 1, .cons a b => b.drop n
theorem Dats.rev : ∀ {vs : List V} {ds : List DT}, Dats P w K F vs ds → Dats P w K F vs.reverse ds.reverse
  | _, _, .nil => .nil
  | _, _, .cons a b => by
    rw [List.reverse_cons, List.reverse_cons]
    exact b.rev.snoc a
theorem Dats.ints : ∀ {vs : List V} {ns : List Int}, Dats P w K F vs (ns.map PyData.int) → vs = ns.map V.int
  | _, [], .nil => rfl
  | _, n :: r, .cons a b => by
    cases a
    rw [List.map_cons, b.ints]
theorem Dats.of_ints : ∀ {ns : List Int}, Dats P w K F (ns.map V.int) (ns.map PyData.int)
  | [] => .nil
  | n :: r => .cons (.int n) Dats.of_ints
end
/-- what the root at v is in H, its parts being in F -/
inductive Ob (P : Program) (w : World) (K : PySem.W.Frag) (F H : Hp) : V → DT → Prop
  | non : Ob P w K F H .non .none
  | bl (b : Bool) : Ob P w K F H (.bl b) (.bool b)
  | int (i : Int) : Ob P w K F H (.int i) (.int i)
  | str (z : Str) : Ob P w K F H (.str z) (.str z)
  | scr {a : Addr} {ns : List Int} : SqL K H a (ns.map V.int) → Ob P w K F H (.ref a) (scrD ns)
  | lst {a : Addr} {vs : List V} {ds : List DT} : H a = some (.lst vs) → Dats P w K F vs ds → Ob P w K F H (.ref a) (.list ds)
  | tup {a : Addr} {vs : List V} {ds : List DT} : TupF F a vs → Dats P w K F vs ds → Ob P w K F H (.ref a) (.tuple ds)
  | pr {a : Addr} {v u : V} {d e : DT} : F a = some (.tup [v, u]) → Dat P w K F v d → Dat P w K F u e → Ob P w K F H (.ref a) (.dict [(.bool false, d), (.bool false, e)])
  | dK {a : Addr} {l : List (Key × V)} {vs : List V} {ds : List DT} {kvs : List (DT × DT)} : (H a = some (.dK l) ∨ ∃ ob, H a = some (.frz ob (.dK l))) → vs = l.map (·.2) → Dats P w K F vs ds → kvs = List.zip (l.map fun p => keyD p.1) ds → Ob P w K F H (.ref a) (.dict kvs)
  | dX {a : Addr} {o : Obj} {l : List (NestedKey × Addr × V)} {ws vs : List V} {ks ds : List DT} {kvs : List (DT × DT)} : H a = some (DX a o) → NestAt P w a o l → ws = l.map (fun x => V.ref x.2.1) → vs = l.map (·.2.2) → ks = l.map (·.1.data) → Dats P w K F ws ks → Dats P w K F vs ds → kvs = (PyData.bool true, PyData.none) :: List.zip ks ds → Ob P w K F H (.ref a) (.dict kvs)
def Le (F H : Hp) : Prop := ∀ a o, F a = some o → H a = some o
theorem TupF.le {F H : Hp} (h : Le F H) {a : Addr} {vs : List V} (x : TupF F a vs) : TupF H a vs := by
  obtain ⟨o, e, n⟩ := x
  exact ⟨o, h _ _ e, n⟩
section
variable {P : Program} {w : World} {K : PySem.W.Frag} {F F' H H' : Hp}
theorem Le.new {p : Addr} {o : HO} (h : Le F H) (n : H p = none) : Le (upd F p o) (upd H p o) := fun a u e => by
  by_cases c : a = p
  · subst c
    rw [upd_same] at e ⊢
    exact e
  · rw [upd_ne c] at e ⊢
    exact h a u e
theorem Dat.ob (h : Le F H) {v : V} {d : DT} (x : Dat P w K F v d) : Ob P w K F H v d := by
  cases x with
  | non => exact .non
  | bl b => exact .bl b
  | int i => exact .int i
  | str z => exact .str z
  | scr e => exact .scr (by
    rcases e with (e | ⟨ob, e⟩) | e
    · exact .inl (.inl (h _ _ e))
    · exact .inl (.inr ⟨ob, h _ _ e⟩)
    · exact .inr e)
  | lst e t => exact .lst (h _ _ e) t
  | tup e t => exact .tup e t
  | pr e a b => exact .pr e a b
  | dK e f t g => exact .dK (by
    rcases e with e | ⟨ob, e⟩
    · exact .inl (h _ _ e)
    · exact .inr ⟨ob, h _ _ e⟩) f t g
  | dX e n f g k s t q => exact .dX (h _ _ e) n f g k s t q
/-- what is one's own: it may be written -/
inductive Own (P : Program) (w : World) (K : PySem.W.Frag) (F H : Hp) (a : Addr) : DT → Prop
  | lst {vs : List V} {ds : List DT} : H a = some (.lst vs) → Dats P w K F vs ds → Own P w K F H a (.list ds)
  | dK {l : List (Key × V)} {vs : List V} {ds : List DT} {kvs : List (DT × DT)} : H a = some (.dK l) → vs = l.map (·.2) → Dats P w K F vs ds → kvs = List.zip (l.map fun p => keyD p.1) ds → Own P w K F H a (.dict kvs)
  | dX {o : Obj} {l : List (NestedKey × Addr × V)} {ws vs : List V} {ks ds : List DT} {kvs : List (DT × DT)} : H a = some (DX a o) → NestAt P w a o l → ws = l.map (fun x => V.ref x.2.1) → vs = l.map (·.2.2) → ks = l.map (·.1.data) → Dats P w K F ws ks → Dats P w K F vs ds → kvs = (PyData.bool true, PyData.none) :: List.zip ks ds → Own P w K F H a (.dict kvs)
theorem Own.ob {a : Addr} {d : DT} (x : Own P w K F H a d) : Ob P w K F H (.ref a) d := by
  cases x with
  | lst e t => exact .lst e t
  | dK e f t g => exact .dK (.inl e) f t g
  | dX e n f g k s t q => exact .dX e n f g k s t q
/-- it stays while its root stays -/
theorem Own.keep {a : Addr} {d : DT} (x : Own P w K F H a d) (hf : Fle F F') (he : H' a = H a) : Own P w K F' H' a d := by
  cases x with
  | lst e t => exact .lst (he.trans e) (t.mono hf)
  | dK e f t g => exact .dK (he.trans e) f (t.mono hf) g
  | dX e n f g k s t q => exact .dX (he.trans e) n f g k (s.mono hf) (t.mono hf) q
theorem Own.dat {a : Addr} {d : DT} (x : Own P w K F H a d) (hf : Fle F F') (he : F' a = H a) : Dat P w K F' (.ref a) d := by
  cases x with
  | lst e t => exact .lst (he.trans e) (t.mono hf)
  | dK e f t g => exact .dK (.inl (he.trans e)) f (t.mono hf) g
  | dX e n f g k s t q => exact .dX (he.trans e) n f g k (s.mono hf) (t.mono hf) q
theorem Ob.listE {v : V} {ds : List DT} (x : Ob P w K F H v (.list ds)) : ∃ a vs, v = .ref a ∧ SqL K H a vs ∧ Dats P w K F vs ds := by
  cases x with
  | lst e t => exact ⟨_, _, rfl, SqL.of e, t⟩
theorem Ob.tupE {v : V} {ds : List DT} (le : Le F H) (x : Ob P w K F H v (.tuple ds)) : ∃ a vs, v = .ref a ∧ TupF F a vs ∧ SqT K H a vs ∧ Dats P w K F vs ds := by
  cases x with
  | tup e t => exact ⟨_, _, rfl, e, (e.le le).sq, t⟩
theorem Dat.listE {v : V} {ds : List DT} (x : Dat P w K F v (.list ds)) : ∃ a vs, v = .ref a ∧ SqL K F a vs ∧ Dats P w K F vs ds := by
  cases x with
  | lst e t => exact ⟨_, _, rfl, SqL.of e, t⟩
theorem Dat.tupE {v : V} {ds : List DT} (x : Dat P w K F v (.tuple ds)) : ∃ a vs, v = .ref a ∧ TupF F a vs ∧ Dats P w K F vs ds := by
  cases x with
  | tup e t => exact ⟨_, _, rfl, e, t⟩
end
/-! ### slots, and what a slot tells -/
inductive Sl where
  | no
  | dat (d : DT)
  | own (d : DT)
  | bor (d : DT)
abbrev DS := List Sl
inductive Rv where
  | d (x : DT)
  | s (i : Nat)
/-- what the caller gave: the part that stays, the heap, what may be written, the arguments -/
structure Cn where
  F0 : Hp
  H0 : Hp
  W : Addr → Prop
  par : List V
inductive SlAt (P : Program) (w : World) (K : PySem.W.Frag) (C : Cn) (F : Hp) (ow : Addr → Option Nat) (H : Hp) (i : Nat) : Option (Option V) → Sl → Prop
  | no {x : Option (Option V)} : SlAt P w K C F ow H i x .no
  | dat {v : V} {d : DT} : Dat P w K F v d → SlAt P w K C F ow H i (some (some v)) (.dat d)
  | own {a : Addr} {d : DT} : ow a = some i → C.H0 a = none → Own P w K F H a d → SlAt P w K C F ow H i (some (some (.ref a))) (.own d)
  | bor {a : Addr} {d : DT} : ow a = some i → C.W a → C.par[i]? = some (.ref a) → Own P w K F H a d → SlAt P w K C F ow H i (some (some (.ref a))) (.bor d)
structure R (P : Program) (w : World) (K : PySem.W.Frag) (C : Cn) (F : Hp) (ow : Addr → Option Nat) (δ : DS) (σ : L2.St) (H : Hp) : Prop where
  grow : Fle C.F0 F
  new : ∀ a o, C.H0 a = some o → C.F0 a = none → F a = none
  le : Le F H
  keep : ∀ a o, C.H0 a = some o → ¬ C.W a → C.F0 a = none → H a = some o
  dom : ∀ a o, C.H0 a = some o → ∃ o', H a = some o'
  own : ∀ a i, ow a = some i → F a = none ∧ ∃ o, H a = some o
  ins : ∀ a i, ow a = some i → C.H0 a = none ∨ C.W a
  len : σ.length = δ.length
  sl : ∀ (i : Nat) (s : Sl), δ[i]? = some s → SlAt P w K C F ow H i σ[i]? s
def slD : Sl → Option DT
  | .no => none
  | .dat d => some d
  | .own d => some d
  | .bor d => some d
def val (δ : DS) : Rv → Option DT
  | .d x => some x
  | .s i => (δ[i]?).bind slD
/-- to be put away: it is written no more -/
def frzV (δ : DS) : Rv → Option (DT × DS)
  | .d x => some (x, δ)
  | .s i => match δ[i]? with
    | some (.dat d) => some (d, δ)
    | some (.own d) => some (d, δ.set i (.dat d))
    | _ => none
def RvAt (P : Program) (w : World) (K : PySem.W.Frag) (F : Hp) (σ : L2.St) (v : V) : Rv → Prop
  | .d x => Dat P w K F v x
  | .s i => σ[i]? = some (some v)
section
variable {P : Program} {w : World} {K : PySem.W.Frag} {C : Cn} {F F' H H' : Hp} {ow : Addr → Option Nat} {δ δ' : DS} {σ σ' : L2.St}
theorem RvAt.mono {v : V} {r : Rv} (x : RvAt P w K F σ v r) (h : Fle F F') : RvAt P w K F' σ v r := by
  cases r with
  | d y => exact Dat.mono h x
  | s i => exact x
theorem R.ob (r : R P w K C F ow δ σ H) {v : V} {x : Rv} (h : RvAt P w K F σ v x) {d : DT} (e : val δ x = some d) : Ob P w K F H v d := by
  cases x with
  | d y =>
    cases Option.some.inj e
    exact Dat.ob r.le h
  | s i =>
    have h : σ[i]? = some (some v) := h
    obtain ⟨s, q, e⟩ := Option.bind_eq_some_iff.mp (show (δ[i]?).bind slD = some d from e)
    have z := r.sl i s q
    rw [h] at z
    cases z with
    | no => cases e
    | dat y =>
      cases Option.some.inj e
      exact y.ob r.le
    | own _ _ y =>
      cases Option.some.inj e
      exact y.ob
    | bor _ _ _ y =>
      cases Option.some.inj e
      exact y.ob
/-- a new object is laid into the part that stays -/
theorem R.laid (r : R P w K C F ow δ σ H) {p : Addr} {o : HO} (n : H p = none) : R P w K C (upd F p o) ow δ σ (upd H p o) := by
  have nF : F p = none := by
    cases q : F p with
    | none => rfl
    | some u =>
      rw [r.le _ _ q] at n
      cases n
  have n0 : C.H0 p = none := by
    cases q : C.H0 p with
    | none => rfl
    | some u =>
      obtain ⟨o', e⟩ := r.dom _ _ q
      rw [e] at n
      cases n
  have nw : ∀ a i, ow a = some i → a ≠ p := fun a i e z => by
    obtain ⟨_, o, e1⟩ := r.own a i e
    rw [z, n] at e1
    cases e1
  refine ⟨r.grow.trans (Fle.new nF), fun a u e f => ?_, r.le.new n, fun a u e f g => ?_, fun a u e => ?_, fun a i e => ?_, r.ins, r.len, fun i s e => ?_⟩
  · rw [upd_ne (ne_of_none e n0)]
    exact r.new a u e f
  · rw [upd_ne (ne_of_none e n0)]
    exact r.keep a u e f g
  · rw [upd_ne (ne_of_none e n0)]
    exact r.dom a u e
  · rw [upd_ne (nw a i e), upd_ne (nw a i e)]
    exact r.own a i e
  · have h := r.sl i s e
    generalize σ[i]? = y at h
    cases h with
    | no => exact .no
    | dat x => exact .dat (x.mono (Fle.new nF))
    | own a b x => exact .own a b (x.keep (Fle.new nF) (upd_ne (nw _ _ a)))
    | bor a b c x => exact .bor a b c (x.keep (Fle.new nF) (upd_ne (nw _ _ a)))
/-- an object that is nobody's yet is put into the part that stays -/
theorem R.put (r : R P w K C F ow δ σ H) {p : Addr} {o : HO} (e : H p = some o) (nF : F p = none) (n0 : C.H0 p = none) (nw : ow p = none) : R P w K C (upd F p o) ow δ σ H := by
  have nw : ∀ a i, ow a = some i → a ≠ p := fun a i e z => by
    rw [z, nw] at e
    cases e
  refine ⟨r.grow.trans (Fle.new nF), fun a u e f => ?_, fun a u q => ?_, r.keep, r.dom, fun a i e => ?_, r.ins, r.len, fun i s q => ?_⟩
  · rw [upd_ne (ne_of_none e n0)]
    exact r.new a u e f
  · by_cases c : a = p
    · subst c
      rw [upd_same] at q
      rw [e]
      exact q
    · rw [upd_ne c] at q
      exact r.le a u q
  · rw [upd_ne (nw a i e)]
    exact r.own a i e
  · have h := r.sl i s q
    generalize σ[i]? = y at h
    cases h with
    | no => exact .no
    | dat x => exact .dat (x.mono (Fle.new nF))
    | own a b x => exact .own a b (x.keep (Fle.new nF) rfl)
    | bor a b c x => exact .bor a b c (x.keep (Fle.new nF) rfl)
/-- a slot is forgotten, as to whose its object is -/
theorem R.drop (r : R P w K C F ow δ σ H) (i : Nat) : R P w K C F (fun a => if ow a = some i then none else ow a) (δ.set i .no) σ H := by
  refine ⟨r.grow, r.new, r.le, r.keep, r.dom, fun a j e => ?_, fun a j e => ?_, by rw [List.length_set]; exact r.len, fun j s e => ?_⟩
  · try dsimp only at e
    split at e
    · cases e
    · exact r.own a j e
  · try dsimp only at e
    split at e
    · cases e
    · exact r.ins a j e
  · by_cases c : i = j
    · subst c
      rw [List.getElem?_set_self'] at e
      cases q : δ[i]? with
      | none =>
        rw [q] at e
        cases e
      | some s' =>
        rw [q] at e
        cases Option.some.inj e
        exact .no
    · rw [List.getElem?_set_ne c] at e
      have h := r.sl j s e
      generalize σ[j]? = y at h
      have k : ∀ a, ow a = some j → (if ow a = some i then none else ow a) = some j := fun a e => by
        rw [if_neg, e]
        rw [e]
        exact fun z => c (Option.some.inj z).symm
      cases h with
      | no => exact .no
      | dat x => exact .dat x
      | own a b x => exact .own (k _ a) b x
      | bor a b c x => exact .bor (k _ a) b c x
theorem R.len' (r : R P w K C F ow δ σ H) {i : Nat} {x : Option V} (h : σ[i]? = some x) : i < δ.length := by
  rw [← r.len]
  exact (List.getElem?_eq_some_iff.mp h).1
/-- a slot's object is put away -/
theorem R.freeze (r : R P w K C F ow δ σ H) {v : V} {x : Rv} (h : RvAt P w K F σ v x) {d : DT} {δ' : DS} (e : frzV δ x = some (d, δ')) : ∃ F' ow', Fle F F' ∧ R P w K C F' ow' δ' σ H ∧ Dat P w K F' v d ∧ ∀ a, F a = none → ow a = none → F' a = none ∧ ow' a = none := by
  cases x with
  | d y =>
    cases Option.some.inj e
    exact ⟨F, ow, Fle.refl F, r, h, fun _ a b => ⟨a, b⟩⟩
  | s i =>
    have h : σ[i]? = some (some v) := h
    have e : (match δ[i]? with | some (.dat d) => some (d, δ) | some (.own d) => some (d, δ.set i (.dat d)) | _ => none) = some (d, δ') := e
    cases q : δ[i]? with
    | none =>
      rw [q] at e
      cases e
    | some s =>
      rw [q] at e
      have z := r.sl i s q
      rw [h] at z
      cases z with
      | no => cases e
      | dat y =>
        cases Option.some.inj e
        exact ⟨F, ow, Fle.refl F, r, y, fun _ a b => ⟨a, b⟩⟩
      | @own a d' h1 h2 y =>
        cases Option.some.inj e
        obtain ⟨nF, o, ho⟩ := r.own a i h1
        have r1 := (r.drop i).put ho nF h2 (show (if ow a = some i then none else ow a) = none from if_pos h1)
        have dd : Dat P w K (upd F a o) (.ref a) d := y.dat (Fle.new nF) (upd_same.trans ho.symm)
        refine ⟨_, _, Fle.new nF, ⟨r1.grow, r1.new, r1.le, r1.keep, r1.dom, r1.own, r1.ins, by rw [List.length_set]; exact r.len, fun j s e => ?_⟩, dd, fun b f g => ⟨(upd_ne (fun z => by rw [z, h1] at g; cases g)).trans f, by show (if ow b = some i then none else ow b) = none; rw [g]; rfl⟩⟩
        by_cases c : i = j
        · subst c
          rw [List.getElem?_set_self'] at e
          rw [q] at e
          cases Option.some.inj e
          rw [h]
          exact .dat dd
        · have e' : (δ.set i .no)[j]? = some s := by
            rw [List.getElem?_set_ne c] at e ⊢
            exact e
          exact r1.sl j s e'
      | bor _ _ _ y => cases e
/-- what may be written anew: no slot that is lent -/
def free (δ : DS) (i : Nat) : Bool := match δ[i]? with
  | some (.bor _) => false
  | some _ => true
  | none => false
theorem R.setDat (r : R P w K C F ow δ σ H) {i : Nat} {v : V} {d : DT} (hi : i < δ.length) (h : Dat P w K F v d) : ∃ ow', R P w K C F ow' (δ.set i (.dat d)) (σ.set i (some v)) H := by
  have r1 := r.drop i
  refine ⟨_, r1.grow, r1.new, r1.le, r1.keep, r1.dom, r1.own, r1.ins, by rw [List.length_set, List.length_set]; exact r.len, fun j s e => ?_⟩
  by_cases c : i = j
  · subst c
    rw [List.getElem?_set_self hi] at e
    cases Option.some.inj e
    rw [List.getElem?_set_self (by rw [r.len]; exact hi)]
    exact .dat h
  · have e' : (δ.set i .no)[j]? = some s := by
      rw [List.getElem?_set_ne c] at e ⊢
      exact e
    rw [List.getElem?_set_ne c]
    exact r1.sl j s e'
theorem R.setOwn (r : R P w K C F ow δ σ H) {i : Nat} {a : Addr} {d : DT} (hi : i < δ.length) (nF : F a = none) (n0 : C.H0 a = none) (nw : ow a = none) (h : Own P w K F H a d) (ho : ∃ o, H a = some o) : ∃ ow', R P w K C F ow' (δ.set i (.own d)) (σ.set i (some (.ref a))) H := by
  have r1 := r.drop i
  refine ⟨fun b => if b = a then some i else if ow b = some i then none else ow b, r1.grow, r1.new, r1.le, r1.keep, r1.dom, fun b j e => ?_, fun b j e => ?_, by rw [List.length_set, List.length_set]; exact r.len, fun j s e => ?_⟩
  · try dsimp only at e
    split at e
    · next c =>
      rw [c]
      exact ⟨nF, ho⟩
    · exact r1.own b j e
  · try dsimp only at e
    split at e
    · next c =>
      rw [c]
      exact .inl n0
    · exact r1.ins b j e
  · by_cases c : i = j
    · subst c
      rw [List.getElem?_set_self hi] at e
      cases Option.some.inj e
      rw [List.getElem?_set_self (by rw [r.len]; exact hi)]
      exact .own (if_pos rfl) n0 h
    · have e' : (δ.set i .no)[j]? = some s := by
        rw [List.getElem?_set_ne c] at e ⊢
        exact e
      rw [List.getElem?_set_ne c]
      have z := r1.sl j s e'
      generalize σ[j]? = y at z
      have k : ∀ b, (if ow b = some i then none else ow b) = some j → (if b = a then some i else if ow b = some i then none else ow b) = some j := fun b e => by
        rw [if_neg]
        · exact e
        · intro z
          rw [z, nw] at e
          simp at e
      cases z with
      | no => exact .no
      | dat x => exact .dat x
      | own a b x => exact .own (k _ a) b x
      | bor a b c x => exact .bor (k _ a) b c x
/-- the object of an own (or lent) slot is written -/
def setC (δ : DS) (i : Nat) (d : DT) : Option DS := match δ[i]? with
  | some (.own _) => some (δ.set i (.own d))
  | some (.bor _) => some (δ.set i (.bor d))
  | _ => none
theorem R.write (r : R P w K C F ow δ σ H) {i : Nat} {a : Addr} {o : HO} {d : DT} (h : σ[i]? = some (some (.ref a))) (e : setC δ i d = some δ') (ho : Own P w K F (upd H a o) a d) : R P w K C F ow δ' σ (upd H a o) := by
  have e : (match δ[i]? with | some (.own _) => some (δ.set i (.own d)) | some (.bor _) => some (δ.set i (.bor d)) | _ => none) = some δ' := e
  have key : ow a = some i ∧ (C.H0 a = none ∨ C.W a) ∧ ∃ s, δ' = δ.set i s ∧ (s = .own d ∧ C.H0 a = none ∨ s = .bor d ∧ C.W a ∧ C.par[i]? = some (.ref a)) := by
    cases q : δ[i]? with
    | none =>
      rw [q] at e
      cases e
    | some s =>
      rw [q] at e
      have z := r.sl i s q
      rw [h] at z
      cases z with
      | no => cases e
      | dat y => cases e
      | own h1 h2 y => exact ⟨h1, .inl h2, _, (Option.some.inj e).symm, .inl ⟨rfl, h2⟩⟩
      | bor h1 h2 h3 y => exact ⟨h1, .inr h2, _, (Option.some.inj e).symm, .inr ⟨rfl, h2, h3⟩⟩
  obtain ⟨ha, hw, s, rfl, hs⟩ := key
  have nF := (r.own a i ha).1
  refine ⟨r.grow, r.new, fun b u q => ?_, fun b u q g f => ?_, fun b u q => ?_, fun b j q => ?_, r.ins, by rw [List.length_set]; exact r.len, fun j s' q => ?_⟩
  · rw [upd_ne]
    · exact r.le b u q
    · rintro rfl
      rw [nF] at q
      cases q
  · rw [upd_ne]
    · exact r.keep b u q g f
    · rintro rfl
      rcases hw with z | z
      · rw [z] at q
        cases q
      · exact g z
  · by_cases c : b = a
    · subst c
      exact ⟨o, upd_same⟩
    · rw [upd_ne c]
      exact r.dom b u q
  · by_cases c : b = a
    · subst c
      exact ⟨nF, o, upd_same⟩
    · rw [upd_ne c]
      exact r.own b j q
  · by_cases c : i = j
    · subst c
      have hi := r.len' h
      rw [List.getElem?_set_self hi] at q
      cases Option.some.inj q
      rw [h]
      rcases hs with ⟨rfl, h2⟩ | ⟨rfl, h2, h3⟩
      · exact .own ha h2 ho
      · exact .bor ha h2 h3 ho
    · rw [List.getElem?_set_ne c] at q
      have z := r.sl j s' q
      generalize σ[j]? = y at z
      have k : ∀ b, ow b = some j → (upd H a o) b = H b := fun b e => upd_ne fun z => by
        rw [z, ha] at e
        exact c (Option.some.inj e)
      cases z with
      | no => exact .no
      | dat x => exact .dat x
      | own a b x => exact .own a b (x.keep (Fle.refl _) (k _ a))
      | bor a b c x => exact .bor a b c (x.keep (Fle.refl _) (k _ a))
end
/-! ### expressions -/
abbrev EF := DS → Option (Rv × DS)
abbrev TF := DS → Option (Bool × DS)
abbrev AF := DS → Option (List Rv × DS)
abbrev OF := DS → Option (DT × DS)
/-- what comes behind: more stands, what is nobody's is as it was -/
structure Nx (C : Cn) (F : Hp) (ow : Addr → Option Nat) (H F' : Hp) (ow' : Addr → Option Nat) (H' : Hp) : Prop where
  le : Fle F F'
  fr : ∀ a o, H a = some o → F a = none → ow a = none → C.H0 a = none → H' a = some o ∧ F' a = none ∧ ow' a = none
  dm : ∀ a o, H a = some o → ∃ o', H' a = some o'
theorem Nx.refl {C : Cn} {F H : Hp} {ow : Addr → Option Nat} : Nx C F ow H F ow H := ⟨Fle.refl F, fun _ _ h a b _ => ⟨h, a, b⟩, fun _ o h => ⟨o, h⟩⟩
theorem Nx.trans {C : Cn} {F H F1 H1 F2 H2 : Hp} {ow ow1 ow2 : Addr → Option Nat} (x : Nx C F ow H F1 ow1 H1) (y : Nx C F1 ow1 H1 F2 ow2 H2) : Nx C F ow H F2 ow2 H2 := ⟨x.le.trans y.le, fun a o h f g k => by
  obtain ⟨h1, f1, g1⟩ := x.fr a o h f g k
  exact y.fr a o h1 f1 g1 k, fun a o h => by
  obtain ⟨o', h⟩ := x.dm a o h
  exact y.dm a o' h⟩
theorem Nx.no {C : Cn} {F H F' H' : Hp} {ow ow' : Addr → Option Nat} (x : Nx C F ow H F' ow' H') {a : Addr} (n : H' a = none) : H a = none := by
  cases q : H a with
  | none => rfl
  | some o =>
    obtain ⟨o', e⟩ := x.dm a o q
    rw [e] at n
    cases n
section
variable (P : Program) (w : World) (K : PySem.W.Frag)
/-- an expression's reading gives what e tells -/
def LE (t : TE) (e : EF) : Prop := ∀ (C : Cn) (F : Hp) (ow : Addr → Option Nat) (δ : DS) (σ : L2.St) (H : Hp), R P w K C F ow δ σ H → ∀ (r : Rv) (δ' : DS), e δ = some (r, δ') → ∀ Q : VK,
  (∀ (v : V) (F' : Hp) (ow' : Addr → Option Nat) (H' : Hp), R P w K C F' ow' δ' σ H' → Nx C F ow H F' ow' H' → RvAt P w K F' σ v r → Q v H') → t σ H Q
def LT (t : TT) (e : TF) : Prop := ∀ (C : Cn) (F : Hp) (ow : Addr → Option Nat) (δ : DS) (σ : L2.St) (H : Hp), R P w K C F ow δ σ H → ∀ (b : Bool) (δ' : DS), e δ = some (b, δ') → ∀ Q : Bool → Hp → Prop,
  (∀ (F' : Hp) (ow' : Addr → Option Nat) (H' : Hp), R P w K C F' ow' δ' σ H' → Nx C F ow H F' ow' H' → Q b H') → t σ H Q
def RvsAt (F : Hp) (σ : L2.St) (vs : List V) (rs : List Rv) : Prop := Paired (RvAt P w K F σ) vs rs
def LA (t : TA) (e : AF) : Prop := ∀ (C : Cn) (F : Hp) (ow : Addr → Option Nat) (δ : DS) (σ : L2.St) (H : Hp), R P w K C F ow δ σ H → ∀ (rs : List Rv) (δ' : DS), e δ = some (rs, δ') → ∀ Q : List V → Hp → Prop,
  (∀ (vs : List V) (F' : Hp) (ow' : Addr → Option Nat) (H' : Hp), R P w K C F' ow' δ' σ H' → Nx C F ow H F' ow' H' → RvsAt P w K F' σ vs rs → Q vs H') → t σ H Q
/-- .. a new object, nobody's yet -/
def LO (t : TE) (e : OF) : Prop := ∀ (C : Cn) (F : Hp) (ow : Addr → Option Nat) (δ : DS) (σ : L2.St) (H : Hp), R P w K C F ow δ σ H → ∀ (d : DT) (δ' : DS), e δ = some (d, δ') → ∀ Q : VK,
  (∀ (a : Addr) (F' : Hp) (ow' : Addr → Option Nat) (H' : Hp), R P w K C F' ow' δ' σ H' → Nx C F ow H F' ow' H' → H a = none → F' a = none → ow' a = none → C.H0 a = none → (∃ o, H' a = some o) → Own P w K F' H' a d → Q (.ref a) H') → t σ H Q
end
def eVar (i : Nat) : EF := fun δ => match δ[i]? with
  | some (.dat d) => some (.d d, δ)
  | some (.own _) => some (.s i, δ)
  | some (.bor _) => some (.s i, δ)
  | _ => none
def eC (d : DT) : EF := fun δ => some (.d d, δ)
def e1 (f : DT → Option DT) (ea : EF) : EF := fun δ => (ea δ).bind fun p => (val p.2 p.1).bind fun x => (f x).map fun z => (.d z, p.2)
def e2 (f : DT → DT → Option DT) (ea eb : EF) : EF := fun δ => (ea δ).bind fun p => (eb p.2).bind fun q => (val q.2 p.1).bind fun x => (val q.2 q.1).bind fun y => (f x y).map fun z => (.d z, q.2)
def aNil : AF := fun δ => some ([], δ)
def aCons (e : EF) (es : AF) : AF := fun δ => (e δ).bind fun p => (es p.2).map fun q => (p.1 :: q.1, q.2)
def vals (δ : DS) : List Rv → Option (List DT)
  | [] => some []
  | r :: rs => (val δ r).bind fun x => (vals δ rs).map fun xs => x :: xs
def frzs (δ : DS) : List Rv → Option (List DT × DS)
  | [] => some ([], δ)
  | r :: rs => (frzV δ r).bind fun p => (frzs p.2 rs).map fun q => (p.1 :: q.1, q.2)
/-- a builtin of values -/
def eB (f : List DT → Option DT) (es : AF) : EF := fun δ => (es δ).bind fun p => (vals p.2 p.1).bind fun xs => (f xs).map fun z => (.d z, p.2)
def eTup (es : AF) : EF := fun δ => (es δ).bind fun p => (frzs p.2 p.1).bind fun q => if q.1.length ≤ sizeLine then some (.d (.tuple q.1), q.2) else none
def oLst (es : AF) : OF := fun δ => (es δ).bind fun p => (frzs p.2 p.1).bind fun q => if q.1.length ≤ sizeLine then some (.list q.1, q.2) else none
def oB (f : List DT → Option DT) (es : AF) : OF := fun δ => (es δ).bind fun p => (vals p.2 p.1).bind fun xs => (f xs).map fun z => (z, p.2)
def o2 (f : DT → DT → Option DT) (ea eb : EF) : OF := fun δ => (ea δ).bind fun p => (eb p.2).bind fun q => (val q.2 p.1).bind fun x => (val q.2 q.1).bind fun y => (f x y).map fun z => (z, q.2)
def o1 (f : DT → Option DT) (ea : EF) : OF := fun δ => (ea δ).bind fun p => (val p.2 p.1).bind fun x => (f x).map fun z => (z, p.2)
def eO (o : OF) : EF := fun δ => (o δ).map fun p => (.d p.1, p.2)
def tV (e : EF) : TF := fun δ => (e δ).bind fun p => (val p.2 p.1).bind fun x => match x with | .bool b => some (b, p.2) | _ => none
def truth : DT → Option Bool
  | .none => some false
  | .bool b => some b
  | .int i => some (i != 0)
  | .str z => if z.length ≤ sizeLine then some (z.length != 0) else none
  | .list ds => some (!ds.isEmpty)
  | .tuple ds => some (!ds.isEmpty)
  | .dict kvs => some (!kvs.isEmpty)
def tT (e : EF) : TF := fun δ => (e δ).bind fun p => (val p.2 p.1).bind fun x => (truth x).map fun b => (b, p.2)
def tAnd' (a b : TF) : TF := fun δ => (a δ).bind fun p => if p.1 = true then b p.2 else some (false, p.2)
def tOr' (a b : TF) : TF := fun δ => (a δ).bind fun p => if p.1 = true then some (true, p.2) else b p.2
def tNot' (a : TF) : TF := fun δ => (a δ).map fun p => (!p.1, p.2)
def eIf (c : TF) (a b : EF) : EF := fun δ => (c δ).bind fun p => if p.1 = true then a p.2 else b p.2
def eAnd (a b : EF) : EF := fun δ => (a δ).bind fun p => (val p.2 p.1).bind fun x => match x with | .bool true => b p.2 | .bool false => some (.d (.bool false), p.2) | _ => none
def eOr (a b : EF) : EF := fun δ => (a δ).bind fun p => (val p.2 p.1).bind fun x => match x with | .bool false => b p.2 | .bool true => some (.d (.bool true), p.2) | _ => none
def eNot (a : EF) : EF := fun δ => (a δ).bind fun p => (val p.2 p.1).bind fun x => match x with | .bool c => some (.d (.bool (!c)), p.2) | _ => none
/-- a < b < c -/
def eCh (f g : DT → DT → Option DT) (a b c : EF) : EF := fun δ => (a δ).bind fun p => (b p.2).bind fun q => (val q.2 p.1).bind fun x => (val q.2 q.1).bind fun y => (f x y).bind fun z => match z with
  | .bool true => (c q.2).bind fun r => (val r.2 q.1).bind fun y => (val r.2 r.1).bind fun u => (g y u).map fun z => (.d z, r.2)
  | .bool false => some (.d (.bool false), q.2)
  | _ => none
/-- at most new things are laid into the part that stays -/
inductive Ex (F H : Hp) : Hp → Hp → Prop
  | refl : Ex F H F H
  | new {F1 H1 : Hp} {p : Addr} {o : HO} : Ex F H F1 H1 → H1 p = none → Ex F H (upd F1 p o) (upd H1 p o)
section
variable {P : Program} {w : World} {K : PySem.W.Frag}
theorem R.ex {C : Cn} {F F' H H' : Hp} {ow : Addr → Option Nat} {δ : DS} {σ : L2.St} (r : R P w K C F ow δ σ H) (h : Ex F H F' H') : R P w K C F' ow δ σ H' ∧ Nx C F ow H F' ow H' := by
  induction h with
  | refl => exact ⟨r, Nx.refl⟩
  | @new F1 H1 p o _ n ih =>
    obtain ⟨r1, l1⟩ := ih
    have nF : F1 p = none := by
      cases q : F1 p with
      | none => rfl
      | some u =>
        rw [r1.le _ _ q] at n
        cases n
    refine ⟨r1.laid n, l1.trans ⟨Fle.new nF, fun a u h f g _ => ?_, fun a u h => ⟨u, (upd_ne (ne_of_none h n)).trans h⟩⟩⟩
    have c := ne_of_none h n
    exact ⟨by rw [upd_ne c]; exact h, by rw [upd_ne c]; exact f, g⟩
/-- an operation by values -/
def OpL (P : Program) (w : World) (K : PySem.W.Frag) (r : R2) (f : DT → DT → Option DT) : Prop := ∀ (F H : Hp) (x y : V) (dx dy dz : DT), Le F H → Ob P w K F H x dx → Ob P w K F H y dy → f dx dy = some dz → ∀ Q : VK, (∀ v F' H', Ex F H F' H' → Dat P w K F' v dz → Q v H') → r x y H Q
def OpO (P : Program) (w : World) (K : PySem.W.Frag) (r : R2) (f : DT → DT → Option DT) : Prop := ∀ (F H : Hp) (x y : V) (dx dy dz : DT), Le F H → Ob P w K F H x dx → Ob P w K F H y dy → f dx dy = some dz → ∀ Q : VK, (∀ a o, H a = none → Own P w K F (upd H a o) a dz → Q (.ref a) (upd H a o)) → r x y H Q
def CbL (P : Program) (w : World) (K : PySem.W.Frag) (r : List V → Hp → VK → Prop) (f : List DT → Option DT) : Prop := ∀ (F H : Hp) (vs : List V) (ds : List DT) (dz : DT), Le F H → Paired (Ob P w K F H) vs ds → f ds = some dz → ∀ Q : VK, (∀ v F' H', Ex F H F' H' → Dat P w K F' v dz → Q v H') → r vs H Q
def CbO (P : Program) (w : World) (K : PySem.W.Frag) (r : List V → Hp → VK → Prop) (f : List DT → Option DT) : Prop := ∀ (F H : Hp) (vs : List V) (ds : List DT) (dz : DT), Le F H → Paired (Ob P w K F H) vs ds → f ds = some dz → ∀ Q : VK, (∀ a o, H a = none → Own P w K F (upd H a o) a dz → Q (.ref a) (upd H a o)) → r vs H Q
def UnL (P : Program) (w : World) (K : PySem.W.Frag) (r : V → Hp → VK → Prop) (f : DT → Option DT) : Prop := ∀ (F H : Hp) (x : V) (dx dz : DT), Le F H → Ob P w K F H x dx → f dx = some dz → ∀ Q : VK, (∀ v F' H', Ex F H F' H' → Dat P w K F' v dz → Q v H') → r x H Q
def UnO (P : Program) (w : World) (K : PySem.W.Frag) (r : V → Hp → VK → Prop) (f : DT → Option DT) : Prop := ∀ (F H : Hp) (x : V) (dx dz : DT), Le F H → Ob P w K F H x dx → f dx = some dz → ∀ Q : VK, (∀ a o, H a = none → Own P w K F (upd H a o) a dz → Q (.ref a) (upd H a o)) → r x H Q
/-- .. a new object, nobody's -/
theorem R.fresh {C : Cn} {F H : Hp} {ow : Addr → Option Nat} {δ : DS} {σ : L2.St} (r : R P w K C F ow δ σ H) {a : Addr} (o : HO) (n : H a = none) : R P w K C F ow δ σ (upd H a o) ∧ F a = none ∧ ow a = none ∧ C.H0 a = none := by
  have nF : F a = none := by
    cases q : F a with
    | none => rfl
    | some u =>
      rw [r.le _ _ q] at n
      cases n
  have n0 : C.H0 a = none := by
    cases q : C.H0 a with
    | none => rfl
    | some u =>
      obtain ⟨o', e⟩ := r.dom _ _ q
      rw [e] at n
      cases n
  have nw' : ∀ b i, ow b = some i → b ≠ a := fun b i e z => by
    obtain ⟨_, o, e1⟩ := r.own b i e
    rw [z, n] at e1
    cases e1
  have nw : ow a = none := by
    cases q : ow a with
    | none => rfl
    | some i => exact absurd rfl (nw' a i q)
  refine ⟨⟨r.grow, r.new, fun b u e => ?_, fun b u e f g => ?_, fun b u e => ?_, fun b i e => ?_, r.ins, r.len, fun i s e => ?_⟩, nF, nw, n0⟩
  · rw [upd_ne (ne_of_none e nF)]
    exact r.le b u e
  · rw [upd_ne (ne_of_none e n0)]
    exact r.keep b u e f g
  · rw [upd_ne (ne_of_none e n0)]
    exact r.dom b u e
  · rw [upd_ne (nw' b i e)]
    exact r.own b i e
  · have h := r.sl i s e
    generalize σ[i]? = y at h
    cases h with
    | no => exact .no
    | dat x => exact .dat x
    | own a b x => exact .own a b (x.keep (Fle.refl _) (upd_ne (nw' _ _ a)))
    | bor a b c x => exact .bor a b c (x.keep (Fle.refl _) (upd_ne (nw' _ _ a)))
theorem R.freshN {C : Cn} {F H : Hp} {ow : Addr → Option Nat} {δ : DS} {σ : L2.St} (r : R P w K C F ow δ σ H) {a : Addr} (o : HO) (n : H a = none) : R P w K C F ow δ σ (upd H a o) ∧ F a = none ∧ ow a = none ∧ C.H0 a = none ∧ Nx C F ow H F ow (upd H a o) := by
  obtain ⟨r1, n1, n2, n3⟩ := r.fresh o n
  exact ⟨r1, n1, n2, n3, Fle.refl F, fun b u h f g _ => ⟨by rw [upd_ne (ne_of_none h n)]; exact h, f, g⟩, fun b u h => ⟨u, (upd_ne (ne_of_none h n)).trans h⟩⟩
theorem le_var (i : Nat) : LE P w K (tVar i) (eVar i) := by
  intro C F ow δ σ H r x δ' e Q k
  have e : (match δ[i]? with | some (.dat d) => some (Rv.d d, δ) | some (.own _) => some (.s i, δ) | some (.bor _) => some (.s i, δ) | _ => none) = some (x, δ') := e
  cases q : δ[i]? with
  | none =>
    rw [q] at e
    cases e
  | some s =>
    rw [q] at e
    have z := r.sl i s q
    generalize hy : σ[i]? = y at z
    cases z with
    | no => cases e
    | dat d =>
      cases Option.some.inj e
      exact ⟨_, hy, k _ F ow H r Nx.refl d⟩
    | own a b c =>
      cases Option.some.inj e
      exact ⟨_, hy, k _ F ow H r Nx.refl hy⟩
    | bor a b c d =>
      cases Option.some.inj e
      exact ⟨_, hy, k _ F ow H r Nx.refl hy⟩
def vD : V → DT
  | .bl b => .bool b
  | .int i => .int i
  | .str z => .str z
  | _ => .none
def flat : V → Bool
  | .bl _ => true
  | .int _ => true
  | .str _ => true
  | .non => true
  | _ => false
theorem dat_flat {F : Hp} : ∀ {v : V}, flat v = true → Dat P w K F v (vD v)
  | .non, _ => .non
  | .bl b, _ => .bl b
  | .int i, _ => .int i
  | .str z, _ => .str z
theorem le_c {v : V} (h : flat v = true := by rfl) : LE P w K (tC v) (eC (vD v)) := by
  intro C F ow δ σ H r x δ' e Q k
  cases Option.some.inj e
  exact k _ F ow H r Nx.refl (dat_flat h)
theorem ob2 {C : Cn} {F F1 F2 H1 H2 : Hp} {ow1 ow2 : Addr → Option Nat} {δ1 δ2 : DS} {σ : L2.St} {v u : V} {x y : Rv} {dx dy : DT} (r2 : R P w K C F2 ow2 δ2 σ H2) (l2 : Fle F1 F2) (hv : RvAt P w K F1 σ v x) (hu : RvAt P w K F2 σ u y) (ex : val δ2 x = some dx) (ey : val δ2 y = some dy) : Ob P w K F2 H2 v dx ∧ Ob P w K F2 H2 u dy := ⟨r2.ob (hv.mono l2) ex, r2.ob hu ey⟩
theorem le_op {r : R2} {f : DT → DT → Option DT} {ta tb : TE} {ea eb : EF} (h : OpL P w K r f) (ha : LE P w K ta ea) (hb : LE P w K tb eb) : LE P w K (tOp r ta tb) (e2 f ea eb) := by
  intro C F ow δ σ H r0 x δ' e Q k
  obtain ⟨⟨x1, δ1⟩, e1, e⟩ := Option.bind_eq_some_iff.mp e
  obtain ⟨⟨x2, δ2⟩, e2, e⟩ := Option.bind_eq_some_iff.mp e
  obtain ⟨d1, v1, e⟩ := Option.bind_eq_some_iff.mp e
  obtain ⟨d2, v2, e⟩ := Option.bind_eq_some_iff.mp e
  obtain ⟨z, hz, e⟩ := Option.map_eq_some_iff.mp e
  cases e
  refine ha C F ow δ σ H r0 _ _ e1 _ fun v F1 ow1 H1 r1 l1 h1 => hb C F1 ow1 δ1 σ H1 r1 _ _ e2 _ fun u F2 ow2 H2 r2 l2 h2 => ?_
  refine h F2 H2 v u d1 d2 z r2.le (r2.ob (h1.mono l2.le) v1) (r2.ob h2 v2) hz _ fun y F' H' ex dy => ?_
  obtain ⟨r3, l3⟩ := r2.ex ex
  exact k y F' ow2 H' r3 (l1.trans (l2.trans l3)) dy
theorem lo_op {r : R2} {f : DT → DT → Option DT} {ta tb : TE} {ea eb : EF} (h : OpO P w K r f) (ha : LE P w K ta ea) (hb : LE P w K tb eb) : LO P w K (tOp r ta tb) (o2 f ea eb) := by
  intro C F ow δ σ H r0 x δ' e Q k
  obtain ⟨⟨x1, δ1⟩, e1, e⟩ := Option.bind_eq_some_iff.mp e
  obtain ⟨⟨x2, δ2⟩, e2, e⟩ := Option.bind_eq_some_iff.mp e
  obtain ⟨d1, v1, e⟩ := Option.bind_eq_some_iff.mp e
  obtain ⟨d2, v2, e⟩ := Option.bind_eq_some_iff.mp e
  obtain ⟨z, hz, e⟩ := Option.map_eq_some_iff.mp e
  cases e
  refine ha C F ow δ σ H r0 _ _ e1 _ fun v F1 ow1 H1 r1 l1 h1 => hb C F1 ow1 δ1 σ H1 r1 _ _ e2 _ fun u F2 ow2 H2 r2 l2 h2 => ?_
  refine h F2 H2 v u d1 d2 _ r2.le (r2.ob (h1.mono l2.le) v1) (r2.ob h2 v2) hz _ fun a o n dy => ?_
  obtain ⟨r3, n1, n2, n3, l3⟩ := r2.freshN o n
  exact k a F2 ow2 _ r3 (l1.trans (l2.trans l3)) ((l1.trans l2).no n) n1 n2 n3 ⟨o, upd_same⟩ dy
theorem le_un {r : V → Hp → VK → Prop} {f : DT → Option DT} {ta : TE} {ea : EF} (h : UnL P w K r f) (ha : LE P w K ta ea) : LE P w K (tUn r ta) (e1 f ea) := by
  intro C F ow δ σ H r0 x δ' e Q k
  obtain ⟨⟨x1, δ1⟩, e1, e⟩ := Option.bind_eq_some_iff.mp e
  obtain ⟨d1, v1, e⟩ := Option.bind_eq_some_iff.mp e
  obtain ⟨z, hz, e⟩ := Option.map_eq_some_iff.mp e
  cases e
  refine ha C F ow δ σ H r0 _ _ e1 _ fun v F1 ow1 H1 r1 l1 h1 => ?_
  refine h F1 H1 v d1 _ r1.le (r1.ob h1 v1) hz _ fun y F' H' ex dy => ?_
  obtain ⟨r3, l3⟩ := r1.ex ex
  exact k y F' ow1 H' r3 (l1.trans l3) dy
theorem la_nil : LA P w K tNil aNil := by
  intro C F ow δ σ H r0 x δ' e Q k
  cases Option.some.inj e
  exact k [] F ow H r0 Nx.refl .nil
theorem RvsAt.mono {F F' : Hp} {σ : L2.St} {vs : List V} {rs : List Rv} (h : RvsAt P w K F σ vs rs) (l : Fle F F') : RvsAt P w K F' σ vs rs := Paired.mapP h fun _ _ x => x.mono l
theorem la_cons {ta : TE} {ea : EF} {tr : TA} {er : AF} (ha : LE P w K ta ea) (hr : LA P w K tr er) : LA P w K (tCons ta tr) (aCons ea er) := by
  intro C F ow δ σ H r0 x δ' e Q k
  obtain ⟨⟨x1, δ1⟩, e1, e⟩ := Option.bind_eq_some_iff.mp e
  obtain ⟨⟨x2, δ2⟩, e2, e⟩ := Option.map_eq_some_iff.mp e
  cases e
  refine ha C F ow δ σ H r0 _ _ e1 _ fun v F1 ow1 H1 r1 l1 h1 => hr C F1 ow1 δ1 σ H1 r1 _ _ e2 _ fun u F2 ow2 H2 r2 l2 h2 => ?_
  exact k (v :: u) F2 ow2 H2 r2 (l1.trans l2) (.cons (h1.mono l2.le) h2)
theorem R.obs {C : Cn} {F H : Hp} {ow : Addr → Option Nat} {δ : DS} {σ : L2.St} (r : R P w K C F ow δ σ H) : ∀ {vs : List V} {rs : List Rv} {ds : List DT}, RvsAt P w K F σ vs rs → vals δ rs = some ds → Paired (Ob P w K F H) vs ds
  | _, _, _, .nil, e => by
    cases Option.some.inj e
    exact .nil
  | _, _, _, .cons a b, e => by
    obtain ⟨x, h1, e⟩ := Option.bind_eq_some_iff.mp e
    obtain ⟨xs, h2, e⟩ := Option.map_eq_some_iff.mp e
    cases e
    exact .cons (r.ob a h1) (r.obs b h2)
theorem R.freezeN {C : Cn} {F H : Hp} {ow : Addr → Option Nat} {δ δ' : DS} {σ : L2.St} (r : R P w K C F ow δ σ H) {v : V} {x : Rv} (h : RvAt P w K F σ v x) {d : DT} (e : frzV δ x = some (d, δ')) : ∃ F' ow', Nx C F ow H F' ow' H ∧ R P w K C F' ow' δ' σ H ∧ Dat P w K F' v d := by
  obtain ⟨F', ow', l, r', dd, z⟩ := r.freeze h e
  exact ⟨F', ow', ⟨l, fun a o h f g _ => ⟨h, z a f g⟩, fun a o h => ⟨o, h⟩⟩, r', dd⟩
theorem R.freezes : ∀ {rs : List Rv} {C : Cn} {F H : Hp} {ow : Addr → Option Nat} {δ δ' : DS} {σ : L2.St} {vs : List V} {ds : List DT}, R P w K C F ow δ σ H → RvsAt P w K F σ vs rs → frzs δ rs = some (ds, δ') → ∃ F' ow', Nx C F ow H F' ow' H ∧ R P w K C F' ow' δ' σ H ∧ Dats P w K F' vs ds
  | [], _, F, _, ow, _, _, _, _, _, r, h, e => by
    cases Option.some.inj e
    cases h
    exact ⟨F, ow, Nx.refl, r, .nil⟩
  | x :: xs, _, _, _, _, _, _, _, _, _, r, h, e => by
    obtain ⟨⟨d, δ1⟩, h1, e⟩ := Option.bind_eq_some_iff.mp e
    obtain ⟨⟨ds, δ2⟩, h2, e⟩ := Option.map_eq_some_iff.mp e
    cases e
    cases h with
    | cons a b =>
      obtain ⟨F1, ow1, l1, r1, d1⟩ := r.freezeN a h1
      obtain ⟨F2, ow2, l2, r2, d2⟩ := R.freezes r1 (RvsAt.mono b l1.le) h2
      exact ⟨F2, ow2, l1.trans l2, r2, .cons (d1.mono l2.le) d2⟩
theorem le_cb {r : List V → Hp → VK → Prop} {f : List DT → Option DT} {ta : TA} {ea : AF} (h : CbL P w K r f) (ha : LA P w K ta ea) : LE P w K (tCB r ta) (eB f ea) := by
  intro C F ow δ σ H r0 x δ' e Q k
  obtain ⟨⟨x1, δ1⟩, e1, e⟩ := Option.bind_eq_some_iff.mp e
  obtain ⟨ds, v1, e⟩ := Option.bind_eq_some_iff.mp e
  obtain ⟨z, hz, e⟩ := Option.map_eq_some_iff.mp e
  cases e
  refine ha C F ow δ σ H r0 _ _ e1 _ fun vs F1 ow1 H1 r1 l1 h1 => ?_
  refine h F1 H1 vs ds _ r1.le (r1.obs h1 v1) hz _ fun y F' H' ex dy => ?_
  obtain ⟨r3, l3⟩ := r1.ex ex
  exact k y F' ow1 H' r3 (l1.trans l3) dy
theorem lo_cb {r : List V → Hp → VK → Prop} {f : List DT → Option DT} {ta : TA} {ea : AF} (h : CbO P w K r f) (ha : LA P w K ta ea) : LO P w K (tCB r ta) (oB f ea) := by
  intro C F ow δ σ H r0 x δ' e Q k
  obtain ⟨⟨x1, δ1⟩, e1, e⟩ := Option.bind_eq_some_iff.mp e
  obtain ⟨ds, v1, e⟩ := Option.bind_eq_some_iff.mp e
  obtain ⟨z, hz, e⟩ := Option.map_eq_some_iff.mp e
  cases e
  refine ha C F ow δ σ H r0 _ _ e1 _ fun vs F1 ow1 H1 r1 l1 h1 => ?_
  refine h F1 H1 vs ds _ r1.le (r1.obs h1 v1) hz _ fun a o n dy => ?_
  obtain ⟨r3, n1, n2, n3, l3⟩ := r1.freshN o n
  exact k a F1 ow1 _ r3 (l1.trans l3) (l1.no n) n1 n2 n3 ⟨o, upd_same⟩ dy
/-- a new object that nobody keeps is put away -/
theorem le_o {t : TE} {o : OF} (h : LO P w K t o) : LE P w K t (eO o) := by
  intro C F ow δ σ H r0 x δ' e Q k
  obtain ⟨⟨d, δ1⟩, e1, e⟩ := Option.map_eq_some_iff.mp e
  cases e
  refine h C F ow δ σ H r0 _ _ e1 _ fun a F1 ow1 H1 r1 l1 n0 n1 n2 n3 ⟨ob, ho⟩ hd => ?_
  refine k _ _ ow1 H1 (r1.put ho n1 n3 n2) ⟨l1.le.trans (Fle.new n1), fun b u h f g q => ?_, l1.dm⟩ (hd.dat (Fle.new n1) (upd_same.trans ho.symm))
  obtain ⟨h1, f1, g1⟩ := l1.fr b u h f g q
  exact ⟨h1, by rw [upd_ne (ne_of_none h n0)]; exact f1, g1⟩
theorem le_tup {ta : TA} {ea : AF} (ha : LA P w K ta ea) : LE P w K (tTupF ta) (eTup ea) := by
  intro C F ow δ σ H r0 x δ' e Q k
  obtain ⟨⟨x1, δ1⟩, e1, e⟩ := Option.bind_eq_some_iff.mp e
  obtain ⟨⟨ds, δ2⟩, v1, e⟩ := Option.bind_eq_some_iff.mp e
  split at e
  · next hl =>
    cases e
    refine ha C F ow δ σ H r0 _ _ e1 _ fun vs F1 ow1 H1 r1 l1 h1 => ?_
    obtain ⟨F2, ow2, l2, r2, d2⟩ := r1.freezes h1 v1
    refine ⟨by rw [d2.len]; exact hl, fun p o n nd => ?_⟩
    have r3 := r2.laid (o := .frz o (.tup vs)) n
    have l3 := (r2.ex (.new .refl n (o := .frz o (.tup vs)))).2
    exact k _ _ ow2 _ r3 (l1.trans (l2.trans l3)) (.tup ⟨o, upd_same, nd⟩ (d2.mono l3.le))
  · cases e
theorem lo_lst {ta : TA} {ea : AF} (ha : LA P w K ta ea) : LO P w K (tLst ta) (oLst ea) := by
  intro C F ow δ σ H r0 x δ' e Q k
  obtain ⟨⟨x1, δ1⟩, e1, e⟩ := Option.bind_eq_some_iff.mp e
  obtain ⟨⟨ds, δ2⟩, v1, e⟩ := Option.bind_eq_some_iff.mp e
  split at e
  · next hl =>
    cases e
    refine ha C F ow δ σ H r0 _ _ e1 _ fun vs F1 ow1 H1 r1 l1 h1 => ?_
    obtain ⟨F2, ow2, l2, r2, d2⟩ := r1.freezes h1 v1
    refine ⟨by rw [d2.len]; exact hl, fun p n => ?_⟩
    obtain ⟨r3, n1, n2, n3, l3⟩ := r2.freshN (.lst vs) n
    exact k _ _ ow2 _ r3 (l1.trans (l2.trans l3)) ((l1.trans l2).no n) n1 n2 n3 ⟨_, upd_same⟩ (.lst upd_same d2)
  · cases e
/-! tests -/
theorem val_bl {C : Cn} {F H : Hp} {ow : Addr → Option Nat} {δ : DS} {σ : L2.St} (r : R P w K C F ow δ σ H) {v : V} {x : Rv} (h : RvAt P w K F σ v x) {b : Bool} (e : val δ x = some (.bool b)) : v = .bl b := by
  have := r.ob h e
  cases this
  rfl
theorem lt_v {t : TE} {e : EF} (h : LE P w K t e) : LT P w K (tB t) (tV e) := by
  intro C F ow δ σ H r0 b δ' eq Q k
  obtain ⟨⟨x1, δ1⟩, e1, eq⟩ := Option.bind_eq_some_iff.mp eq
  obtain ⟨d, v1, eq⟩ := Option.bind_eq_some_iff.mp eq
  refine h C F ow δ σ H r0 _ _ e1 _ fun v F1 ow1 H1 r1 l1 h1 => ?_
  cases d with
  | bool c =>
    cases Option.some.inj eq
    exact ⟨b, val_bl r1 h1 v1, k F1 ow1 H1 r1 l1⟩
  | _ => cases eq
theorem lt_t {t : TE} {e : EF} (h : LE P w K t e) : LT P w K (tTest t) (tV e) := lt_v h
theorem lt_and {t u : TT} {a b : TF} (ha : LT P w K t a) (hb : LT P w K u b) : LT P w K (tAnd t u) (tAnd' a b) := by
  intro C F ow δ σ H r0 c δ' eq Q k
  obtain ⟨⟨b1, δ1⟩, e1, eq⟩ := Option.bind_eq_some_iff.mp eq
  refine ha C F ow δ σ H r0 _ _ e1 _ fun F1 ow1 H1 r1 l1 => ?_
  cases b1 with
  | true => exact iteT (hb C F1 ow1 δ1 σ H1 r1 _ _ eq _ fun F2 ow2 H2 r2 l2 => k F2 ow2 H2 r2 (l1.trans l2))
  | false =>
    cases Option.some.inj eq
    exact iteF (k F1 ow1 H1 r1 l1)
theorem lt_or {t u : TT} {a b : TF} (ha : LT P w K t a) (hb : LT P w K u b) : LT P w K (tOr t u) (tOr' a b) := by
  intro C F ow δ σ H r0 c δ' eq Q k
  obtain ⟨⟨b1, δ1⟩, e1, eq⟩ := Option.bind_eq_some_iff.mp eq
  refine ha C F ow δ σ H r0 _ _ e1 _ fun F1 ow1 H1 r1 l1 => ?_
  cases b1 with
  | false => exact iteF (hb C F1 ow1 δ1 σ H1 r1 _ _ eq _ fun F2 ow2 H2 r2 l2 => k F2 ow2 H2 r2 (l1.trans l2))
  | true =>
    cases Option.some.inj eq
    exact iteT (k F1 ow1 H1 r1 l1)
theorem lt_not {t : TT} {a : TF} (ha : LT P w K t a) : LT P w K (tNot t) (tNot' a) := by
  intro C F ow δ σ H r0 c δ' eq Q k
  obtain ⟨⟨b1, δ1⟩, e1, eq⟩ := Option.map_eq_some_iff.mp eq
  cases eq
  exact ha C F ow δ σ H r0 _ _ e1 _ fun F1 ow1 H1 r1 l1 => k F1 ow1 H1 r1 l1
theorem le_if {t : TT} {ta tb : TE} {c : TF} {a b : EF} (h : LT P w K t c) (ha : LE P w K ta a) (hb : LE P w K tb b) : LE P w K (tIf t ta tb) (eIf c a b) := by
  intro C F ow δ σ H r0 x δ' eq Q k
  obtain ⟨⟨b1, δ1⟩, e1, eq⟩ := Option.bind_eq_some_iff.mp eq
  refine h C F ow δ σ H r0 _ _ e1 _ fun F1 ow1 H1 r1 l1 => ?_
  cases b1 with
  | true => exact iteT (ha C F1 ow1 δ1 σ H1 r1 _ _ eq _ fun v F2 ow2 H2 r2 l2 => k v F2 ow2 H2 r2 (l1.trans l2))
  | false => exact iteF (hb C F1 ow1 δ1 σ H1 r1 _ _ eq _ fun v F2 ow2 H2 r2 l2 => k v F2 ow2 H2 r2 (l1.trans l2))
theorem le_and {ta tb : TE} {a b : EF} (ha : LE P w K ta a) (hb : LE P w K tb b) : LE P w K (tAndV ta tb) (eAnd a b) := by
  intro C F ow δ σ H r0 x δ' eq Q k
  obtain ⟨⟨x1, δ1⟩, e1, eq⟩ := Option.bind_eq_some_iff.mp eq
  obtain ⟨d, v1, eq⟩ := Option.bind_eq_some_iff.mp eq
  refine ha C F ow δ σ H r0 _ _ e1 _ fun v F1 ow1 H1 r1 l1 h1 => ?_
  cases d with
  | bool c =>
    refine ⟨c, val_bl r1 h1 v1, ?_⟩
    cases c with
    | true => exact iteT (hb C F1 ow1 δ1 σ H1 r1 _ _ eq _ fun v F2 ow2 H2 r2 l2 => k v F2 ow2 H2 r2 (l1.trans l2))
    | false =>
      cases Option.some.inj eq
      exact iteF (k _ F1 ow1 H1 r1 l1 (.bl false))
  | _ => cases eq
theorem le_or {ta tb : TE} {a b : EF} (ha : LE P w K ta a) (hb : LE P w K tb b) : LE P w K (tOrV ta tb) (eOr a b) := by
  intro C F ow δ σ H r0 x δ' eq Q k
  obtain ⟨⟨x1, δ1⟩, e1, eq⟩ := Option.bind_eq_some_iff.mp eq
  obtain ⟨d, v1, eq⟩ := Option.bind_eq_some_iff.mp eq
  refine ha C F ow δ σ H r0 _ _ e1 _ fun v F1 ow1 H1 r1 l1 h1 => ?_
  cases d with
  | bool c =>
    refine ⟨c, val_bl r1 h1 v1, ?_⟩
    cases c with
    | false => exact iteF (hb C F1 ow1 δ1 σ H1 r1 _ _ eq _ fun v F2 ow2 H2 r2 l2 => k v F2 ow2 H2 r2 (l1.trans l2))
    | true =>
      cases Option.some.inj eq
      exact iteT (k _ F1 ow1 H1 r1 l1 (.bl true))
  | _ => cases eq
theorem le_not {ta : TE} {a : EF} (ha : LE P w K ta a) : LE P w K (tNotV ta) (eNot a) := by
  intro C F ow δ σ H r0 x δ' eq Q k
  obtain ⟨⟨x1, δ1⟩, e1, eq⟩ := Option.bind_eq_some_iff.mp eq
  obtain ⟨d, v1, eq⟩ := Option.bind_eq_some_iff.mp eq
  refine ha C F ow δ σ H r0 _ _ e1 _ fun v F1 ow1 H1 r1 l1 h1 => ?_
  cases d with
  | bool c =>
    cases Option.some.inj eq
    exact ⟨c, val_bl r1 h1 v1, k _ F1 ow1 H1 r1 l1 (.bl _)⟩
  | _ => cases eq
theorem le_chain {r r' : R2} {f g : DT → DT → Option DT} {ta tb tc : TE} {a b c : EF} (h : OpL P w K r f) (h' : OpL P w K r' g) (ha : LE P w K ta a) (hb : LE P w K tb b) (hc : LE P w K tc c) : LE P w K (tChain r r' ta tb tc) (eCh f g a b c) := by
  intro C F ow δ σ H r0 x δ' e Q k
  obtain ⟨⟨x1, δ1⟩, e1, e⟩ := Option.bind_eq_some_iff.mp e
  obtain ⟨⟨x2, δ2⟩, e2, e⟩ := Option.bind_eq_some_iff.mp e
  obtain ⟨d1, v1, e⟩ := Option.bind_eq_some_iff.mp e
  obtain ⟨d2, v2, e⟩ := Option.bind_eq_some_iff.mp e
  obtain ⟨z, hz, e⟩ := Option.bind_eq_some_iff.mp e
  refine ha C F ow δ σ H r0 _ _ e1 _ fun v F1 ow1 H1 r1 l1 h1 => hb C F1 ow1 δ1 σ H1 r1 _ _ e2 _ fun u F2 ow2 H2 r2 l2 h2 => ?_
  refine h F2 H2 v u d1 d2 z r2.le (r2.ob (h1.mono l2.le) v1) (r2.ob h2 v2) hz _ fun y F' H' ex dy => ?_
  obtain ⟨r3, l3⟩ := r2.ex ex
  cases z with
  | bool c0 =>
    cases dy
    refine ⟨c0, rfl, ?_⟩
    cases c0 with
    | true =>
      obtain ⟨⟨x4, δ4⟩, e4, e⟩ := Option.bind_eq_some_iff.mp e
      obtain ⟨d3, v3, e⟩ := Option.bind_eq_some_iff.mp e
      obtain ⟨d4, v4, e⟩ := Option.bind_eq_some_iff.mp e
      obtain ⟨z2, hz2, e⟩ := Option.map_eq_some_iff.mp e
      cases e
      refine iteT (hc C F' ow2 δ2 σ H' r3 _ _ e4 _ fun u4 F4 ow4 H4 r4 l4 h4 => ?_)
      refine h' F4 H4 u u4 d3 d4 z2 r4.le (r4.ob (h2.mono (l3.trans l4).le) v3) (r4.ob h4 v4) hz2 _ fun y F5 H5 ex5 dy5 => ?_
      obtain ⟨r5, l5⟩ := r4.ex ex5
      exact k y F5 ow4 H5 r5 (l1.trans (l2.trans (l3.trans (l4.trans l5)))) dy5
    | false =>
      cases Option.some.inj e
      exact iteF (k _ F' ow2 H' r3 (l1.trans (l2.trans l3)) (.bl false))
  | _ => cases e
end
/-! ### statements -/
inductive Out where
  | nx (δ : DS)
  | rt (d : DT) (δ : DS)
  | ro (d : DT) (δ : DS)
  | bk (δ : DS)
  | ct (δ : DS)
abbrev SF := DS → Option Out
abbrev GF := DT → DS → Option DS
abbrev IF := DS → Option (List DT × DS)
/-- at most the slots ts differ -/
def Sd (ts : List Nat) (σ σ' : L2.St) : Prop := σ'.length = σ.length ∧ ∀ i, i ∉ ts → σ'[i]? = σ[i]?
section
variable (P : Program) (w : World) (K : PySem.W.Frag)
def OutOk (C : Cn) (D : Ends) : Out → Prop
  | .nx δ => ∀ F ow σ H, R P w K C F ow δ σ H → D.nx σ H
  | .bk δ => ∀ F ow σ H, R P w K C F ow δ σ H → D.bk σ H
  | .ct δ => ∀ F ow σ H, R P w K C F ow δ σ H → D.ct σ H
  | .rt d δ => ∀ F ow σ H v, R P w K C F ow δ σ H → Dat P w K F v d → D.rt v H
  | .ro d δ => ∀ F ow σ H a, R P w K C F ow δ σ H → F a = none → ow a = none → C.H0 a = none → (∃ o, H a = some o) → Own P w K F H a d → D.rt (.ref a) H
def LS (t : TS) (s : SF) : Prop := ∀ (C : Cn) (F : Hp) (ow : Addr → Option Nat) (δ : DS) (σ : L2.St) (H : Hp), R P w K C F ow δ σ H → ∀ o, s δ = some o → ∀ D : Ends, OutOk P w K C D o → t D σ H
def LG (g : TG) (f : GF) (ts : List Nat) : Prop := ∀ (C : Cn) (F : Hp) (ow : Addr → Option Nat) (δ : DS) (σ : L2.St) (H : Hp), R P w K C F ow δ σ H → ∀ (d : DT) (δ' : DS), f d δ = some δ' → ∀ v, Dat P w K F v d → ∀ Q : L2.St → Hp → Prop,
  (∀ ow' σ', R P w K C F ow' δ' σ' H → (∀ a, ow a = none → ow' a = none) → Sd ts σ σ' → Q σ' H) → g v σ H Q
/-- what is walked gives the data ds -/
structure VW (F : Hp) (J : It) (ds : List DT) : Prop where
  goes : ∀ i H F', Fle F F' → Le F' H → i < ds.length → J.go i H
  stops : ∀ H F', Fle F F' → Le F' H → J.stop ds.length H
  yields : ∀ i H x H' F', Fle F F' → Le F' H → i < ds.length → J.yld i H x H' → ∃ F'' d, Ex F' H F'' H' ∧ ds[i]? = some d ∧ Dat P w K F'' x d
def LI (wi : L2.TI) (e : IF) : Prop := ∀ (C : Cn) (F : Hp) (ow : Addr → Option Nat) (δ : DS) (σ : L2.St) (H : Hp), R P w K C F ow δ σ H → ∀ (ds : List DT) (δ' : DS), e δ = some (ds, δ') → ∀ Q : It → Hp → Prop,
  (∀ (J : It) (F' : Hp) (ow' : Addr → Option Nat) (H' : Hp), R P w K C F' ow' δ' σ H' → Nx C F ow H F' ow' H' → VW P w K F' J ds → Q J H') → wi σ H Q
end
def sNext : SF := fun δ => some (.nx δ)
def sSeq (s t : SF) : SF := fun δ => (s δ).bind fun o => match o with
  | .nx δ' => t δ'
  | .rt d δ' => some (.rt d δ')
  | .ro d δ' => some (.ro d δ')
  | .bk δ' => some (.bk δ')
  | .ct δ' => some (.ct δ')
def sDrop (e : EF) : SF := fun δ => (e δ).map fun p => .nx p.2
def sRet (e : EF) : SF := fun δ => (e δ).bind fun p => (frzV p.2 p.1).map fun q => .rt q.1 q.2
def sRetN : SF := fun δ => some (.rt .none δ)
def sIf (c : TF) (s t : SF) : SF := fun δ => (c δ).bind fun p => if p.1 = true then s p.2 else t p.2
def sBreak : SF := fun δ => some (.bk δ)
def sCont : SF := fun δ => some (.ct δ)
def sNever : SF := fun _ => none
def gN (i : Nat) : GF := fun d δ => if free δ i = true then some (δ.set i (.dat d)) else none
def partsD : DT → Option (List DT)
  | .tuple ds => some ds
  | .dict [(.bool false, d), (.bool false, e)] => some [d, e]
  | _ => none
def gT (gs : List GF) : GF := fun d δ => (partsD d).bind fun ds => if ds.length = gs.length then (List.zip gs ds).foldlM (fun δ p => p.1 p.2 δ) δ else none
theorem Dat.parts {P : Program} {w : World} {K : PySem.W.Frag} {F H : Hp} (le : Le F H) {v : V} {d : DT} {ds : List DT} (x : Dat P w K F v d) (e : partsD d = some ds) : ∃ a vs, v = .ref a ∧ SqT K H a vs ∧ Dats P w K F vs ds := by
  unfold partsD at e
  split at e
  · cases Option.some.inj e
    obtain ⟨a, vs, rfl, h1, h2⟩ := x.tupE
    exact ⟨a, vs, rfl, (h1.le le).sq, h2⟩
  · next d1 d2 =>
    cases Option.some.inj e
    generalize hd : PyData.dict [(PyData.bool false, d1), (PyData.bool false, d2)] = dd at x
    cases x with
    | pr h a b =>
      have h1 := PyData.dict.inj hd
      cases h1
      exact ⟨_, _, rfl, SqT.of (le _ _ h), .cons a (.cons b .nil)⟩
    | scr h => cases (Prod.mk.inj (List.cons.inj (PyData.dict.inj hd)).1).1
    | @dK a l vs es kvs e f t g =>
      have h1 := PyData.dict.inj hd
      rw [g] at h1
      cases l with
      | nil => cases h1
      | cons p r =>
        cases es with
        | nil => cases h1
        | cons q r' =>
          have h2 := (Prod.mk.inj (List.cons.inj h1).1).1
          obtain ⟨k, v⟩ := p
          cases k <;> cases h2
    | @dX a o l ws vs ks es kvs e n f g k s t q =>
      have h1 := PyData.dict.inj hd
      rw [q] at h1
      cases (Prod.mk.inj (List.cons.inj h1).1).1
    | _ => cases hd
  · cases e
def sAsg (e : EF) (g : GF) : SF := fun δ => (e δ).bind fun p => (frzV p.2 p.1).bind fun q => (g q.1 q.2).map Out.nx
/-- x = a new list, a new dict -/
def sOwn (i : Nat) (o : OF) : SF := fun δ => (o δ).bind fun p => if free p.2 i = true then some (.nx (p.2.set i (.own p.1))) else none
def slDat : Sl → Option DT
  | .dat d => some d
  | _ => none
def sAug (i : Nat) (f : DT → DT → Option DT) (e : EF) : SF := fun δ => ((δ[i]?).bind slDat).bind fun x => (e δ).bind fun p => (val p.2 p.1).bind fun y => (f x y).bind fun z => if free p.2 i = true then some (.nx (p.2.set i (.dat z))) else none
def loopF (g : GF) (b : SF) : List DT → SF
  | [] => fun δ => some (.nx δ)
  | d :: r => fun δ => (g d δ).bind fun δ1 => (b δ1).bind fun o => match o with
    | .nx δ2 => loopF g b r δ2
    | .ct δ2 => loopF g b r δ2
    | .bk δ2 => some (.nx δ2)
    | .rt x δ2 => some (.rt x δ2)
    | .ro x δ2 => some (.ro x δ2)
def sFor (it : IF) (g : GF) (b : SF) : SF := fun δ => (it δ).bind fun p => loopF g b p.1 p.2
def whileN (c : TF) (b : SF) : Nat → SF
  | 0 => fun _ => none
  | n + 1 => fun δ => (c δ).bind fun p => if p.1 = true then (b p.2).bind fun o => match o with
    | .nx δ2 => whileN c b n δ2
    | .ct δ2 => whileN c b n δ2
    | .bk δ2 => some (.nx δ2)
    | .rt x δ2 => some (.rt x δ2)
    | .ro x δ2 => some (.ro x δ2)
    else some (.nx p.2)
open Classical in
noncomputable def sWhile (c : TF) (b : SF) : SF := fun δ => if h : ∃ n o, whileN c b n δ = some o then some h.choose_spec.choose else none
theorem whileN_mono {c : TF} {b : SF} : ∀ {n m : Nat} {δ : DS} {o : Out}, whileN c b n δ = some o → n ≤ m → whileN c b m δ = some o
  | 0, _, _, _, h, _ => by cases h
  | n + 1, 0, _, _, _, l => by omega
  | n + 1, m + 1, δ, o, h, l => by
    obtain ⟨p, h1, h⟩ := Option.bind_eq_some_iff.mp h
    refine Option.bind_eq_some_iff.mpr ⟨p, h1, ?_⟩
    split
    · next e =>
      rw [if_pos e] at h
      obtain ⟨q, h2, h⟩ := Option.bind_eq_some_iff.mp h
      refine Option.bind_eq_some_iff.mpr ⟨q, h2, ?_⟩
      cases q with
      | nx δ2 => exact whileN_mono (n := n) h (by omega)
      | ct δ2 => exact whileN_mono (n := n) h (by omega)
      | bk δ2 => exact h
      | rt x δ2 => exact h
      | ro x δ2 => exact h
    · next e =>
      rw [if_neg e] at h
      exact h
theorem while_of {c : TF} {b : SF} {n : Nat} {δ : DS} {o : Out} (h : whileN c b n δ = some o) : sWhile c b δ = some o := by
  have hx : ∃ n o, whileN c b n δ = some o := ⟨n, o, h⟩
  unfold sWhile
  rw [dif_pos hx]
  have h1 := hx.choose_spec.choose_spec
  have a := whileN_mono h1 (Nat.le_max_left hx.choose n)
  have b := whileN_mono h (Nat.le_max_right hx.choose n)
  rw [a] at b
  exact b
theorem while_ex {c : TF} {b : SF} {δ : DS} {o : Out} (h : sWhile c b δ = some o) : ∃ n, whileN c b n δ = some o := by
  unfold sWhile at h
  split at h
  · next hx =>
    cases Option.some.inj h
    exact ⟨_, hx.choose_spec.choose_spec⟩
  · cases h
section
variable {P : Program} {w : World} {K : PySem.W.Frag}
theorem ls_next : LS P w K tNext sNext := by
  intro C F ow δ σ H r o e D k
  cases Option.some.inj e
  exact k F ow σ H r
theorem ls_seq {t u : TS} {a b : SF} (ha : LS P w K t a) (hb : LS P w K u b) : LS P w K (tSeq t u) (sSeq a b) := by
  intro C F ow δ σ H r o e D k
  obtain ⟨o1, e1, e⟩ := Option.bind_eq_some_iff.mp e
  refine ha C F ow δ σ H r o1 e1 { D with nx := u D } ?_
  cases o1 with
  | nx δ1 => exact fun F1 ow1 σ1 H1 r1 => hb C F1 ow1 δ1 σ1 H1 r1 o e D k
  | rt d δ1 =>
    cases Option.some.inj e
    exact k
  | ro d δ1 =>
    cases Option.some.inj e
    exact k
  | bk δ1 =>
    cases Option.some.inj e
    exact k
  | ct δ1 =>
    cases Option.some.inj e
    exact k
theorem ls_drop {t : TE} {a : EF} (ha : LE P w K t a) : LS P w K (tDrop t) (sDrop a) := by
  intro C F ow δ σ H r o e D k
  obtain ⟨⟨x1, δ1⟩, e1, e⟩ := Option.map_eq_some_iff.mp e
  cases e
  exact ha C F ow δ σ H r _ _ e1 _ fun v F1 ow1 H1 r1 _ _ => k F1 ow1 σ H1 r1
theorem ls_ret {t : TE} {a : EF} (ha : LE P w K t a) : LS P w K (tRet t) (sRet a) := by
  intro C F ow δ σ H r o e D k
  obtain ⟨⟨x1, δ1⟩, e1, e⟩ := Option.bind_eq_some_iff.mp e
  obtain ⟨⟨d, δ2⟩, e2, e⟩ := Option.map_eq_some_iff.mp e
  cases e
  refine ha C F ow δ σ H r _ _ e1 _ fun v F1 ow1 H1 r1 _ h1 => ?_
  obtain ⟨F2, ow2, _, r2, d2⟩ := r1.freezeN h1 e2
  exact k F2 ow2 σ H1 v r2 d2
def sRetO (o : OF) : SF := fun δ => (o δ).map fun p => .ro p.1 p.2
def sRetV (i : Nat) : SF := fun δ => match δ[i]? with
  | some (.own d) => some (.ro d (δ.set i .no))
  | _ => none
theorem ls_retO {t : TE} {a : OF} (ha : LO P w K t a) : LS P w K (tRet t) (sRetO a) := by
  intro C F ow δ σ H r o e D k
  obtain ⟨⟨x1, δ1⟩, e1, e⟩ := Option.map_eq_some_iff.mp e
  cases e
  exact ha C F ow δ σ H r _ _ e1 _ fun a F1 ow1 H1 r1 l1 n0 n1 n2 n3 ho hd => k F1 ow1 σ H1 a r1 n1 n2 n3 ho hd
theorem ls_retV {i : Nat} : LS P w K (tRet (tVar i)) (sRetV i) := by
  intro C F ow δ σ H r o e D k
  unfold sRetV at e
  split at e
  · next q =>
    cases e
    have z := r.sl i _ q
    generalize hy : σ[i]? = yy at z
    cases z with
    | @own a d h1 h2 h3 =>
      exact ⟨_, hy, k F _ σ H a (r.drop i) (r.own a i h1).1 (by show (if ow a = some i then none else ow a) = none; rw [if_pos h1]) h2 (r.own a i h1).2 h3⟩
  · cases e
theorem ls_retN : LS P w K tRetN sRetN := by
  intro C F ow δ σ H r o e D k
  cases Option.some.inj e
  exact k F ow σ H .non r .non
theorem ls_if {t : TT} {u v : TS} {c : TF} {a b : SF} (hc : LT P w K t c) (ha : LS P w K u a) (hb : LS P w K v b) : LS P w K (tIfS t u v) (sIf c a b) := by
  intro C F ow δ σ H r o e D k
  obtain ⟨⟨x1, δ1⟩, e1, e⟩ := Option.bind_eq_some_iff.mp e
  refine hc C F ow δ σ H r _ _ e1 _ fun F1 ow1 H1 r1 _ => ?_
  cases x1 with
  | true => exact iteT (ha C F1 ow1 δ1 σ H1 r1 o e D k)
  | false => exact iteF (hb C F1 ow1 δ1 σ H1 r1 o e D k)
theorem ls_break : LS P w K tBreak sBreak := by
  intro C F ow δ σ H r o e D k
  cases Option.some.inj e
  exact k F ow σ H r
theorem ls_cont : LS P w K tCont sCont := by
  intro C F ow δ σ H r o e D k
  cases Option.some.inj e
  exact k F ow σ H r
theorem ls_never : LS P w K tNever sNever := by
  intro C F ow δ σ H r o e D k
  cases e
theorem free_lt {δ : DS} {i : Nat} (h : free δ i = true) : i < δ.length := by
  unfold free at h
  cases q : δ[i]? with
  | none =>
    rw [q] at h
    cases h
  | some s => exact (List.getElem?_eq_some_iff.mp q).1
theorem R.setDat' {C : Cn} {F H : Hp} {ow : Addr → Option Nat} {δ : DS} {σ : L2.St} (r : R P w K C F ow δ σ H) {i : Nat} {v : V} {d : DT} (hi : i < δ.length) (h : Dat P w K F v d) : ∃ ow', R P w K C F ow' (δ.set i (.dat d)) (σ.set i (some v)) H ∧ ∀ a, ow a = none → ow' a = none := by
  have r1 := r.drop i
  refine ⟨_, ⟨r1.grow, r1.new, r1.le, r1.keep, r1.dom, r1.own, r1.ins, by rw [List.length_set, List.length_set]; exact r.len, fun j s e => ?_⟩, fun a e => by show (if ow a = some i then none else ow a) = none; rw [e]; rfl⟩
  by_cases c : i = j
  · subst c
    rw [List.getElem?_set_self hi] at e
    cases Option.some.inj e
    rw [List.getElem?_set_self (by rw [r.len]; exact hi)]
    exact .dat h
  · have e' : (δ.set i .no)[j]? = some s := by
      rw [List.getElem?_set_ne c] at e ⊢
      exact e
    rw [List.getElem?_set_ne c]
    exact r1.sl j s e'
theorem lg_name (i : Nat) : LG P w K (gName i) (gN i) [i] := by
  intro C F ow δ σ H r d δ' e v hv Q k
  have e : (if free δ i = true then some (δ.set i (.dat d)) else none) = some δ' := e
  split at e
  · next c =>
    cases Option.some.inj e
    obtain ⟨ow', r', z⟩ := r.setDat' (free_lt c) hv
    exact k ow' _ r' z ⟨List.length_set, fun j hj => List.getElem?_set_ne fun e => hj (by rw [e]; exact List.mem_singleton.mpr rfl)⟩
  · cases e
/-- targets in a row -/
def LGs (P : Program) (w : World) (K : PySem.W.Frag) (g : TGs) (fs : List GF) (ts : List Nat) : Prop := ∀ (C : Cn) (F : Hp) (ow : Addr → Option Nat) (δ : DS) (σ : L2.St) (H : Hp), R P w K C F ow δ σ H → ∀ (ds : List DT) (δ' : DS), ds.length = fs.length → (List.zip fs ds).foldlM (fun δ p => p.1 p.2 δ) δ = some δ' → ∀ vs, Dats P w K F vs ds → ∀ Q : L2.St → Hp → Prop,
  (∀ ow' σ', R P w K C F ow' δ' σ' H → (∀ a, ow a = none → ow' a = none) → Sd ts σ σ' → Q σ' H) → g vs σ H Q
theorem lgs_nil : LGs P w K gNil [] [] := by
  intro C F ow δ σ H r ds δ' hl e vs hv Q k
  cases ds with
  | nil =>
    cases hv
    cases Option.some.inj e
    exact ⟨rfl, k ow σ r (fun _ h => h) ⟨rfl, fun _ _ => rfl⟩⟩
  | cons d r => cases hl
theorem lgs_cons {g : TG} {f : GF} {gs : TGs} {fs : List GF} {t1 t2 : List Nat} (hg : LG P w K g f t1) (hs : LGs P w K gs fs t2) : LGs P w K (gCons g gs) (f :: fs) (t1 ++ t2) := by
  intro C F ow δ σ H r ds δ' hl e vs hv Q k
  cases hv with
  | nil => cases hl
  | @cons v vs d ds h1 h2 =>
    rw [List.zip_cons_cons, List.foldlM_cons] at e
    obtain ⟨δ1, e1, e⟩ := Option.bind_eq_some_iff.mp e
    exact ⟨v, vs, rfl, hg C F ow δ σ H r d δ1 e1 v h1 _ fun ow1 σ1 r1 z1 y1 => hs C F ow1 δ1 σ1 H r1 ds δ' (Nat.succ.inj hl) e vs h2 _ fun ow2 σ2 r2 z2 y2 => k ow2 σ2 r2 (fun a h => z2 a (z1 a h)) ⟨y2.1.trans y1.1, fun i hi => (y2.2 i fun z => hi (List.mem_append_right _ z)).trans (y1.2 i fun z => hi (List.mem_append_left _ z))⟩⟩
theorem lg_tup {K : PySem.W.Frag} {n : Nat} {g : TGs} {fs : List GF} {ts : List Nat} (hs : LGs P w K g fs ts) (hn : fs.length = n := by rfl) : LG P w K (gTup K n g) (gT fs) ts := by
  intro C F ow δ σ H r d δ' e v hv Q k
  obtain ⟨ds, e1, e⟩ := Option.bind_eq_some_iff.mp e
  split at e
  · next c =>
    obtain ⟨a, vs, rfl, h1, h2⟩ := hv.parts r.le e1
    exact ⟨a, vs, rfl, h1, by rw [h2.len, c, hn], hs C F ow δ σ H r ds δ' c e vs h2 Q k⟩
  · cases e
theorem ls_asg {t : TE} {a : EF} {g : TG} {f : GF} {ts : List Nat} (ha : LE P w K t a) (hg : LG P w K g f ts) : LS P w K (tAsg t g) (sAsg a f) := by
  intro C F ow δ σ H r o e D k
  obtain ⟨⟨x1, δ1⟩, e1, e⟩ := Option.bind_eq_some_iff.mp e
  obtain ⟨⟨d, δ2⟩, e2, e⟩ := Option.bind_eq_some_iff.mp e
  obtain ⟨δ3, e3, e⟩ := Option.map_eq_some_iff.mp e
  cases e
  refine ha C F ow δ σ H r _ _ e1 _ fun v F1 ow1 H1 r1 _ h1 => ?_
  obtain ⟨F2, ow2, _, r2, d2⟩ := r1.freezeN h1 e2
  exact hg C F2 ow2 δ2 σ H1 r2 d δ3 e3 v d2 _ fun ow3 σ3 r3 _ _ => k F2 ow3 σ3 H1 r3
theorem ls_own {t : TE} {a : OF} {i : Nat} (ha : LO P w K t a) : LS P w K (tAsg t (gName i)) (sOwn i a) := by
  intro C F ow δ σ H r o e D k
  obtain ⟨⟨d, δ1⟩, e1, e⟩ := Option.bind_eq_some_iff.mp e
  dsimp only at e
  split at e
  · next c =>
    cases Option.some.inj e
    refine ha C F ow δ σ H r _ _ e1 _ fun v F1 ow1 H1 r1 _ _ n1 n2 n3 ho hd => ?_
    obtain ⟨ow2, r2⟩ := r1.setOwn (free_lt c) n1 n3 n2 hd ho
    exact k F1 ow2 _ H1 r2
  · cases e
/-- x op= e, by values -/
def IpL (P : Program) (w : World) (K : PySem.W.Frag) (t : TIp) (f : DT → DT → Option DT) : Prop := ∀ (F H : Hp) (x y : V) (dx dy dz : DT), Le F H → Ob P w K F H x dx → Ob P w K F H y dy → f dx dy = some dz → ∀ Q : VK, (∀ v F' H', Ex F H F' H' → Dat P w K F' v dz → Q v H') → t x y H Q
theorem ls_aug {i : Nat} {t : TE} {a : EF} {ti : TIp} {f : DT → DT → Option DT} (hi : IpL P w K ti f) (ha : LE P w K t a) : LS P w K (tAug i t ti) (sAug i f a) := by
  intro C F ow δ σ H r o e D k
  obtain ⟨x, v1, e⟩ := Option.bind_eq_some_iff.mp e
  obtain ⟨⟨y1, δ1⟩, e1, e⟩ := Option.bind_eq_some_iff.mp e
  obtain ⟨y, v2, e⟩ := Option.bind_eq_some_iff.mp e
  obtain ⟨z, hz, e⟩ := Option.bind_eq_some_iff.mp e
  dsimp only at e
  split at e
  · next c =>
    cases Option.some.inj e
    obtain ⟨s, q, es⟩ := Option.bind_eq_some_iff.mp v1
    have hs := r.sl i s q
    generalize hy : σ[i]? = yy at hs
    cases hs with
    | no => cases es
    | @dat v d hd =>
      cases Option.some.inj es
      refine ⟨v, hy, ha C F ow δ σ H r _ _ e1 _ fun u F1 ow1 H1 r1 l1 h1 => ?_⟩
      refine hi F1 H1 v u x y z r1.le ((hd.mono l1.le).ob r1.le) (r1.ob h1 v2) hz _ fun u2 F2 H2 ex hd2 => ?_
      obtain ⟨r2, l2⟩ := r1.ex ex
      obtain ⟨ow3, r3, _⟩ := r2.setDat' (free_lt c) hd2
      exact k F2 ow3 _ H2 r3
    | own _ _ _ => cases es
    | bor _ _ _ _ => cases es
  · cases e
/-! ### loops -/
theorem R.rebase {C : Cn} {F H : Hp} {ow : Addr → Option Nat} {δ : DS} {σ : L2.St} (r : R P w K C F ow δ σ H) : R P w K { C with F0 := F } F ow δ σ H := by
  refine ⟨Fle.refl _, fun a o h n => n, r.le, fun a o h g n => r.keep a o h g (r.grow.no n), r.dom, r.own, r.ins, r.len, fun i s e => ?_⟩
  have z := r.sl i s e
  generalize σ[i]? = yy at z
  cases z with
  | no => exact .no
  | dat x => exact .dat x
  | own a b c => exact .own a b c
  | bor a b c d => exact .bor a b c d
theorem R.unbase {C : Cn} {F F5 H5 H3 : Hp} {ow5 ow3 : Addr → Option Nat} {δ5 δ3 : DS} {σ5 σ3 : L2.St} (r6 : R P w K { C with F0 := F } F5 ow5 δ5 σ5 H5) (r3 : R P w K C F ow3 δ3 σ3 H3) : R P w K C F5 ow5 δ5 σ5 H5 := by
  refine ⟨r3.grow.trans r6.grow, fun a o h n => r6.new a o h (r3.new a o h n), r6.le, fun a o h g n => r6.keep a o h g (r3.new a o h n), r6.dom, r6.own, r6.ins, r6.len, fun i s e => ?_⟩
  have z := r6.sl i s e
  generalize σ5[i]? = yy at z
  cases z with
  | no => exact .no
  | dat x => exact .dat x
  | own a b c => exact .own a b c
  | bor a b c d => exact .bor a b c d
theorem ls_for {wi : L2.TI} {g : TG} {tb : TS} {it : IF} {gf : GF} {b : SF} {ts : List Nat} (hi : LI P w K wi it) (hg : LG P w K g gf ts) (hb : LS P w K tb b) : LS P w K (tFor wi g tb) (sFor it gf b) := by
  intro C F ow δ σ H r o e D k
  obtain ⟨⟨ds, δ1⟩, e1, e⟩ := Option.bind_eq_some_iff.mp e
  refine hi C F ow δ σ H r _ _ e1 _ fun J F1 ow1 H1 r1 _ vw => ?_
  refine ⟨fun i m σ H => m = ds.length - i ∧ i ≤ ds.length ∧ ∃ F2 ow2 δ2, R P w K C F2 ow2 δ2 σ H ∧ Fle F1 F2 ∧ loopF gf b (ds.drop i) δ2 = some o, ⟨ds.length, rfl, Nat.zero_le _, F1, ow1, δ1, r1, Fle.refl _, e⟩, ?_⟩
  rintro i m σ2 H2 ⟨rfl, hi, F2, ow2, δ2, r2, l2, e2⟩
  by_cases hlt : i < ds.length
  · refine .inr ⟨vw.goes i H2 F2 l2 r2.le hlt, fun σ3 H3 => ∃ F3 ow3 δ3, R P w K C F3 ow3 δ3 σ3 H3 ∧ Fle F1 F3 ∧ loopF gf b (ds.drop (i + 1)) δ3 = some o, fun σ3 H3 h => ⟨_, by omega, rfl, hlt, h⟩, fun x H3 y => ?_⟩
    obtain ⟨F3, d, ex, hd, dx⟩ := vw.yields i H2 x H3 F2 l2 r2.le hlt y
    obtain ⟨r3, l3⟩ := r2.ex ex
    have hdr : ds.drop i = d :: ds.drop (i + 1) := by
      rw [List.drop_eq_getElem_cons hlt]
      rw [List.getElem?_eq_getElem hlt] at hd
      rw [Option.some.inj hd]
    rw [hdr] at e2
    obtain ⟨δ3, e3, e2⟩ := Option.bind_eq_some_iff.mp e2
    obtain ⟨o1, e4, e2⟩ := Option.bind_eq_some_iff.mp e2
    -- the part that stays is told again by the state: the body starts anew from here
    refine hg C F3 ow2 δ2 σ2 H3 r3 d δ3 e3 x dx _ fun ow4 σ4 r4 _ _ => ?_
    have r5 := r4.rebase
    have back : ∀ {F5 ow5 δ5 σ5 H5}, R P w K { C with F0 := F3 } F5 ow5 δ5 σ5 H5 → R P w K C F5 ow5 δ5 σ5 H5 ∧ Fle F1 F5 := fun {F5 ow5 δ5 σ5 H5} r6 => ⟨r6.unbase r3, (l2.trans l3.le).trans r6.grow⟩
    refine hb { C with F0 := F3 } F3 ow4 δ3 σ4 H3 r5 o1 e4 _ ?_
    cases o1 with
    | nx δ5 => exact fun F5 ow5 σ5 H5 r6 => ⟨F5, ow5, δ5, (back r6).1, (back r6).2, e2⟩
    | ct δ5 => exact fun F5 ow5 σ5 H5 r6 => ⟨F5, ow5, δ5, (back r6).1, (back r6).2, e2⟩
    | bk δ5 =>
      cases Option.some.inj e2
      exact fun F5 ow5 σ5 H5 r6 => k F5 ow5 σ5 H5 (back r6).1
    | rt x5 δ5 =>
      cases Option.some.inj e2
      exact fun F5 ow5 σ5 H5 v r6 hv => k F5 ow5 σ5 H5 v (back r6).1 hv
    | ro x5 δ5 =>
      cases Option.some.inj e2
      exact fun F5 ow5 σ5 H5 a r6 h1 h2 h3 h4 h5 => k F5 ow5 σ5 H5 a (back r6).1 h1 h2 h3 h4 h5
  · have ei : i = ds.length := by omega
    subst ei
    rw [List.drop_length] at e2
    cases Option.some.inj e2
    exact .inl ⟨vw.stops H2 F2 l2 r2.le, k F2 ow2 σ2 H2 r2⟩
theorem ls_while {c : TT} {tb : TS} {cf : TF} {b : SF} (hc : LT P w K c cf) (hb : LS P w K tb b) : LS P w K (tWhile c tb) (sWhile cf b) := by
  intro C F ow δ σ H r o e D k
  obtain ⟨n, e⟩ := while_ex e
  refine ⟨fun m σ H => ∃ F ow δ, R P w K C F ow δ σ H ∧ whileN cf b m δ = some o, ⟨n, F, ow, δ, r, e⟩, ?_⟩
  rintro m σ1 H1 ⟨F1, ow1, δ1, r1, e1⟩
  cases m with
  | zero => cases e1
  | succ m =>
    obtain ⟨⟨c1, δ2⟩, e2, e1⟩ := Option.bind_eq_some_iff.mp e1
    refine hc C F1 ow1 δ1 σ1 H1 r1 _ _ e2 _ fun F2 ow2 H2 r2 _ => ?_
    cases c1 with
    | true =>
      refine iteT ⟨fun σ3 H3 => ∃ F ow δ, R P w K C F ow δ σ3 H3 ∧ whileN cf b m δ = some o, fun σ3 H3 h => ⟨m, Nat.lt_succ_self m, h⟩, ?_⟩
      obtain ⟨o1, e3, e1⟩ := Option.bind_eq_some_iff.mp e1
      refine hb C F2 ow2 δ2 σ1 H2 r2 o1 e3 _ ?_
      cases o1 with
      | nx δ5 => exact fun F5 ow5 σ5 H5 r6 => ⟨F5, ow5, δ5, r6, e1⟩
      | ct δ5 => exact fun F5 ow5 σ5 H5 r6 => ⟨F5, ow5, δ5, r6, e1⟩
      | bk δ5 =>
        cases Option.some.inj e1
        exact k
      | rt x5 δ5 =>
        cases Option.some.inj e1
        exact k
      | ro x5 δ5 =>
        cases Option.some.inj e1
        exact k
    | false =>
      cases Option.some.inj e1
      exact iteF (k F2 ow2 σ1 H2 r2)
end
/-! ### comprehensions -/
def wipeD (δ : DS) : List Nat → DS
  | [] => δ
  | v :: vs => (wipeD δ vs).set v .no
def keepD : Sl → Sl
  | .dat d => .dat d
  | _ => .no
def putB (δ δ2 : DS) : List Nat → DS
  | [] => δ2
  | v :: vs => (putB δ δ2 vs).set v (match δ[v]? with | some s => keepD s | none => .no)
def compF (vs : List Nat) (g : GF) (t : TF) (e : EF) : List DT → DS → List DT → Option (DT × DS)
  | [], δ, acc => some (.list acc, δ)
  | d :: r, δ, acc => (g d (wipeD δ vs)).bind fun δ2 => (t δ2).bind fun p => if p.1 = true then (e p.2).bind fun q => (frzV q.2 q.1).bind fun y => if acc.length < sizeLine then compF vs g t e r (putB δ y.2 vs) (acc ++ [y.1]) else none
    else compF vs g t e r (putB δ p.2 vs) acc
def oLc (it : IF) (vs : List Nat) (g : GF) (t : TF) (e : EF) : OF := fun δ => (it δ).bind fun p => compF vs g t e p.1 p.2 []
theorem wipeD_length (δ : DS) : ∀ vs : List Nat, (wipeD δ vs).length = δ.length
  | [] => rfl
  | v :: vs => by
    unfold wipeD
    rw [List.length_set, wipeD_length δ vs]
theorem putB_length (δ δ2 : DS) : ∀ vs : List Nat, (putB δ δ2 vs).length = δ2.length
  | [] => rfl
  | v :: vs => by
    unfold putB
    rw [List.length_set, putB_length δ δ2 vs]
theorem wipeD_at {δ : DS} {i : Nat} {s : Sl} : ∀ {vs : List Nat}, (wipeD δ vs)[i]? = some s → s = .no ∨ (δ[i]? = some s ∧ i ∉ vs)
  | [], h => .inr ⟨h, List.not_mem_nil⟩
  | v :: vs, h => by
    unfold wipeD at h
    by_cases c : v = i
    · subst c
      have hl := (List.getElem?_eq_some_iff.mp h).1
      rw [List.length_set] at hl
      rw [List.getElem?_set_self hl] at h
      exact .inl (Option.some.inj h).symm
    · rw [List.getElem?_set_ne c] at h
      rcases wipeD_at h with h | ⟨h, n⟩
      · exact .inl h
      · exact .inr ⟨h, fun z => (List.mem_cons.mp z).elim (fun e => c e.symm) n⟩
theorem putB_at {δ δ2 : DS} {i : Nat} {s : Sl} : ∀ {vs : List Nat}, (putB δ δ2 vs)[i]? = some s → s = .no ∨ (∃ d, s = .dat d ∧ δ[i]? = some (.dat d)) ∨ (δ2[i]? = some s ∧ i ∉ vs)
  | [], h => .inr (.inr ⟨h, List.not_mem_nil⟩)
  | v :: vs, h => by
    unfold putB at h
    by_cases c : v = i
    · subst c
      have hl := (List.getElem?_eq_some_iff.mp h).1
      rw [List.length_set] at hl
      rw [List.getElem?_set_self hl] at h
      have h := (Option.some.inj h).symm
      cases q : δ[v]? with
      | none =>
        rw [q] at h
        exact .inl h
      | some s' =>
        rw [q] at h
        cases s' with
        | dat d => exact .inr (.inl ⟨d, h, rfl⟩)
        | _ => exact .inl h
    · rw [List.getElem?_set_ne c] at h
      rcases putB_at h with h | h | ⟨h, n⟩
      · exact .inl h
      · exact .inr (.inl h)
      · exact .inr (.inr ⟨h, fun z => (List.mem_cons.mp z).elim (fun e => c e.symm) n⟩)
theorem wipe_out {σ : L2.St} {i : Nat} : ∀ {vs : List Nat}, i ∉ vs → (wipe σ vs)[i]? = σ[i]?
  | [], _ => rfl
  | v :: vs, h => by
    unfold wipe
    rw [List.getElem?_set_ne (fun e => h (by rw [e]; exact List.mem_cons_self)), wipe_out fun z => h (List.mem_cons_of_mem _ z)]
theorem wipe_in {σ : L2.St} {i : Nat} : ∀ {vs : List Nat}, i ∈ vs → i < σ.length → (wipe σ vs)[i]? = some none
  | [], h, _ => by cases h
  | v :: vs, h, hl => by
    unfold wipe
    by_cases c : v = i
    · subst c
      rw [List.getElem?_set_self (by rw [wipe_length]; exact hl)]
    · rw [List.getElem?_set_ne c]
      exact wipe_in ((List.mem_cons.mp h).elim (fun e => absurd e.symm c) id) hl
/-- the slots outside of vs are the same: they are so when vs is wiped -/
theorem wipe_eq {σ σ2 : L2.St} {vs : List Nat} (hl : σ2.length = σ.length) (h : ∀ i, i ∉ vs → σ2[i]? = σ[i]?) : wipe σ2 vs = wipe σ vs := by
  refine List.ext_getElem? fun i => ?_
  by_cases c : i ∈ vs
  · by_cases d : i < σ.length
    · rw [wipe_in c d, wipe_in c (by rw [hl]; exact d)]
    · rw [List.getElem?_eq_none (by rw [wipe_length]; omega), List.getElem?_eq_none (by rw [wipe_length]; omega)]
  · rw [wipe_out c, wipe_out c, h i c]
section
variable {P : Program} {w : World} {K : PySem.W.Frag}
theorem R.resl {C : Cn} {F H : Hp} {ow : Addr → Option Nat} {δ δ' : DS} {σ σ' : L2.St} (r : R P w K C F ow δ σ H) (hl : σ'.length = δ'.length) (h : ∀ (i : Nat) (s : Sl), δ'[i]? = some s → s = .no ∨ (∃ v d, s = .dat d ∧ σ'[i]? = some (some v) ∧ Dat P w K F v d) ∨ (δ[i]? = some s ∧ σ'[i]? = σ[i]?)) : R P w K C F ow δ' σ' H := by
  refine ⟨r.grow, r.new, r.le, r.keep, r.dom, r.own, r.ins, hl, fun i s e => ?_⟩
  rcases h i s e with rfl | ⟨v, d, rfl, e1, hd⟩ | ⟨e1, e2⟩
  · exact .no
  · rw [e1]
    exact .dat hd
  · rw [e2]
    exact r.sl i s e1
/-- what is nobody's is changed -/
theorem R.touch {C : Cn} {F H : Hp} {ow : Addr → Option Nat} {δ : DS} {σ : L2.St} (r : R P w K C F ow δ σ H) {a : Addr} (o : HO) (nF : F a = none) (nw : ow a = none) (n0 : C.H0 a = none) : R P w K C F ow δ σ (upd H a o) := by
  have nw' : ∀ b i, ow b = some i → b ≠ a := fun b i e z => by
    rw [z, nw] at e
    cases e
  refine ⟨r.grow, r.new, fun b u e => ?_, fun b u e f g => ?_, fun b u e => ?_, fun b i e => ?_, r.ins, r.len, fun i s e => ?_⟩
  · rw [upd_ne (ne_of_none e nF)]
    exact r.le b u e
  · rw [upd_ne (ne_of_none e n0)]
    exact r.keep b u e f g
  · rw [upd_ne (ne_of_none e n0)]
    exact r.dom b u e
  · rw [upd_ne (nw' b i e)]
    exact r.own b i e
  · have h := r.sl i s e
    generalize σ[i]? = y at h
    cases h with
    | no => exact .no
    | dat x => exact .dat x
    | own a b x => exact .own a b (x.keep (Fle.refl _) (upd_ne (nw' _ _ a)))
    | bor a b c x => exact .bor a b c (x.keep (Fle.refl _) (upd_ne (nw' _ _ a)))
/-- what is nobody's, through more that comes -/
theorem lo_lc {wi : L2.TI} {g : TG} {tt : TT} {te : TE} {vs ts : List Nat} {it : IF} {gf : GF} {tf : TF} {ef : EF} (hi : LI P w K wi it) (hg : LG P w K g gf ts) (ht : LT P w K tt tf) (he : LE P w K te ef) (hv : ts.all (fun i => vs.contains i) = true) : LO P w K (tLc wi g tt te vs) (oLc it vs gf tf ef) := by
  intro C F ow δ σ H r0 res δf e Q k
  obtain ⟨⟨ds, δ1⟩, e1, e⟩ := Option.bind_eq_some_iff.mp e
  have hv' : ∀ i, i ∉ vs → i ∉ ts := fun i n z => n (by
    have := List.all_eq_true.mp hv i z
    exact List.elem_iff.mp this)
  refine hi C F ow δ σ H r0 _ _ e1 _ fun J F1 ow1 H1 r1 l1 vw D nD => ?_
  obtain ⟨rD, nF, nw, n0⟩ := r1.fresh (.lst []) nD
  have lD : Nx C F1 ow1 H1 F1 ow1 (upd H1 D (.lst [])) := ⟨Fle.refl _, fun b u h f g _ => ⟨by rw [upd_ne (ne_of_none h nD)]; exact h, f, g⟩, fun b u h => ⟨u, (upd_ne (ne_of_none h nD)).trans h⟩⟩
  refine ⟨fun i m H => m = ds.length - i ∧ i ≤ ds.length ∧ ∃ F2 ow2 δ2 acc accd, R P w K C F2 ow2 δ2 σ H ∧ Nx C F1 ow1 H1 F2 ow2 H ∧ F2 D = none ∧ ow2 D = none ∧ H D = some (.lst acc) ∧ Dats P w K F2 acc accd ∧ compF vs gf tf ef (ds.drop i) δ2 accd = some (res, δf), ⟨ds.length, rfl, Nat.zero_le _, F1, ow1, δ1, [], [], rD, lD, nF, nw, upd_same, .nil, e⟩, ?_⟩
  rintro i m H2 ⟨rfl, hi, F2, ow2, δ2, acc, accd, r2, l2, nF2, nw2, eD, hacc, e2⟩
  by_cases hlt : i < ds.length
  · refine .inr ⟨vw.goes i H2 F2 l2.le r2.le hlt, fun H3 => ∃ F3 ow3 δ3 acc accd, R P w K C F3 ow3 δ3 σ H3 ∧ Nx C F1 ow1 H1 F3 ow3 H3 ∧ F3 D = none ∧ ow3 D = none ∧ H3 D = some (.lst acc) ∧ Dats P w K F3 acc accd ∧ compF vs gf tf ef (ds.drop (i + 1)) δ3 accd = some (res, δf), fun H3 h => ⟨_, by omega, rfl, hlt, h⟩, fun x H3 y => ?_⟩
    obtain ⟨F3, d, ex, hd, dx⟩ := vw.yields i H2 x H3 F2 l2.le r2.le hlt y
    obtain ⟨r3, l3⟩ := r2.ex ex
    obtain ⟨eD3, nF3, nw3⟩ := l3.fr D _ eD nF2 nw2 n0
    have hdr : ds.drop i = d :: ds.drop (i + 1) := by
      rw [List.drop_eq_getElem_cons hlt]
      rw [List.getElem?_eq_getElem hlt] at hd
      rw [Option.some.inj hd]
    rw [hdr] at e2
    obtain ⟨δ4, e4, e2⟩ := Option.bind_eq_some_iff.mp e2
    obtain ⟨⟨b, δ5⟩, e5, e2⟩ := Option.bind_eq_some_iff.mp e2
    have rw3 : R P w K C F3 ow2 (wipeD δ2 vs) (wipe σ vs) H3 := r3.resl (by rw [wipe_length, wipeD_length]; exact r3.len) fun j s q => by
      rcases wipeD_at q with q | ⟨q, n⟩
      · exact .inl q
      · exact .inr (.inr ⟨q, wipe_out n⟩)
    -- the slots as they were, behind a turn
    have back : ∀ {F5 ow5 δ5 σ5 H5}, R P w K C F5 ow5 δ5 σ5 H5 → Fle F3 F5 → δ5.length = δ2.length → (∀ i, i ∉ ts → σ5[i]? = (wipe σ vs)[i]?) → R P w K C F5 ow5 (putB δ2 δ5 vs) σ H5 := fun {F5 ow5 δ5 σ5 H5} r5 l5 hl h5 => by
      refine r5.resl (by rw [putB_length, hl]; exact r3.len) fun j s q => ?_
      rcases putB_at q with q | ⟨d, rfl, q'⟩ | ⟨q, n⟩
      · exact .inl q
      · have z := r3.sl j _ q'
        generalize hy : σ[j]? = yy at z
        cases z with
        | @dat v _ hd => exact .inr (.inl ⟨v, d, rfl, rfl, hd.mono l5⟩)
      · exact .inr (.inr ⟨q, ((h5 j (hv' j n)).trans (wipe_out n)).symm⟩)
    refine hg C F3 ow2 _ _ H3 rw3 d δ4 e4 x dx _ fun ow4 σ4 r4 z4 y4 => ?_
    have nw4 := z4 D nw2
    have h4 := r4.len
    refine ⟨(wipe_eq y4.1 fun j n => y4.2 j (hv' j n)).trans (wipe_eq (wipe_length ..) fun j n => wipe_out n), ?_⟩
    have len4 : σ4.length = δ2.length := by rw [y4.1, wipe_length, r3.len]
    have l4 : Nx C F3 ow2 H3 F3 ow4 H3 := ⟨Fle.refl _, fun a o h f g _ => ⟨h, f, z4 a g⟩, fun a o h => ⟨o, h⟩⟩
    refine ht C F3 ow4 δ4 σ4 H3 r4 b δ5 e5 _ fun F5 ow5 H5 r5 l5 => ?_
    obtain ⟨eD5, nF5, nw5⟩ := l5.fr D _ eD3 nF3 nw4 n0
    cases b with
    | true =>
      obtain ⟨⟨x6, δ6⟩, e6, e2⟩ := Option.bind_eq_some_iff.mp e2
      obtain ⟨⟨d7, δ7⟩, e7, e2⟩ := Option.bind_eq_some_iff.mp e2
      dsimp only at e2
      split at e2
      · next hacl =>
        refine iteT (he C F5 ow5 δ5 σ4 H5 r5 x6 δ6 e6 _ fun v6 F6 ow6 H6 r6 l6 h6 => ?_)
        obtain ⟨eD6, nF6, nw6⟩ := l6.fr D _ eD5 nF5 nw5 n0
        obtain ⟨F7, ow7, l7, r7, d7⟩ := r6.freezeN h6 e7
        obtain ⟨eD7, nF7, nw7⟩ := l7.fr D _ eD6 nF6 nw6 n0
        have lA : Nx C F1 ow1 H1 F7 ow7 H6 := l2.trans (l3.trans (l4.trans (l5.trans (l6.trans l7))))
        have rB := back r7 (l5.trans (l6.trans l7)).le (by rw [← r7.len]; exact len4) (fun j n => y4.2 j n)
        refine ⟨acc, eD7, by rw [hacc.len]; exact hacl, F7, ow7, _, acc ++ [v6], _, rB.touch _ nF7 nw7 n0, ⟨lA.le, fun a o h f g q => ?_, fun a o h => ?_⟩, nF7, nw7, upd_same, (hacc.mono (l3.trans (l4.trans (l5.trans (l6.trans l7)))).le).snoc d7, e2⟩
        · obtain ⟨h1, f1, g1⟩ := lA.fr a o h f g q
          exact ⟨by rw [upd_ne (ne_of_none h nD)]; exact h1, f1, g1⟩
        · rw [upd_ne (ne_of_none h nD)]
          exact lA.dm a o h
      · cases e2
    | false =>
      have lA : Nx C F1 ow1 H1 F5 ow5 H5 := l2.trans (l3.trans (l4.trans l5))
      have rB := back r5 l5.le (by rw [← r5.len]; exact len4) (fun j n => y4.2 j n)
      exact iteF ⟨F5, ow5, _, acc, _, rB, lA, nF5, nw5, eD5, hacc.mono (l3.trans (l4.trans l5)).le, e2⟩
  · have ei : i = ds.length := by omega
    subst ei
    rw [List.drop_length] at e2
    cases Option.some.inj e2
    exact .inl ⟨vw.stops H2 F2 l2.le r2.le, k D F2 ow2 H2 r2 (l1.trans l2) (l1.no nD) nF2 nw2 n0 ⟨_, eD⟩ (.lst eD hacc)⟩
end
/-! ### defs and their calls -/
abbrev MF := List DT → Option (DT × List DT)
/-- what is so behind a call -/
structure After (F H : Hp) (W : Addr → Prop) (F' H' : Hp) : Prop where
  le : Fle F F'
  leH : Le F' H'
  new : ∀ a o, H a = some o → F a = none → F' a = none
  keep : ∀ a o, H a = some o → ¬ W a → F a = none → H' a = some o
  dom : ∀ a o, H a = some o → ∃ o', H' a = some o'
def ArgAt (P : Program) (w : World) (K : PySem.W.Frag) (F H : Hp) (ow : Addr → Option Nat) (j : Nat) (b : Bool) (v : V) (d : DT) : Prop := if b = true then ∃ a, v = .ref a ∧ ow a = some j ∧ Own P w K F H a d else Dat P w K F v d
/-- a def's promise: what m tells of the data; the arguments where bor says so are lent: they are written -/
def spM (P : Program) (w : World) (K : PySem.W.Frag) (bor : List Bool) (m : MF) : Sp := fun vs H Q _ => ∃ (F : Hp) (ow : Addr → Option Nat) (ds : List DT) (r : DT) (outs : List DT), Le F H ∧ vs.length = bor.length ∧ ds.length = bor.length ∧ (∀ a i, ow a = some i → F a = none ∧ ∃ o, H a = some o) ∧
  (∀ (j : Nat) (b : Bool) (v : V) (d : DT), bor[j]? = some b → vs[j]? = some v → ds[j]? = some d → ArgAt P w K F H ow j b v d) ∧ m ds = some (r, outs) ∧
  ∀ (v : V) (H' F' : Hp) (ow' : Addr → Option Nat), After F H (fun a => ∃ i, ow a = some i) F' H' → (∀ a i, ow' a = some i → F' a = none ∧ (∃ o, H' a = some o) ∧ (H a = none ∨ ∃ j, ow a = some j)) →
    (∀ (j : Nat) (u : V), bor[j]? = some true → vs[j]? = some u → ∃ a d, outs[j]? = some d ∧ u = .ref a ∧ ow' a = some j ∧ Own P w K F' H' a d) → Dat P w K F' v r → Q v H'
/-- .. the answer is a new object, the caller's own -/
def spMO (P : Program) (w : World) (K : PySem.W.Frag) (bor : List Bool) (m : MF) : Sp := fun vs H Q _ => ∃ (F : Hp) (ow : Addr → Option Nat) (ds : List DT) (r : DT) (outs : List DT), Le F H ∧ vs.length = bor.length ∧ ds.length = bor.length ∧ (∀ a i, ow a = some i → F a = none ∧ ∃ o, H a = some o) ∧
  (∀ (j : Nat) (b : Bool) (v : V) (d : DT), bor[j]? = some b → vs[j]? = some v → ds[j]? = some d → ArgAt P w K F H ow j b v d) ∧ m ds = some (r, outs) ∧
  ∀ (b : Addr) (H' F' : Hp) (ow' : Addr → Option Nat), After F H (fun a => ∃ i, ow a = some i) F' H' → (∀ a i, ow' a = some i → F' a = none ∧ (∃ o, H' a = some o) ∧ (H a = none ∨ ∃ j, ow a = some j)) →
    (∀ (j : Nat) (u : V), bor[j]? = some true → vs[j]? = some u → ∃ a d, outs[j]? = some d ∧ u = .ref a ∧ ow' a = some j ∧ Own P w K F' H' a d) → H b = none → F' b = none → ow' b = none → (∃ o, H' b = some o) → Own P w K F' H' b r → Q (.ref b) H'
def startS : List Bool → List DT → DS
  | b :: bs, d :: ds => (if b = true then .bor d else .dat d) :: startS bs ds
  | _, _ => []
def outD (b : Bool) (s : Option Sl) : Option DT := if b = true then (match s with | some (.bor d) => some d | _ => none) else some .none
def outsD : List Bool → DS → Option (List DT)
  | [], _ => some []
  | b :: bs, δ => (outD b δ.head?).bind fun d => (outsD bs δ.tail).map fun ds => d :: ds
/-- what a def's body tells -/
def mBody (bor : List Bool) (n : Nat) (s : SF) : MF := fun ds => if ds.length = bor.length then (s (startS bor ds ++ List.replicate n .no)).bind fun o => match o with
  | .rt d δ => (outsD bor δ).map fun os => (d, os)
  | .nx δ => (outsD bor δ).map fun os => (.none, os)
  | _ => none
  else none
def mBodyO (bor : List Bool) (n : Nat) (s : SF) : MF := fun ds => if ds.length = bor.length then (s (startS bor ds ++ List.replicate n .no)).bind fun o => match o with
  | .ro d δ => (outsD bor δ).map fun os => (d, os)
  | _ => none
  else none
theorem startS_length : ∀ {bs : List Bool} {ds : List DT}, ds.length = bs.length → (startS bs ds).length = bs.length
  | [], [], _ => rfl
  | [], _ :: _, h => by cases h
  | _ :: _, [], h => by cases h
  | b :: bs, d :: ds, h => congrArg (· + 1) (startS_length (Nat.succ.inj h))
theorem startS_at : ∀ {bs : List Bool} {ds : List DT} {i : Nat} {s : Sl}, (startS bs ds)[i]? = some s → ∃ b d, bs[i]? = some b ∧ ds[i]? = some d ∧ s = if b = true then .bor d else .dat d
  | [], _, i, s, h => by simp [startS] at h
  | _ :: _, [], i, s, h => by simp [startS] at h
  | b :: bs, d :: ds, 0, s, h => ⟨b, d, rfl, rfl, (Option.some.inj h).symm⟩
  | b :: bs, d :: ds, i + 1, s, h => startS_at (bs := bs) (ds := ds) (i := i) h
theorem outsD_at : ∀ {bs : List Bool} {δ : DS} {os : List DT} {j : Nat}, outsD bs δ = some os → bs[j]? = some true → ∃ d, os[j]? = some d ∧ δ[j]? = some (.bor d)
  | [], _, _, _, _, h => by simp at h
  | b :: bs, δ, os, j, e, h => by
    obtain ⟨d, e1, e⟩ := Option.bind_eq_some_iff.mp e
    obtain ⟨ds, e2, e⟩ := Option.map_eq_some_iff.mp e
    subst e
    cases j with
    | zero =>
      cases Option.some.inj h
      cases δ with
      | nil => cases e1
      | cons s δ =>
        cases s with
        | bor x => exact ⟨d, rfl, by cases Option.some.inj e1; rfl⟩
        | _ => cases e1
    | succ j =>
      obtain ⟨x, h1, h2⟩ := outsD_at (bs := bs) (j := j) e2 h
      refine ⟨x, h1, ?_⟩
      cases δ with
      | nil => simp at h2
      | cons s δ => exact h2
section
variable {P : Program} {w : World} {K : PySem.W.Frag}
/-- from a def's body to its promise -/
theorem run_m {bor : List Bool} {n : Nat} {s : SF} {t : TS} (hs : LS P w K t s) {N : List Str} (hN : N.length = bor.length + n) {vs : List V} {H : Hp} {Q : VK} {E : XK} (h : spM P w K bor (mBody bor n s) vs H Q E) : t { nx := fun _ H' => Q .non H', rt := Q } (L2.start N vs) H := by
  obtain ⟨F, ow, ds, r, outs, le, hv, hd, how, hargs, hm, q⟩ := h
  have hm : (if ds.length = bor.length then (s (startS bor ds ++ List.replicate n .no)).bind fun o => match o with
    | .rt d δ => (outsD bor δ).map fun os => (d, os)
    | .nx δ => (outsD bor δ).map fun os => (.none, os)
    | _ => none
    else none) = some (r, outs) := hm
  rw [if_pos hd] at hm
  obtain ⟨o, e1, hm⟩ := Option.bind_eq_some_iff.mp hm
  have r0 : R P w K ⟨F, H, fun a => ∃ i, ow a = some i, vs⟩ F ow (startS bor ds ++ List.replicate n .no) (L2.start N vs) H := by
    refine ⟨Fle.refl F, fun a o h n => n, le, fun a o h g n => h, fun a o h => ⟨o, h⟩, how, fun a i h => .inr ⟨i, h⟩, ?_, fun i s e => ?_⟩
    · rw [List.length_append, startS_length hd, List.length_replicate]
      unfold L2.start
      rw [List.length_append, List.length_map, List.length_replicate, hN, hv]
      omega
    · by_cases c : i < bor.length
      · rw [List.getElem?_append_left (by rw [startS_length hd]; exact c)] at e
        obtain ⟨b, d, h1, h2, h3⟩ := startS_at e
        have h4 : vs[i]? = some (vs[i]'(by rw [hv]; exact c)) := List.getElem?_eq_getElem _
        have ha := hargs i b _ d h1 h4 h2
        have h5 : (L2.start N vs)[i]? = some (some (vs[i]'(by rw [hv]; exact c))) := by
          unfold L2.start
          rw [List.getElem?_append_left (by rw [List.length_map, hv]; exact c), List.getElem?_map, h4]
          rfl
        rw [h5]
        subst h3
        cases b with
        | true =>
          obtain ⟨a, e1, e2, e3⟩ := (show ∃ a, _ from ha)
          rw [e1] at h4 ⊢
          exact .bor e2 ⟨i, e2⟩ h4 e3
        | false => exact .dat ha
      · rw [List.getElem?_append_right (by rw [startS_length hd]; omega)] at e
        have := List.eq_of_mem_replicate (List.mem_of_getElem? e)
        subst this
        exact .no
  refine hs _ F ow _ _ H r0 o e1 _ ?_
  have fin : ∀ (d : DT) (δ : DS) (F' : Hp) (ow' : Addr → Option Nat) (σ' : L2.St) (H' : Hp) (v : V), R P w K ⟨F, H, fun a => ∃ i, ow a = some i, vs⟩ F' ow' δ σ' H' → Dat P w K F' v d → (outsD bor δ).map (fun os => (d, os)) = some (r, outs) → Q v H' := fun d δ F' ow' σ' H' v r1 hv' e => by
    obtain ⟨os, e2, e⟩ := Option.map_eq_some_iff.mp e
    cases e
    refine q v H' F' ow' ⟨r1.grow, r1.le, r1.new, r1.keep, r1.dom⟩ (fun a i h => ⟨(r1.own a i h).1, (r1.own a i h).2, r1.ins a i h⟩) (fun j u h1 h2 => ?_) hv'
    obtain ⟨d', h3, h4⟩ := outsD_at e2 h1
    have z := r1.sl j _ h4
    generalize σ'[j]? = yy at z
    cases z with
    | @bor a _ h5 h6 h7 h8 =>
      have h7 : vs[j]? = some (.ref a) := h7
      rw [h2] at h7
      cases Option.some.inj h7
      exact ⟨a, d', h3, rfl, h5, h8⟩
  cases o with
  | nx δ => exact fun F' ow' σ' H' r1 => fin .none δ F' ow' σ' H' .non r1 .non hm
  | rt d δ => exact fun F' ow' σ' H' v r1 hv' => fin d δ F' ow' σ' H' v r1 hv' hm
  | bk δ => cases hm
  | ct δ => cases hm
  | ro d δ => cases hm
theorem run_mO {bor : List Bool} {n : Nat} {s : SF} {t : TS} (hs : LS P w K t s) {N : List Str} (hN : N.length = bor.length + n) {vs : List V} {H : Hp} {Q : VK} {E : XK} (h : spMO P w K bor (mBodyO bor n s) vs H Q E) : t { nx := fun _ H' => Q .non H', rt := Q } (L2.start N vs) H := by
  obtain ⟨F, ow, ds, r, outs, le, hv, hd, how, hargs, hm, q⟩ := h
  have hm : (if ds.length = bor.length then (s (startS bor ds ++ List.replicate n .no)).bind fun o => match o with
    | .ro d δ => (outsD bor δ).map fun os => (d, os)
    | _ => none
    else none) = some (r, outs) := hm
  rw [if_pos hd] at hm
  obtain ⟨o, e1, hm⟩ := Option.bind_eq_some_iff.mp hm
  have r0 : R P w K ⟨F, H, fun a => ∃ i, ow a = some i, vs⟩ F ow (startS bor ds ++ List.replicate n .no) (L2.start N vs) H := by
    refine ⟨Fle.refl F, fun a o h n => n, le, fun a o h g n => h, fun a o h => ⟨o, h⟩, how, fun a i h => .inr ⟨i, h⟩, ?_, fun i s e => ?_⟩
    · rw [List.length_append, startS_length hd, List.length_replicate]
      unfold L2.start
      rw [List.length_append, List.length_map, List.length_replicate, hN, hv]
      omega
    · by_cases c : i < bor.length
      · rw [List.getElem?_append_left (by rw [startS_length hd]; exact c)] at e
        obtain ⟨b, d, h1, h2, h3⟩ := startS_at e
        have h4 : vs[i]? = some (vs[i]'(by rw [hv]; exact c)) := List.getElem?_eq_getElem _
        have ha := hargs i b _ d h1 h4 h2
        have h5 : (L2.start N vs)[i]? = some (some (vs[i]'(by rw [hv]; exact c))) := by
          unfold L2.start
          rw [List.getElem?_append_left (by rw [List.length_map, hv]; exact c), List.getElem?_map, h4]
          rfl
        rw [h5]
        subst h3
        cases b with
        | true =>
          obtain ⟨a, e1, e2, e3⟩ := (show ∃ a, _ from ha)
          rw [e1] at h4 ⊢
          exact .bor e2 ⟨i, e2⟩ h4 e3
        | false => exact .dat ha
      · rw [List.getElem?_append_right (by rw [startS_length hd]; omega)] at e
        have := List.eq_of_mem_replicate (List.mem_of_getElem? e)
        subst this
        exact .no
  refine hs _ F ow _ _ H r0 o e1 _ ?_
  cases o with
  | ro d δ =>
    intro F' ow' σ' H' b r1 n1 n2 n3 ho hown
    obtain ⟨os, e2, e⟩ := Option.map_eq_some_iff.mp hm
    cases e
    refine q b H' F' ow' ⟨r1.grow, r1.le, r1.new, r1.keep, r1.dom⟩ (fun a i h => ⟨(r1.own a i h).1, (r1.own a i h).2, r1.ins a i h⟩) (fun j u h1 h2 => ?_) n3 n1 n2 ho hown
    obtain ⟨d', h3, h4⟩ := outsD_at e2 h1
    have z := r1.sl j _ h4
    generalize σ'[j]? = yy at z
    cases z with
    | @bor a _ h5 h6 h7 h8 =>
      have h7 : vs[j]? = some (.ref a) := h7
      rw [h2] at h7
      cases Option.some.inj h7
      exact ⟨a, d', h3, rfl, h5, h8⟩
  | nx δ => cases hm
  | rt d δ => cases hm
  | bk δ => cases hm
  | ct δ => cases hm
theorem spM_len {bor : List Bool} {m : MF} {vs : List V} {H : Hp} {Q : VK} {E : XK} (h : spM P w K bor m vs H Q E) : vs.length = bor.length := by
  obtain ⟨_, _, _, _, _, _, hv, _⟩ := h
  exact hv
/-- THE RULE for a def -/
theorem okM {K : PySem.W.Frag} {mg : Str → Option Value} {base : Heap} {x qual : Str} {st : Stmt} {f : Addr} {fd : FuncData} {N ps : List Str} {k : Nat} {bor : List Bool} {n : Nat} {s : SF} (F : Fun K x qual st f fd) (S : FnScope N ps (defScope st)) (hp : ps.length = bor.length) (hN : N.length = bor.length + n)
    (hb : ∀ (cdv : Value) (A : Around) (outer : List Env) (s0 : Shared) (H : Hp) (E : XK), Room k (A.deeper (envOfC qual (defScope st) s0.heap.objs.size f cdv)) → ∃ t, PSs (cxOf CX0 P w K mg base N qual (defScope st) f cdv A outer s0 H E).nox (defBody st) t ∧ LS P w K t s) :
    FnOk P w K mg base CX0 (k + 1) f fd ps (spM P w K bor (mBody bor n s)) := by
  refine F.ok S (fun vs H Q E h => ?_) (fun cdv A outer s0 H vs Q E hr h => ?_)
  · rw [spM_len h, hp]
  · obtain ⟨t, h1, h2⟩ := hb cdv A outer s0 H E hr
    exact ⟨t, h1, run_m h2 hN h⟩
theorem spMO_len {bor : List Bool} {m : MF} {vs : List V} {H : Hp} {Q : VK} {E : XK} (h : spMO P w K bor m vs H Q E) : vs.length = bor.length := by
  obtain ⟨_, _, _, _, _, _, hv, _⟩ := h
  exact hv
theorem okMO {K : PySem.W.Frag} {mg : Str → Option Value} {base : Heap} {x qual : Str} {st : Stmt} {f : Addr} {fd : FuncData} {N ps : List Str} {k : Nat} {bor : List Bool} {n : Nat} {s : SF} (F : Fun K x qual st f fd) (S : FnScope N ps (defScope st)) (hp : ps.length = bor.length) (hN : N.length = bor.length + n)
    (hb : ∀ (cdv : Value) (A : Around) (outer : List Env) (s0 : Shared) (H : Hp) (E : XK), Room k (A.deeper (envOfC qual (defScope st) s0.heap.objs.size f cdv)) → ∃ t, PSs (cxOf CX0 P w K mg base N qual (defScope st) f cdv A outer s0 H E).nox (defBody st) t ∧ LS P w K t s) :
    FnOk P w K mg base CX0 (k + 1) f fd ps (spMO P w K bor (mBodyO bor n s)) := by
  refine F.ok S (fun vs H Q E h => ?_) (fun cdv A outer s0 H vs Q E hr h => ?_)
  · rw [spMO_len h, hp]
  · obtain ⟨t, h1, h2⟩ := hb cdv A outer s0 H E hr
    exact ⟨t, h1, run_mO h2 hN h⟩
/-- a call, nothing lent -/
def eCall (m : MF) (es : AF) : EF := fun δ => (es δ).bind fun p => (frzs p.2 p.1).bind fun q => (m q.1).map fun r => (.d r.1, q.2)
theorem le_call {bor : List Bool} {m : MF} {ta : TA} {ea : AF} (ha : LA P w K ta ea) (hb : bor.all (fun b => !b) = true) (hl : ∀ δ rs δ', ea δ = some (rs, δ') → rs.length = bor.length) : LE P w K (tCall (spM P w K bor m) [] E0 ta) (eCall m ea) := by
  intro C F ow δ σ H r0 x δ' e Q k
  obtain ⟨⟨rs, δ1⟩, e1, e⟩ := Option.bind_eq_some_iff.mp e
  obtain ⟨⟨ds, δ2⟩, e2, e⟩ := Option.bind_eq_some_iff.mp e
  obtain ⟨⟨z, outs⟩, e3, e⟩ := Option.map_eq_some_iff.mp e
  cases e
  refine ha C F ow δ σ H r0 _ _ e1 _ fun vs F1 ow1 H1 r1 l1 h1 => ?_
  obtain ⟨F2, ow2, l2, r2, d2⟩ := r1.freezes h1 e2
  have hlen : vs.length = bor.length := by rw [Paired.length h1]; exact hl _ _ _ e1
  have nob : ∀ j : Nat, bor[j]? ≠ some true := fun j h => by
    have := List.all_eq_true.mp hb true (List.mem_of_getElem? h)
    cases this
  rw [List.append_nil]
  refine ⟨F2, fun _ => none, ds, z, outs, r2.le, hlen, by rw [← d2.len]; exact hlen, fun a i h => (by cases h), fun j b v d h1 h2 h3 => ?_, e3, fun v H' F' ow' af _ _ hv => ?_⟩
  · cases b with
    | true => exact absurd h1 (nob j)
    | false =>
      obtain ⟨v', e4, h5⟩ := d2.get' h3
      rw [h2] at e4
      cases Option.some.inj e4
      exact h5
  · have nW : ∀ a, ¬ ∃ i, (fun _ : Addr => (none : Option Nat)) a = some i := fun a ⟨i, h⟩ => by cases h
    have keep : ∀ a o, H1 a = some o → F2 a = none → H' a = some o ∧ F' a = none := fun a o h n => ⟨af.keep a o h (nW a) n, af.new a o h n⟩
    refine k v F' ow2 H' ⟨r2.grow.trans af.le, fun a o h n => ?_, af.leH, fun a o h g n => ?_, fun a o h => ?_, fun a i h => ?_, r2.ins, r2.len, fun i s h => ?_⟩ (l1.trans (l2.trans ⟨af.le, fun a o h f g _ => ?_, af.dom⟩)) hv
    · obtain ⟨o', h'⟩ := r2.dom a o h
      exact (keep a o' h' (r2.new a o h n)).2
    · exact (keep a o (r2.keep a o h g n) (r2.new a o h n)).1
    · obtain ⟨o', h'⟩ := r2.dom a o h
      exact af.dom a o' h'
    · obtain ⟨n, o, ho⟩ := r2.own a i h
      exact ⟨(keep a o ho n).2, o, (keep a o ho n).1⟩
    · have z := r2.sl i s h
      generalize σ[i]? = yy at z
      have kk : ∀ a, ow2 a = some i → H' a = H1 a := fun a h => by
        obtain ⟨n, o, ho⟩ := r2.own a i h
        rw [(keep a o ho n).1, ho]
      cases z with
      | no => exact .no
      | dat x => exact .dat (x.mono af.le)
      | own a b x => exact .own a b (x.keep af.le (kk _ a))
      | bor a b c x => exact .bor a b c (x.keep af.le (kk _ a))
    · exact ⟨(keep a o h f).1, (keep a o h f).2, g⟩
def oCall (m : MF) (es : AF) : OF := fun δ => (es δ).bind fun p => (frzs p.2 p.1).bind fun q => (m q.1).map fun r => (r.1, q.2)
theorem lo_call {bor : List Bool} {m : MF} {ta : TA} {ea : AF} (ha : LA P w K ta ea) (hb : bor.all (fun b => !b) = true) (hl : ∀ δ rs δ', ea δ = some (rs, δ') → rs.length = bor.length) : LO P w K (tCall (spMO P w K bor m) [] E0 ta) (oCall m ea) := by
  intro C F ow δ σ H r0 x δ' e Q k
  obtain ⟨⟨rs, δ1⟩, e1, e⟩ := Option.bind_eq_some_iff.mp e
  obtain ⟨⟨ds, δ2⟩, e2, e⟩ := Option.bind_eq_some_iff.mp e
  obtain ⟨⟨z, outs⟩, e3, e⟩ := Option.map_eq_some_iff.mp e
  cases e
  refine ha C F ow δ σ H r0 _ _ e1 _ fun vs F1 ow1 H1 r1 l1 h1 => ?_
  obtain ⟨F2, ow2, l2, r2, d2⟩ := r1.freezes h1 e2
  have hlen : vs.length = bor.length := by rw [Paired.length h1]; exact hl _ _ _ e1
  have nob : ∀ j : Nat, bor[j]? ≠ some true := fun j h => by
    have := List.all_eq_true.mp hb true (List.mem_of_getElem? h)
    cases this
  rw [List.append_nil]
  refine ⟨F2, fun _ => none, ds, z, outs, r2.le, hlen, by rw [← d2.len]; exact hlen, fun a i h => (by cases h), fun j b v d h1 h2 h3 => ?_, e3, fun b H' F' ow' af _ _ nb nF nw ho hv => ?_⟩
  · cases b with
    | true => exact absurd h1 (nob j)
    | false =>
      obtain ⟨v', e4, h5⟩ := d2.get' h3
      rw [h2] at e4
      cases Option.some.inj e4
      exact h5
  · have nW : ∀ a, ¬ ∃ i, (fun _ : Addr => (none : Option Nat)) a = some i := fun a ⟨i, h⟩ => by cases h
    have keep : ∀ a o, H1 a = some o → F2 a = none → H' a = some o ∧ F' a = none := fun a o h n => ⟨af.keep a o h (nW a) n, af.new a o h n⟩
    refine k b F' ow2 H' ⟨r2.grow.trans af.le, fun a o h n => ?_, af.leH, fun a o h g n => ?_, fun a o h => ?_, fun a i h => ?_, r2.ins, r2.len, fun i s h => ?_⟩ (l1.trans (l2.trans ⟨af.le, fun a o h f g _ => ?_, af.dom⟩)) ((l1.trans l2).no nb) nF ?_ ?_ ho hv
    · obtain ⟨o', h'⟩ := r2.dom a o h
      exact (keep a o' h' (r2.new a o h n)).2
    · exact (keep a o (r2.keep a o h g n) (r2.new a o h n)).1
    · obtain ⟨o', h'⟩ := r2.dom a o h
      exact af.dom a o' h'
    · obtain ⟨n, o, ho⟩ := r2.own a i h
      exact ⟨(keep a o ho n).2, o, (keep a o ho n).1⟩
    · have z := r2.sl i s h
      generalize σ[i]? = yy at z
      have kk : ∀ a, ow2 a = some i → H' a = H1 a := fun a h => by
        obtain ⟨n, o, ho⟩ := r2.own a i h
        rw [(keep a o ho n).1, ho]
      cases z with
      | no => exact .no
      | dat x => exact .dat (x.mono af.le)
      | own a b x => exact .own a b (x.keep af.le (kk _ a))
      | bor a b c x => exact .bor a b c (x.keep af.le (kk _ a))
    · exact ⟨(keep a o h f).1, (keep a o h f).2, g⟩
    · cases q : ow2 b with
      | none => rfl
      | some i =>
        obtain ⟨_, o, h⟩ := r2.own b i q
        rw [nb] at h
        cases h
    · cases q : C.H0 b with
      | none => rfl
      | some o =>
        obtain ⟨o', h⟩ := r2.dom b o q
        rw [nb] at h
        cases h
theorem alen_nil : ∀ δ rs δ', aNil δ = some (rs, δ') → rs.length = 0 := fun δ rs δ' e => by
  cases Option.some.inj e
  rfl
theorem alen_cons {e : EF} {es : AF} {n : Nat} (h : ∀ δ rs δ', es δ = some (rs, δ') → rs.length = n) : ∀ δ rs δ', aCons e es δ = some (rs, δ') → rs.length = n + 1 := fun δ rs δ' q => by
  obtain ⟨p, _, q⟩ := Option.bind_eq_some_iff.mp q
  obtain ⟨p2, h2, q⟩ := Option.map_eq_some_iff.mp q
  cases q
  exact congrArg (· + 1) (h _ _ _ h2)
/-- a call, some slots lent -/
def lentS : List Bool → List Rv → List (Option Nat)
  | b :: bs, r :: rs => (if b = true then (match r with | .s i => some i | _ => none) else none) :: lentS bs rs
  | _, _ => []
/-- for which argument a slot is lent -/
def pinv (l : List (Option Nat)) (i : Nat) : Option Nat := l.idxOf? (some i)
def okL (l : List (Option Nat)) : Bool := (List.range l.length).all fun j => match l[j]? with
  | some (some i) => pinv l i == some j
  | _ => true
def frzB : List Bool → List Rv → DS → Option (List DT × DS)
  | true :: bs, _ :: rs, δ => (frzB bs rs δ).map fun q => (.none :: q.1, q.2)
  | false :: bs, r :: rs, δ => (frzV δ r).bind fun p => (frzB bs rs p.2).map fun q => (p.1 :: q.1, q.2)
  | [], [], δ => some ([], δ)
  | _, _, _ => none
def lent1 (δ : DS) : Rv → Option DT
  | .s i => match δ[i]? with
    | some (.own d) => some d
    | some (.bor d) => some d
    | _ => none
  | _ => none
def lendB (δ : DS) : List Bool → List Rv → List DT → Option (List DT)
  | true :: bs, r :: rs, _ :: ds => (lent1 δ r).bind fun d => (lendB δ bs rs ds).map fun es => d :: es
  | false :: bs, _ :: rs, d :: ds => (lendB δ bs rs ds).map fun es => d :: es
  | [], [], [] => some []
  | _, _, _ => none
def putS1 : Option DT → Sl → Sl
  | some d, .own _ => .own d
  | some d, .bor _ => .bor d
  | _, s => s
def putS (l : List (Option Nat)) (outs : List DT) (i : Nat) (s : Sl) : Sl := match pinv l i with
  | some j => putS1 outs[j]? s
  | none => s
def eCallB (bor : List Bool) (m : MF) (es : AF) : EF := fun δ => (es δ).bind fun p => if okL (lentS bor p.1) = true then (frzB bor p.1 p.2).bind fun q => (lendB q.2 bor p.1 q.1).bind fun ds => (m ds).map fun r => (.d r.1, q.2.mapIdx (putS (lentS bor p.1) r.2)) else none
theorem frzB_at : ∀ {bs : List Bool} {rs : List Rv} {C : Cn} {F H : Hp} {ow : Addr → Option Nat} {δ δ' : DS} {σ : L2.St} {vs : List V} {ds : List DT}, R P w K C F ow δ σ H → RvsAt P w K F σ vs rs → frzB bs rs δ = some (ds, δ') → ∃ F' ow', Nx C F ow H F' ow' H ∧ R P w K C F' ow' δ' σ H ∧ ds.length = bs.length ∧ rs.length = bs.length ∧ ∀ (j : Nat) (v : V) (d : DT), bs[j]? = some false → vs[j]? = some v → ds[j]? = some d → Dat P w K F' v d
  | [], [], _, F, _, ow, _, _, _, _, _, r, h, e => by
    cases Option.some.inj e
    exact ⟨F, ow, Nx.refl, r, rfl, rfl, fun j v d h => by simp at h⟩
  | [], _ :: _, _, _, _, _, _, _, _, _, _, _, _, e => by cases e
  | true :: _, [], _, _, _, _, _, _, _, _, _, _, _, e => by cases e
  | false :: _, [], _, _, _, _, _, _, _, _, _, _, _, e => by cases e
  | true :: bs, r0 :: rs, _, _, _, _, _, _, _, _, _, r, h, e => by
    obtain ⟨⟨ds, δ1⟩, h1, e⟩ := Option.map_eq_some_iff.mp e
    cases e
    cases h with
    | cons a b =>
      obtain ⟨F1, ow1, l1, r1, n1, n2, d1⟩ := frzB_at r b h1
      refine ⟨F1, ow1, l1, r1, congrArg (· + 1) n1, congrArg (· + 1) n2, fun j v d h2 h3 h4 => ?_⟩
      cases j with
      | zero => cases h2
      | succ j => exact d1 j v d h2 h3 h4
  | false :: bs, r0 :: rs, _, _, _, _, _, _, _, _, _, r, h, e => by
    obtain ⟨⟨d0, δ1⟩, h1, e⟩ := Option.bind_eq_some_iff.mp e
    obtain ⟨⟨ds, δ2⟩, h2, e⟩ := Option.map_eq_some_iff.mp e
    cases e
    cases h with
    | cons a b =>
      obtain ⟨F1, ow1, l1, r1, dd⟩ := r.freezeN a h1
      obtain ⟨F2, ow2, l2, r2, n1, n2, d2⟩ := frzB_at r1 (RvsAt.mono b l1.le) h2
      refine ⟨F2, ow2, l1.trans l2, r2, congrArg (· + 1) n1, congrArg (· + 1) n2, fun j v d h3 h4 h5 => ?_⟩
      cases j with
      | zero =>
        cases Option.some.inj h4
        cases Option.some.inj h5
        exact dd.mono l2.le
      | succ j => exact d2 j v d h3 h4 h5
theorem lendB_at {δ : DS} : ∀ {bs : List Bool} {rs : List Rv} {ds es : List DT}, lendB δ bs rs ds = some es → es.length = bs.length ∧ ∀ j : Nat, (bs[j]? = some false → es[j]? = ds[j]?) ∧ (bs[j]? = some true → ∃ i d, rs[j]? = some (.s i) ∧ es[j]? = some d ∧ (δ[i]? = some (.own d) ∨ δ[i]? = some (.bor d)))
  | [], [], [], es, e => by
    cases Option.some.inj e
    exact ⟨rfl, fun j => ⟨fun h => by simp at h, fun h => by simp at h⟩⟩
  | true :: bs, r :: rs, d :: ds, es, e => by
    obtain ⟨x, h1, e⟩ := Option.bind_eq_some_iff.mp e
    obtain ⟨xs, h2, e⟩ := Option.map_eq_some_iff.mp e
    subst e
    obtain ⟨n1, h3⟩ := lendB_at h2
    refine ⟨congrArg (· + 1) n1, fun j => ?_⟩
    cases j with
    | zero =>
      refine ⟨fun h => (by cases h), fun _ => ?_⟩
      cases r with
      | d y => cases h1
      | s i =>
        have h1 : (match δ[i]? with | some (.own d) => some d | some (.bor d) => some d | _ => none) = some x := h1
        cases q : δ[i]? with
        | none =>
          rw [q] at h1
          cases h1
        | some s =>
          rw [q] at h1
          cases s with
          | own y =>
            cases Option.some.inj h1
            exact ⟨i, _, rfl, rfl, .inl q⟩
          | bor y =>
            cases Option.some.inj h1
            exact ⟨i, _, rfl, rfl, .inr q⟩
          | _ => cases h1
    | succ j => exact h3 j
  | false :: bs, r :: rs, d :: ds, es, e => by
    obtain ⟨xs, h2, e⟩ := Option.map_eq_some_iff.mp e
    subst e
    obtain ⟨n1, h3⟩ := lendB_at h2
    refine ⟨congrArg (· + 1) n1, fun j => ?_⟩
    cases j with
    | zero => exact ⟨fun _ => rfl, fun h => by cases h⟩
    | succ j => exact h3 j
  | [], _ :: _, _, _, e => by cases e
  | [], [], _ :: _, _, e => by cases e
  | true :: _, [], _, _, e => by cases e
  | false :: _, [], _, _, e => by cases e
  | true :: _, _ :: _, [], _, e => by cases e
  | false :: _, _ :: _, [], _, e => by cases e
theorem lentS_at : ∀ {bs : List Bool} {rs : List Rv} {j i : Nat}, (lentS bs rs)[j]? = some (some i) → bs[j]? = some true ∧ rs[j]? = some (.s i)
  | [], _, j, i, h => by simp [lentS] at h
  | _ :: _, [], j, i, h => by simp [lentS] at h
  | b :: bs, r :: rs, 0, i, h => by
    have h := Option.some.inj h
    cases b with
    | true =>
      cases r with
      | d y => cases h
      | s k =>
        cases Option.some.inj h
        exact ⟨rfl, rfl⟩
    | false => cases h
  | b :: bs, r :: rs, j + 1, i, h => lentS_at (bs := bs) (rs := rs) (j := j) h
theorem lentS_of : ∀ {bs : List Bool} {rs : List Rv} {j i : Nat}, bs[j]? = some true → rs[j]? = some (.s i) → (lentS bs rs)[j]? = some (some i)
  | [], _, j, i, h, _ => by simp at h
  | _ :: _, [], j, i, _, h => by simp at h
  | b :: bs, r :: rs, 0, i, h, g => by
    cases Option.some.inj h
    cases Option.some.inj g
    rfl
  | b :: bs, r :: rs, j + 1, i, h, g => lentS_of (bs := bs) (rs := rs) (j := j) h g
theorem pinv_at {l : List (Option Nat)} {i j : Nat} (h : pinv l i = some j) : l[j]? = some (some i) := by
  unfold pinv at h
  rw [List.idxOf?_eq_some_iff] at h
  obtain ⟨hj, e, _⟩ := h
  rw [List.getElem?_eq_getElem hj]
  exact congrArg some (by simpa using e)
theorem okL_at {l : List (Option Nat)} (h : okL l = true) {i j : Nat} (e : l[j]? = some (some i)) : pinv l i = some j := by
  have hj := (List.getElem?_eq_some_iff.mp e).1
  have := List.all_eq_true.mp h j (List.mem_range.mpr hj)
  rw [e] at this
  simpa using this
theorem le_callB {bor : List Bool} {m : MF} {ta : TA} {ea : AF} (ha : LA P w K ta ea) : LE P w K (tCall (spM P w K bor m) [] E0 ta) (eCallB bor m ea) := by
  intro C F ow δ σ H r0 x δ' e Q k
  obtain ⟨⟨rs, δ1⟩, e1, e⟩ := Option.bind_eq_some_iff.mp e
  dsimp only at e
  split at e
  case isFalse => cases e
  next hok =>
  obtain ⟨⟨ds, δ2⟩, e2, e⟩ := Option.bind_eq_some_iff.mp e
  obtain ⟨es, e3, e⟩ := Option.bind_eq_some_iff.mp e
  obtain ⟨⟨z, outs⟩, e4, e⟩ := Option.map_eq_some_iff.mp e
  cases e
  refine ha C F ow δ σ H r0 _ _ e1 _ fun vs F1 ow1 H1 r1 l1 h1 => ?_
  obtain ⟨F2, ow2, l2, r2, n1, n2, d2⟩ := frzB_at r1 h1 e2
  obtain ⟨n3, le3⟩ := lendB_at e3
  have hlen : vs.length = bor.length := by rw [Paired.length h1]; exact n2
  -- whose an address is, told by the arguments
  have owc : ∀ a j, (ow2 a).bind (pinv (lentS bor rs)) = some j → ∃ i, ow2 a = some i ∧ (lentS bor rs)[j]? = some (some i) := fun a j h => by
    obtain ⟨i, h1, h2⟩ := Option.bind_eq_some_iff.mp h
    exact ⟨i, h1, pinv_at h2⟩
  have hslot : ∀ (j i : Nat) (v : V), vs[j]? = some v → rs[j]? = some (.s i) → σ[i]? = some (some v) := fun j i v g1 g2 => by
    have : ∀ {vs : List V} {rs : List Rv} {j : Nat}, RvsAt P w K F1 σ vs rs → vs[j]? = some v → rs[j]? = some (.s i) → σ[i]? = some (some v) := by
      intro vs rs j h
      induction h generalizing j with
      | nil => intro g; simp at g
      | cons a b ih =>
        intro g1 g2
        cases j with
        | zero =>
          cases Option.some.inj g1
          cases Option.some.inj g2
          exact a
        | succ j => exact ih g1 g2
    exact this h1 g1 g2
  rw [List.append_nil]
  refine ⟨F2, fun a => (ow2 a).bind (pinv (lentS bor rs)), es, z, outs, r2.le, hlen, n3, fun a j h => ?_, fun j b v d g1 g2 g3 => ?_, e4, fun v H' F' ow' af how' hlent hv => ?_⟩
  · obtain ⟨i, h2, _⟩ := owc a j h
    exact r2.own a i h2
  · cases b with
    | true =>
      obtain ⟨i, d', h2, h3, h4⟩ := (le3 j).2 g1
      rw [g3] at h3
      cases Option.some.inj h3
      have hs := hslot j i v g2 h2
      have hp := okL_at hok (lentS_of g1 h2)
      rcases h4 with h4 | h4
      · have zz := r2.sl i _ h4
        rw [hs] at zz
        cases zz with
        | @own a _ o1 o2 o3 => exact ⟨a, rfl, by show (ow2 a).bind _ = some j; rw [o1]; exact hp, o3⟩
      · have zz := r2.sl i _ h4
        rw [hs] at zz
        cases zz with
        | @bor a _ o1 o2 o3 o4 => exact ⟨a, rfl, by show (ow2 a).bind _ = some j; rw [o1]; exact hp, o4⟩
    | false =>
      rw [(le3 j).1 g1] at g3
      exact d2 j v d g1 g2 g3
  · -- behind the call
    have notW : ∀ a, (∀ i, ow2 a = some i → pinv (lentS bor rs) i = none) → ¬ ∃ j, (ow2 a).bind (pinv (lentS bor rs)) = some j := fun a h ⟨j, g⟩ => by
      obtain ⟨i, h1, h2⟩ := Option.bind_eq_some_iff.mp g
      rw [h i h1] at h2
      cases h2
    have keep : ∀ a o, H1 a = some o → F2 a = none → (∀ i, ow2 a = some i → pinv (lentS bor rs) i = none) → H' a = some o ∧ F' a = none := fun a o h n g => ⟨af.keep a o h (notW a g) n, af.new a o h n⟩
    -- whose an address is then
    have own3 : ∀ a i, (match ow' a with | some j => ((lentS bor rs)[j]?).join | none => (ow2 a).bind fun i => if pinv (lentS bor rs) i = none then some i else none) = some i →
        (∃ j, ow' a = some j ∧ (lentS bor rs)[j]? = some (some i)) ∨ (ow' a = none ∧ ow2 a = some i ∧ pinv (lentS bor rs) i = none) := fun a i h => by
      cases q : ow' a with
      | some j =>
        rw [q] at h
        have h : ((lentS bor rs)[j]?).join = some i := h
        left
        refine ⟨j, rfl, ?_⟩
        cases q2 : (lentS bor rs)[j]? with
        | none =>
          rw [q2] at h
          cases h
        | some y =>
          rw [q2] at h
          exact congrArg some h
      | none =>
        rw [q] at h
        obtain ⟨i', h1, h2⟩ := Option.bind_eq_some_iff.mp h
        split at h2
        · next c =>
          cases Option.some.inj h2
          exact .inr ⟨rfl, h1, c⟩
        · cases h2
    have noow' : ∀ a i, ow2 a = some i → pinv (lentS bor rs) i = none → ow' a = none := fun a i h g => by
      cases q : ow' a with
      | none => rfl
      | some j =>
        obtain ⟨_, _, h3⟩ := how' a j q
        obtain ⟨_, o, ho⟩ := r2.own a i h
        rcases h3 with h3 | ⟨j', h3⟩
        · rw [ho] at h3
          cases h3
        · have h3 : (ow2 a).bind (pinv (lentS bor rs)) = some j' := h3
          rw [h] at h3
          exact absurd h3 (by show ¬ pinv (lentS bor rs) i = some j'; rw [g]; exact fun z => by cases z)
    refine k v F' (fun a => match ow' a with | some j => ((lentS bor rs)[j]?).join | none => (ow2 a).bind fun i => if pinv (lentS bor rs) i = none then some i else none) H'
      ⟨r2.grow.trans af.le, fun a o h n => ?_, af.leH, fun a o h g n => ?_, fun a o h => ?_, fun a i h => ?_, fun a i h => ?_, by rw [List.length_mapIdx]; exact r2.len, fun i s h => ?_⟩ (l1.trans (l2.trans ⟨af.le, fun a o h f g n0 => ?_, af.dom⟩)) hv
    · obtain ⟨o', h'⟩ := r2.dom a o h
      exact af.new a o' h' (r2.new a o h n)
    · refine (keep a o (r2.keep a o h g n) (r2.new a o h n) fun i q => ?_).1
      rcases r2.ins a i q with q | q
      · rw [q] at h
        cases h
      · exact absurd q g
    · obtain ⟨o', h'⟩ := r2.dom a o h
      exact af.dom a o' h'
    · rcases own3 a i h with ⟨j, h1, h2⟩ | ⟨h1, h2, h3⟩
      · exact ⟨(how' a j h1).1, (how' a j h1).2.1⟩
      · obtain ⟨n, o, ho⟩ := r2.own a i h2
        have := keep a o ho n fun i' q => by rw [h2] at q; cases q; exact h3
        exact ⟨this.2, o, this.1⟩
    · rcases own3 a i h with ⟨j, h1, h2⟩ | ⟨h1, h2, h3⟩
      · rcases (how' a j h1).2.2 with h4 | ⟨j', h4⟩
        · left
          cases q : C.H0 a with
          | none => rfl
          | some o =>
            obtain ⟨o', h5⟩ := r2.dom a o q
            rw [h5] at h4
            cases h4
        · obtain ⟨i', h5, _⟩ := owc a j' h4
          exact r2.ins a i' h5
      · exact r2.ins a i h2
    · rw [List.getElem?_mapIdx] at h
      obtain ⟨s0, h2, h3⟩ := Option.map_eq_some_iff.mp h
      have zz := r2.sl i s0 h2
      generalize hy : σ[i]? = yy at zz
      cases hp : pinv (lentS bor rs) i with
      | none =>
        have e0 : s = s0 := by
          rw [← h3]
          unfold putS
          rw [hp]
        subst e0
        have kk : ∀ a, ow2 a = some i → H' a = H1 a := fun a h => by
          obtain ⟨n, o, ho⟩ := r2.own a i h
          rw [(keep a o ho n fun i' q => by rw [h] at q; cases q; exact hp).1, ho]
        have ko : ∀ a, ow2 a = some i → (match ow' a with | some j => ((lentS bor rs)[j]?).join | none => (ow2 a).bind fun i => if pinv (lentS bor rs) i = none then some i else none) = some i := fun a h => by
          rw [noow' a i h hp, h]
          show (if pinv (lentS bor rs) i = none then some i else none) = some i
          rw [if_pos hp]
        cases zz with
        | no => exact .no
        | dat x => exact .dat (x.mono af.le)
        | own a b x => exact .own (ko _ a) b (x.keep af.le (kk _ a))
        | bor a b c x => exact .bor (ko _ a) b c (x.keep af.le (kk _ a))
      | some j =>
        have hl := pinv_at hp
        obtain ⟨g1, g2⟩ := lentS_at hl
        obtain ⟨v', hv'⟩ : ∃ v', vs[j]? = some v' := ⟨_, List.getElem?_eq_getElem (by rw [hlen]; exact (List.getElem?_eq_some_iff.mp g1).1)⟩
        obtain ⟨a, d, o1, o2, o3, o4⟩ := hlent j v' g1 hv'
        subst o2
        have hs := hslot j i _ hv' g2
        rw [hy] at hs
        cases hs
        have ko : (match ow' a with | some j => ((lentS bor rs)[j]?).join | none => (ow2 a).bind fun i => if pinv (lentS bor rs) i = none then some i else none) = some i := by
          rw [o3]
          show ((lentS bor rs)[j]?).join = some i
          rw [hl]
          rfl
        have e0 : s = putS1 outs[j]? s0 := by
          rw [← h3]
          unfold putS
          rw [hp]
        rw [o1] at e0
        cases zz with
        | no => subst e0; exact .no
        | dat x => subst e0; exact .dat (x.mono af.le)
        | own p1 p2 p3 =>
          subst e0
          exact .own ko p2 o4
        | bor p1 p2 p3 p4 =>
          subst e0
          exact .bor ko p2 p3 o4
    · have g' : ∀ i, ow2 a = some i → pinv (lentS bor rs) i = none := fun i q => by
        rw [g] at q
        cases q
      obtain ⟨q1, q2⟩ := keep a o h f g'
      refine ⟨q1, q2, ?_⟩
      have : ow' a = none := by
        cases q : ow' a with
        | none => rfl
        | some j =>
          rcases (how' a j q).2.2 with h3 | ⟨j', h3⟩
          · rw [h] at h3
            cases h3
          · have h3 : (ow2 a).bind (pinv (lentS bor rs)) = some j' := h3
            rw [g] at h3
            cases h3
      show (match ow' a with | some j => ((lentS bor rs)[j]?).join | none => (ow2 a).bind fun i => if pinv (lentS bor rs) i = none then some i else none) = none
      rw [this, g]
      rfl
end
/-! ### operations by values -/
section
variable {P : Program} {w : World} {K : PySem.W.Frag}
open Classical in
noncomputable def fI (c : Int → Int → Prop) (g : Int → Int → DT) : DT → DT → Option DT
  | .int i, .int j => if c i j then some (g i j) else none
  | _, _ => none
def fI0 (g : Int → Int → DT) : DT → DT → Option DT
  | .int i, .int j => some (g i j)
  | _, _ => none
theorem opl_I0 {g : Int → Int → V} {d : Int → Int → DT} (h : ∀ i j, flat (g i j) = true ∧ vD (g i j) = d i j) : OpL P w K (rI0 g) (fI0 d) := by
  intro F H x y dx dy dz le hx hy e Q k
  cases hx <;> cases hy <;> first | cases e | skip
  exact ⟨_, _, rfl, rfl, k _ F H .refl (by rw [← (h _ _).2]; exact dat_flat (h _ _).1)⟩
open Classical in
theorem opl_I {c : Int → Int → Prop} {g : Int → Int → V} {d : Int → Int → DT} (h : ∀ i j, flat (g i j) = true ∧ vD (g i j) = d i j) : OpL P w K (rI c g) (fI c d) := by
  intro F H x y dx dy dz le hx hy e Q k
  cases hx <;> cases hy <;> first | cases e | skip
  next i j =>
  have e : (if c i j then some (d i j) else none) = some dz := e
  split at e
  · next hc =>
    cases Option.some.inj e
    exact ⟨_, _, rfl, rfl, hc, k _ F H .refl (by rw [← (h _ _).2]; exact dat_flat (h _ _).1)⟩
  · cases e
theorem OpL.or {r r' : R2} {f f' : DT → DT → Option DT} (h : OpL P w K r f) (h' : OpL P w K r' f') : OpL P w K (fun x y H Q => r x y H Q ∨ r' x y H Q) (fun x y => (f x y).or (f' x y)) := by
  intro F H x y dx dy dz le hx hy e Q k
  rcases Option.or_eq_some_iff.mp e with e | ⟨_, e⟩
  · exact .inl (h F H x y dx dy dz le hx hy e Q k)
  · exact .inr (h' F H x y dx dy dz le hx hy e Q k)
theorem OpR.or {X : Cx} {f : Value → Value → Sem Value} {r r' : R2} (h : OpR X f r) (h' : OpR X f r') : OpR X f (fun x y H Q => r x y H Q ∨ r' x y H Q) := by
  intro pins s σ H x y v u Q I rx ry q
  rcases q with q | q
  · exact h pins s σ H x y v u Q I rx ry q
  · exact h' pins s σ H x y v u Q I rx ry q
theorem dats_nil {F : Hp} {vs : List V} (h : Dats P w K F vs []) : vs = [] := by
  cases h
  rfl
/-- t + u -/
def fCatT : DT → DT → Option DT
  | .tuple a, .tuple b => if a.length + b.length ≤ sizeLine then some (.tuple (a ++ b)) else none
  | _, _ => none
theorem opl_catT : OpL P w K (rCatF K) fCatT := by
  intro F H x y dx dy dz le hx hy e Q k
  cases hx with
  | @tup a vs ds ha hd =>
    cases hy with
    | @tup b us es hb he =>
      have e : (if ds.length + es.length ≤ sizeLine then some (PyData.tuple (ds ++ es)) else none) = some dz := e
      split at e
      · next hl =>
        cases Option.some.inj e
        refine ⟨a, b, vs, us, rfl, rfl, (ha.le le).sq, (hb.le le).sq, by rw [hd.len, he.len]; exact hl, fun h => ?_, fun _ h => ?_, fun _ _ p o n nd => ?_⟩
        · subst h
          cases hd
          exact k _ F H .refl (.tup hb he)
        · subst h
          cases he
          have k := k (.ref a) F H .refl
          rw [List.append_nil] at k
          exact k (.tup ha hd)
        · refine k _ _ _ (.new .refl n) (.tup ⟨o, upd_same, nd⟩ ((hd.append he).mono (Fle.new ?_)))
          cases q : F p with
          | none => rfl
          | some u =>
            rw [le _ _ q] at n
            cases n
      · cases e
    | _ => cases e
  | _ => cases hy <;> cases e
def fAddS : DT → DT → Option DT
  | .str a, .str b => if a.length + b.length ≤ sizeLine then some (.str (a ++ b)) else none
  | _, _ => none
theorem opl_addS : OpL P w K (fun x y H Q => ∃ i j, x = .str i ∧ y = .str j ∧ i.length + j.length ≤ sizeLine ∧ Q (.str (i ++ j)) H) fAddS := by
  intro F H x y dx dy dz le hx hy e Q k
  cases hx <;> cases hy <;> first | cases e | skip
  next i j =>
  have e : (if i.length + j.length ≤ sizeLine then some (PyData.str (i ++ j)) else none) = some dz := e
  split at e
  · next hl =>
    cases Option.some.inj e
    exact ⟨i, j, rfl, rfl, hl, k _ F H .refl (.str _)⟩
  · cases e
/-- a + b -/
def rPlus (K : PySem.W.Frag) : R2 := fun x y H Q => rI0 (fun i j => .int (i + j)) x y H Q ∨ (rCatF K x y H Q ∨ ∃ i j, x = .str i ∧ y = .str j ∧ i.length + j.length ≤ sizeLine ∧ Q (.str (i ++ j)) H)
theorem op_plus {X : Cx} : OpR X (binaryOp .Add) (rPlus X.K) := OpR.or op_add (OpR.or op_catF op_add_str)
def fPlus (x y : DT) : Option DT := (fI0 (fun i j => .int (i + j)) x y).or ((fCatT x y).or (fAddS x y))
theorem opl_plus : OpL P w K (rPlus K) fPlus := OpL.or (opl_I0 fun _ _ => ⟨rfl, rfl⟩) (OpL.or opl_catT opl_addS)
theorem opl_sub : OpL P w K (rI0 fun i j => .int (i - j)) (fI0 fun i j => .int (i - j)) := opl_I0 fun _ _ => ⟨rfl, rfl⟩
theorem opl_mul : OpL P w K (rI CMulW fun i j => .int (i * j)) (fI CMulW fun i j => .int (i * j)) := opl_I fun _ _ => ⟨rfl, rfl⟩
theorem opl_fdiv : OpL P w K (rI CDivW fun i j => .int (i / j)) (fI CDivW fun i j => .int (i / j)) := opl_I fun _ _ => ⟨rfl, rfl⟩
theorem opl_mod : OpL P w K (rI (fun _ j => 0 < j) fun i j => .int (i % j)) (fI (fun _ j => 0 < j) fun i j => .int (i % j)) := opl_I fun _ _ => ⟨rfl, rfl⟩
theorem opl_pow : OpL P w K (rI CPow fun i j => .int (i ^ j.toNat)) (fI CPow fun i j => .int (i ^ j.toNat)) := opl_I fun _ _ => ⟨rfl, rfl⟩
theorem opl_shl : OpL P w K (rI CPow fun i j => .int (i * 2 ^ j.toNat)) (fI CPow fun i j => .int (i * 2 ^ j.toNat)) := opl_I fun _ _ => ⟨rfl, rfl⟩
theorem opl_shr : OpL P w K (rI (fun _ j => 0 ≤ j) fun i j => .int (i / 2 ^ j.toNat)) (fI (fun _ j => 0 ≤ j) fun i j => .int (i / 2 ^ j.toNat)) := opl_I fun _ _ => ⟨rfl, rfl⟩
theorem opl_and : OpL P w K (rI0 fun i j => .int (Builtin.bitAnd i j)) (fI0 fun i j => .int (Builtin.bitAnd i j)) := opl_I0 fun _ _ => ⟨rfl, rfl⟩
theorem opl_lt : OpL P w K (rI0 fun i j => .bl (decide (i < j))) (fI0 fun i j => .bool (decide (i < j))) := opl_I0 fun _ _ => ⟨rfl, rfl⟩
theorem opl_le : OpL P w K (rI0 fun i j => .bl (decide (i ≤ j))) (fI0 fun i j => .bool (decide (i ≤ j))) := opl_I0 fun _ _ => ⟨rfl, rfl⟩
theorem opl_gt : OpL P w K (rI0 fun i j => .bl (decide (j < i))) (fI0 fun i j => .bool (decide (j < i))) := opl_I0 fun _ _ => ⟨rfl, rfl⟩
theorem opl_ge : OpL P w K (rI0 fun i j => .bl (decide (j ≤ i))) (fI0 fun i j => .bool (decide (j ≤ i))) := opl_I0 fun _ _ => ⟨rfl, rfl⟩
def isNone : DT → Bool
  | .none => true
  | _ => false
def fIsN : DT → DT → Option DT
  | x, .none => some (.bool (isNone x))
  | _, _ => none
def fNotN : DT → DT → Option DT
  | x, .none => some (.bool (!isNone x))
  | _, _ => none
theorem ob_none {F H : Hp} {x : V} {d : DT} (h : Ob P w K F H x d) : decide (x = .non) = isNone d := by
  cases h <;> rfl
theorem opl_isN : OpL P w K (fun x y H Q => y = .non ∧ Q (.bl (decide (x = .non))) H) fIsN := by
  intro F H x y dx dy dz le hx hy e Q k
  cases hy <;> first | cases e | skip
  refine ⟨rfl, ?_⟩
  rw [ob_none hx]
  exact k _ F H .refl (.bl _)
theorem opl_notN : OpL P w K (fun x y H Q => y = .non ∧ Q (.bl (!decide (x = .non))) H) fNotN := by
  intro F H x y dx dy dz le hx hy e Q k
  cases hy <;> first | cases e | skip
  refine ⟨rfl, ?_⟩
  rw [ob_none hx]
  exact k _ F H .refl (.bl _)
def fIsB (c : Bool) : DT → DT → Option DT
  | .bool a, .bool b => some (.bool (if c = true then decide (a = b) else !decide (a = b)))
  | _, _ => none
theorem opl_isB : OpL P w K rIsB (fIsB true) := by
  intro F H x y dx dy dz le hx hy e Q k
  cases hx <;> cases hy <;> first | cases e | skip
  exact ⟨_, _, rfl, rfl, k _ F H .refl (.bl _)⟩
theorem opl_notB : OpL P w K rNotB (fIsB false) := by
  intro F H x y dx dy dz le hx hy e Q k
  cases hx <;> cases hy <;> first | cases e | skip
  exact ⟨_, _, rfl, rfl, k _ F H .refl (.bl _)⟩
/-! == of any data without dicts -/
theorem sqL_le {F H : Hp} (h : Le F H) {a : Addr} {vs : List V} (e : SqL K F a vs) : SqL K H a vs := by
  rcases e with (e | ⟨ob, e⟩) | e
  · exact .inl (.inl (h _ _ e))
  · exact .inl (.inr ⟨ob, h _ _ e⟩)
  · exact .inr e
mutual
theorem Dat.dp {F H : Hp} (le : Le F H) : ∀ {v : V} {d : DT}, Dat P w K F v d → d.canLay0 = true → Dp K H v d
  | _, _, .non, _ => .non
  | _, _, .bl b, _ => .bl b
  | _, _, .int i, _ => .int i
  | _, _, .str z, _ => .str z
  | _, _, .scr e, h => by simp [scrD, PyData.canLay0] at h
  | _, _, .lst e t, h => .lst (SqL.of (le _ _ e)) (Dats.dp le t (by simpa [PyData.canLay0] using h))
  | _, _, .tup e t, h => .tup (e.le le).sq (Dats.dp le t (by simpa [PyData.canLay0] using h))
  | _, _, .pr e a b, h => by simp [PyData.canLay0] at h
  | _, _, .dK e f t g, h => by simp [PyData.canLay0] at h
  | _, _, .dX e n f g k s t q, h => by simp [PyData.canLay0] at h
theorem Dats.dp {F H : Hp} (le : Le F H) : ∀ {vs : List V} {ds : List DT}, Dats P w K F vs ds → PyData.canLayAll0 ds = true → DpAll K H vs ds
  | _, _, .nil, _ => .nil
  | _, _, .cons a b, h => by
    have h : (_ && _) = true := h
    rw [Bool.and_eq_true] at h
    exact .cons (Dat.dp le a h.1) (Dats.dp le b h.2)
end
theorem Ob.dp {F H : Hp} (le : Le F H) {v : V} {d : DT} (x : Ob P w K F H v d) (h : d.canLay0 = true) : Dp K H v d := by
  cases x with
  | non => exact .non
  | bl b => exact .bl b
  | int i => exact .int i
  | str z => exact .str z
  | scr e => simp [scrD, PyData.canLay0] at h
  | lst e t => exact .lst (SqL.of e) (Dats.dp le t (by simpa [PyData.canLay0] using h))
  | tup e t => exact .tup (e.le le).sq (Dats.dp le t (by simpa [PyData.canLay0] using h))
  | pr e a b => simp [PyData.canLay0] at h
  | dK e f t g => simp [PyData.canLay0] at h
  | dX e n f g k s t q => simp [PyData.canLay0] at h
theorem lay_of {d : DT} (h : SeqAt.shaped d = true) : d.canLay0 = true := (Bool.and_eq_true_iff.mp h).1
def fEq (x y : DT) : Option DT := if SeqAt.shaped x = true ∧ SeqAt.shaped y = true then some (.bool (PyData.eqv x y)) else none
def fNe (x y : DT) : Option DT := if SeqAt.shaped x = true ∧ SeqAt.shaped y = true then some (.bool (!PyData.eqv x y)) else none
theorem opl_eq : OpL P w K (rEqD K) fEq := by
  intro F H x y dx dy dz le hx hy e Q k
  unfold fEq at e
  split at e
  · next h =>
    cases Option.some.inj e
    exact ⟨dx, dy, hx.dp le (lay_of h.1), hy.dp le (lay_of h.2), h.1, h.2, k _ F H .refl (.bl _)⟩
  · cases e
theorem opl_ne : OpL P w K (rNeD K) fNe := by
  intro F H x y dx dy dz le hx hy e Q k
  unfold fNe at e
  split at e
  · next h =>
    cases Option.some.inj e
    exact ⟨dx, dy, hx.dp le (lay_of h.1), hy.dp le (lay_of h.2), h.1, h.2, k _ F H .refl (.bl _)⟩
  · cases e
theorem Ob.scrE {P : Program} {w : World} {K : PySem.W.Frag} {F H : Hp} {v : V} {ds : List DT} (x : Ob P w K F H v (.dict [(.none, .list ds)])) : ∃ (a : Addr) (ns : List Int), v = .ref a ∧ ds = ns.map PyData.int ∧ SqL K H a (ns.map V.int) := by
  generalize hd : PyData.dict [(PyData.none, PyData.list ds)] = d at x
  cases x with
  | @scr a ns e =>
    refine ⟨a, ns, rfl, ?_, e⟩
    have := PyData.dict.inj hd
    have := (Prod.mk.inj (List.cons.inj this).1).2
    exact PyData.list.inj this
  | @dK a l vs es kvs e f t g =>
    have h1 := PyData.dict.inj hd
    rw [g] at h1
    cases l with
    | nil => cases h1
    | cons p r =>
      cases es with
      | nil => cases h1
      | cons q r' =>
        have h2 := (Prod.mk.inj (List.cons.inj h1).1).1
        obtain ⟨k, v⟩ := p
        cases k <;> cases h2
  | @dX a o l ws vs ks es kvs e n f g k s t q =>
    have h1 := PyData.dict.inj hd
    rw [q] at h1
    cases (Prod.mk.inj (List.cons.inj h1).1).1
  | pr h a b => cases (Prod.mk.inj (List.cons.inj (PyData.dict.inj hd)).1).1
  | _ => cases hd
/-! subscripts -/
def fIx : DT → DT → Option DT
  | .dict [(.none, .list ds)], .int i => atI ds i
  | .list ds, .int i => atI ds i
  | .tuple ds, .int i => atI ds i
  | .str z, .int i => if z.length ≤ sizeLine then (atI z.cps.toList i).map fun c => .str ⟨#[c]⟩ else none
  | _, _ => none
theorem at_len {α β : Type} {xs : List α} {ys : List β} (h : xs.length = ys.length) {i : Int} {y : β} (e : atI ys i = some y) : ∃ j : Nat, ys[j]? = some y ∧ ∀ x, xs[j]? = some x → atI xs i = some x := by
  obtain ⟨j, h1, h2⟩ := Option.bind_eq_some_iff.mp e
  exact ⟨j, h2, fun x hx => Option.bind_eq_some_iff.mpr ⟨j, by rw [h]; exact h1, hx⟩⟩
theorem opl_ix : OpL P w K (rIx K) fIx := by
  intro F H x y dx dy dz le hx hy e Q k
  unfold fIx at e
  split at e
  · obtain ⟨a, ns, rfl, rfl, ha⟩ := hx.scrE
    cases hy
    obtain ⟨j, h1, h2⟩ := at_len (xs := ns.map V.int) (by rw [List.length_map, List.length_map]) e
    rw [List.getElem?_map] at h1
    obtain ⟨n, h3, rfl⟩ := Option.map_eq_some_iff.mp h1
    exact .inl ⟨a, _, _, .int n, rfl, rfl, ha, h2 _ (by rw [List.getElem?_map, h3]; rfl), k _ F H .refl (.int n)⟩
  · next ds i =>
    cases hy
    obtain ⟨a, vs, rfl, ha, hd⟩ := hx.listE
    obtain ⟨j, h1, h2⟩ := at_len hd.len e
    obtain ⟨v, h3, h4⟩ := hd.get' h1
    exact .inl ⟨a, vs, i, v, rfl, rfl, ha, h2 v h3, k v F H .refl h4⟩
  · next ds i =>
    cases hy
    obtain ⟨a, vs, rfl, _, ha, hd⟩ := hx.tupE le
    obtain ⟨j, h1, h2⟩ := at_len hd.len e
    obtain ⟨v, h3, h4⟩ := hd.get' h1
    exact .inr (.inl ⟨a, vs, i, v, rfl, rfl, ha, h2 v h3, k v F H .refl h4⟩)
  · next z i =>
    cases hx
    cases hy
    split at e
    · next hl =>
      obtain ⟨c, h1, h2⟩ := Option.map_eq_some_iff.mp e
      subst h2
      exact .inr (.inr ⟨z, i, c, rfl, rfl, hl, h1, k _ F H .refl (.str _)⟩)
    · cases e
  · cases e
/-! builtins -/
def fLen : List DT → Option DT
  | [.dict [(.none, .list ds)]] => some (.int ds.length)
  | [.list ds] => some (.int ds.length)
  | [.tuple ds] => some (.int ds.length)
  | [.str z] => if z.length ≤ sizeLine then some (.int z.length) else none
  | _ => none
theorem one_ob {F H : Hp} {vs : List V} {d : DT} (h : Paired (Ob P w K F H) vs [d]) : ∃ v, vs = [v] ∧ Ob P w K F H v d := by
  cases h with
  | cons a b =>
    cases b
    exact ⟨_, rfl, a⟩
theorem two_ob {F H : Hp} {vs : List V} {d e : DT} (h : Paired (Ob P w K F H) vs [d, e]) : ∃ v u, vs = [v, u] ∧ Ob P w K F H v d ∧ Ob P w K F H u e := by
  cases h with
  | cons a b =>
    obtain ⟨u, rfl, c⟩ := one_ob b
    exact ⟨_, _, rfl, a, c⟩
theorem cbl_len : CbL P w K (fun xs H Q => ∃ x n, xs = [x] ∧ LenV K x H n ∧ Q (.int n) H) fLen := by
  intro F H vs ds dz le hv e Q k
  unfold fLen at e
  split at e
  · cases Option.some.inj e
    obtain ⟨v, rfl, hx⟩ := one_ob hv
    obtain ⟨a, ns, rfl, rfl, ha⟩ := hx.scrE
    exact ⟨_, _, rfl, .inl ⟨_, ha, rfl⟩, k _ F H .refl (by rw [List.length_map, List.length_map]; exact .int _)⟩
  · cases Option.some.inj e
    obtain ⟨v, rfl, hx⟩ := one_ob hv
    obtain ⟨a, us, rfl, ha, hd⟩ := hx.listE
    exact ⟨_, _, rfl, .inl ⟨us, ha, rfl⟩, k _ F H .refl (by rw [hd.len]; exact .int _)⟩
  · cases Option.some.inj e
    obtain ⟨v, rfl, hx⟩ := one_ob hv
    obtain ⟨a, us, rfl, _, ha, hd⟩ := hx.tupE le
    exact ⟨_, _, rfl, .inr ⟨us, ha, rfl⟩, k _ F H .refl (by rw [hd.len]; exact .int _)⟩
  · split at e
    · next hl =>
      cases Option.some.inj e
      obtain ⟨v, rfl, hx⟩ := one_ob hv
      cases hx
      exact ⟨_, _, rfl, ⟨hl, rfl⟩, k _ F H .refl (.int _)⟩
    · cases e
  · cases e
def intsD : List DT → Option (List Int)
  | [] => some []
  | .int i :: r => (intsD r).map fun ns => i :: ns
  | _ :: _ => none
theorem intsD_eq : ∀ {ds : List DT} {ns : List Int}, intsD ds = some ns → ds = ns.map PyData.int
  | [], _, e => by
    cases Option.some.inj e
    rfl
  | .int i :: r, ns, e => by
    obtain ⟨ms, h1, h2⟩ := Option.map_eq_some_iff.mp e
    subst h2
    rw [intsD_eq h1]
    rfl
  | .none :: _, _, e => by cases e
  | .bool _ :: _, _, e => by cases e
  | .str _ :: _, _, e => by cases e
  | .list _ :: _, _, e => by cases e
  | .tuple _ :: _, _, e => by cases e
  | .dict _ :: _, _, e => by cases e
theorem intsD_of : ∀ {ns : List Int}, intsD (ns.map PyData.int) = some ns
  | [] => rfl
  | n :: r => by
    show (intsD (r.map PyData.int)).map _ = _
    rw [intsD_of]
    rfl
def fSum : List DT → Option DT
  | [.list ds] => (intsD ds).map fun ns => .int ns.sum
  | _ => none
theorem cbl_sum : CbL P w K (rSum K) fSum := by
  intro F H vs ds dz le hv e Q k
  unfold fSum at e
  split at e
  · obtain ⟨ns, h1, h2⟩ := Option.map_eq_some_iff.mp e
    subst h2
    obtain ⟨v, rfl, hx⟩ := one_ob hv
    obtain ⟨a, us, rfl, ha, hd⟩ := hx.listE
    rw [intsD_eq h1] at hd
    rw [hd.ints] at ha
    exact ⟨a, ns, rfl, ha, k _ F H .refl (.int _)⟩
  · cases e
/-- tuple(xs) -/
def fTup : List DT → Option DT
  | [.list ds] => some (.tuple ds)
  | [.tuple ds] => some (.tuple ds)
  | _ => none
theorem le_no {F H : Hp} (le : Le F H) {p : Addr} (n : H p = none) : F p = none := by
  cases q : F p with
  | none => rfl
  | some u =>
    rw [le _ _ q] at n
    cases n
theorem cbl_tup : CbL P w K (rTupF K) fTup := by
  intro F H vs ds dz le hv e Q k
  unfold fTup at e
  split at e
  · cases Option.some.inj e
    obtain ⟨v, rfl, hx⟩ := one_ob hv
    obtain ⟨a, us, rfl, ha, hd⟩ := hx.listE
    exact ⟨a, us, rfl, .inl ⟨ha, fun l o n nd => k _ _ _ (.new .refl n) (.tup ⟨o, upd_same, nd⟩ (hd.mono (Fle.new (le_no le n))))⟩⟩
  · cases Option.some.inj e
    obtain ⟨v, rfl, hx⟩ := one_ob hv
    obtain ⟨a, us, rfl, hf, ha, hd⟩ := hx.tupE le
    exact ⟨a, us, rfl, .inr ⟨ha, k _ F H .refl (.tup hf hd)⟩⟩
  · cases e
/-- list(xs) -/
def fList : List DT → Option DT
  | [.list ds] => some (.list ds)
  | [.tuple ds] => some (.list ds)
  | _ => none
theorem cbo_list : CbO P w K (fun xs H Q => ∃ p ys, xs = [.ref p] ∧ (SqL K H p ys ∨ SqT K H p ys) ∧ ∀ l, H l = none → Q (.ref l) (upd H l (.lst ys))) fList := by
  intro F H vs ds dz le hv e Q k
  unfold fList at e
  split at e
  · cases Option.some.inj e
    obtain ⟨v, rfl, hx⟩ := one_ob hv
    obtain ⟨a, us, rfl, ha, hd⟩ := hx.listE
    exact ⟨a, us, rfl, .inl ha, fun l n => k l _ n (.lst upd_same hd)⟩
  · cases Option.some.inj e
    obtain ⟨v, rfl, hx⟩ := one_ob hv
    obtain ⟨a, us, rfl, hf, ha, hd⟩ := hx.tupE le
    exact ⟨a, us, rfl, .inr ha, fun l n => k l _ n (.lst upd_same hd)⟩
  · cases e
/-- xs + ys, xs * n of lists -/
def fCatL : DT → DT → Option DT
  | .list a, .list b => if a.length + b.length ≤ sizeLine then some (.list (a ++ b)) else none
  | _, _ => none
theorem opo_cat : OpO P w K rCat fCatL := by
  intro F H x y dx dy dz le hx hy e Q k
  cases hx with
  | @lst a vs ds ha hd =>
    cases hy with
    | @lst b us es hb he =>
      have e : (if ds.length + es.length ≤ sizeLine then some (PyData.list (ds ++ es)) else none) = some dz := e
      split at e
      · next hl =>
        cases Option.some.inj e
        exact ⟨a, b, vs, us, rfl, rfl, ha, hb, by rw [hd.len, he.len]; exact hl, fun p n => k p _ n (.lst upd_same (hd.append he))⟩
      · cases e
    | _ => cases e
  | _ => cases hy <;> cases e
def fRepL : DT → DT → Option DT
  | .list a, .int n => if 0 ≤ n ∧ n < 2 ^ 62 ∧ a.length * n.toNat ≤ sizeLine then some (.list (List.replicate n.toNat a).flatten) else none
  | _, _ => none
theorem Dats.rep {F : Hp} {vs : List V} {ds : List DT} (h : Dats P w K F vs ds) : ∀ n : Nat, Dats P w K F (List.replicate n vs).flatten (List.replicate n ds).flatten
  | 0 => .nil
  | n + 1 => by
    rw [List.replicate_succ, List.replicate_succ, List.flatten_cons, List.flatten_cons]
    exact h.append (h.rep n)
theorem opo_rep : OpO P w K rRep fRepL := by
  intro F H x y dx dy dz le hx hy e Q k
  cases hx with
  | @lst a vs ds ha hd =>
    cases hy <;> first | cases e | skip
    next n =>
    have e : (if 0 ≤ n ∧ n < 2 ^ 62 ∧ ds.length * n.toNat ≤ sizeLine then some (PyData.list (List.replicate n.toNat ds).flatten) else none) = some dz := e
    split at e
    · next hl =>
      cases Option.some.inj e
      exact ⟨a, n, vs, rfl, rfl, ha, by omega, by omega, by rw [hd.len]; exact hl.2.2, fun p np => k p _ np (.lst upd_same (hd.rep _))⟩
    · cases e
  | _ => cases hy <;> cases e
/-! ### what is walked -/
def iSeq (e : EF) : IF := fun δ => (e δ).bind fun p => (frzV p.2 p.1).bind fun q => match q.1 with
  | .list ds => some (ds, q.2)
  | .tuple ds => some (ds, q.2)
  | _ => none
theorem vw_list {F : Hp} {a : Addr} {vs : List V} {ds : List DT} (ha : F a = some (.lst vs)) (hd : Dats P w K F vs ds) : VW P w K F (Itl K a) ds := by
  have hs : ∀ H F', Fle F F' → Le F' H → SqL K H a vs := fun H F' l le => SqL.of (le _ _ (l.at ha fun l q => by cases q))
  refine ⟨fun i H F' l le h => ?_, fun H F' l le => ⟨vs, hs H F' l le, by rw [hd.len]; exact Nat.le_refl _⟩, fun i H x H' F' l le h y => ?_⟩
  · exact (walk_list (K := K) (a := a) (xs := vs)).goes i H (by rw [hd.len]; exact h) (hs H F' l le)
  · obtain ⟨e1, e2⟩ := (walk_list (K := K) (a := a) (xs := vs)).yields i H x H' (by rw [hd.len]; exact h) (hs H F' l le) y
    subst e1
    obtain ⟨d, h1, h2⟩ := hd.get e2
    exact ⟨F', d, .refl, h1, h2.mono l⟩
theorem vw_tup {F : Hp} {a : Addr} {vs : List V} {ds : List DT} (ha : TupF F a vs) (hd : Dats P w K F vs ds) : VW P w K F (Itt K a) ds := by
  have hs : ∀ H F', Fle F F' → Le F' H → SqT K H a vs := fun H F' l le => ((ha.mono l).le le).sq
  refine ⟨fun i H F' l le h => ?_, fun H F' l le => ⟨vs, hs H F' l le, by rw [hd.len]; exact Nat.le_refl _⟩, fun i H x H' F' l le h y => ?_⟩
  · exact (walk_tup (K := K) (a := a) (xs := vs)).goes i H (by rw [hd.len]; exact h) (hs H F' l le)
  · obtain ⟨e1, e2⟩ := (walk_tup (K := K) (a := a) (xs := vs)).yields i H x H' (by rw [hd.len]; exact h) (hs H F' l le) y
    subst e1
    obtain ⟨d, h1, h2⟩ := hd.get e2
    exact ⟨F', d, .refl, h1, h2.mono l⟩
/-- over a list or a tuple, told by the kind that is known -/
def iL (e : EF) : IF := fun δ => (e δ).bind fun p => (frzV p.2 p.1).bind fun q => match q.1 with
  | .list ds => some (ds, q.2)
  | _ => none
def iT (e : EF) : IF := fun δ => (e δ).bind fun p => (frzV p.2 p.1).bind fun q => match q.1 with
  | .tuple ds => some (ds, q.2)
  | _ => none
theorem li_list {t : TE} {e : EF} (h : LE P w K t e) : LI P w K (iList K t) (iL e) := by
  intro C F ow δ σ H r ds δ' eq Q k
  obtain ⟨⟨x1, δ1⟩, e1, eq⟩ := Option.bind_eq_some_iff.mp eq
  obtain ⟨⟨d, δ2⟩, e2, eq⟩ := Option.bind_eq_some_iff.mp eq
  refine h C F ow δ σ H r _ _ e1 _ fun v F1 ow1 H1 r1 l1 h1 => ?_
  obtain ⟨F2, ow2, l2, r2, d2⟩ := r1.freezeN h1 e2
  cases d with
  | list es =>
    cases Option.some.inj eq
    cases d2 with
    | @lst a vs _ ha hd => exact ⟨a, rfl, ⟨vs, SqL.of (r2.le _ _ ha)⟩, k _ F2 ow2 H1 r2 (l1.trans l2) (vw_list ha hd)⟩
  | _ => cases eq
theorem li_tup {t : TE} {e : EF} (h : LE P w K t e) : LI P w K (iTup K t) (iT e) := by
  intro C F ow δ σ H r ds δ' eq Q k
  obtain ⟨⟨x1, δ1⟩, e1, eq⟩ := Option.bind_eq_some_iff.mp eq
  obtain ⟨⟨d, δ2⟩, e2, eq⟩ := Option.bind_eq_some_iff.mp eq
  refine h C F ow δ σ H r _ _ e1 _ fun v F1 ow1 H1 r1 l1 h1 => ?_
  obtain ⟨F2, ow2, l2, r2, d2⟩ := r1.freezeN h1 e2
  cases d with
  | tuple es =>
    cases Option.some.inj eq
    cases d2 with
    | @tup a vs _ ha hd => exact ⟨a, rfl, ⟨vs, (ha.le r2.le).sq⟩, k _ F2 ow2 H1 r2 (l1.trans l2) (vw_tup ha hd)⟩
  | _ => cases eq
def intsFrom (lo : Int) (n : Nat) : List DT := (List.range n).map fun (i : Nat) => PyData.int (lo + i)
theorem vw_range {F : Hp} {lo : Int} {n : Nat} : VW P w K F (Itr lo n) (intsFrom lo n) := by
  have hl : (intsFrom lo n).length = n := by
    unfold intsFrom
    rw [List.length_map, List.length_range]
  refine ⟨fun i H F' l le h => by rw [hl] at h; exact h, fun H F' l le => by rw [hl]; exact Nat.le_refl n, fun i H x H' F' l le h y => ?_⟩
  rw [hl] at h
  obtain ⟨e1, e2⟩ := (show H' = H ∧ x = .int (lo + i) from y)
  subst e1
  subst e2
  refine ⟨F', .int (lo + i), .refl, ?_, .int _⟩
  unfold intsFrom
  rw [List.getElem?_map, List.getElem?_range h]
  rfl
def rgOk (i : Int) : Bool := decide (-(2 ^ 62) ≤ i) && decide (i < 2 ^ 62)
theorem rgOk_at {i : Int} (h : rgOk i = true) : -(2 ^ 62) ≤ i ∧ i < 2 ^ 62 := by
  have h : (_ && _) = true := h
  rw [Bool.and_eq_true] at h
  exact ⟨of_decide_eq_true h.1, of_decide_eq_true h.2⟩
theorem one_int {F H : Hp} {vs : List V} {j : Int} (h : Paired (Ob P w K F H) vs [.int j]) : vs = [.int j] := by
  cases h with
  | cons a b =>
    cases a
    cases b
    rfl
theorem two_int {F H : Hp} {vs : List V} {i j : Int} (h : Paired (Ob P w K F H) vs [.int i, .int j]) : vs = [.int i, .int j] := by
  cases h with
  | cons a b =>
    cases a
    rw [one_int b]
def r1F : List DT → Option (List DT)
  | [.int j] => if rgOk j = true then some (intsFrom 0 j.toNat) else none
  | _ => none
def r2F : List DT → Option (List DT)
  | [.int i, .int j] => if rgOk i = true ∧ rgOk j = true then some (intsFrom i (j - i).toNat) else none
  | _ => none
theorem r1F_at {xs ds : List DT} (h : r1F xs = some ds) : ∃ j, xs = [.int j] ∧ rgOk j = true ∧ ds = intsFrom 0 j.toNat := by
  unfold r1F at h
  split at h
  · split at h
    · next j hj => exact ⟨j, rfl, hj, (Option.some.inj h).symm⟩
    · cases h
  · cases h
theorem r2F_at {xs ds : List DT} (h : r2F xs = some ds) : ∃ i j, xs = [.int i, .int j] ∧ (rgOk i = true ∧ rgOk j = true) ∧ ds = intsFrom i (j - i).toNat := by
  unfold r2F at h
  split at h
  · split at h
    · next i j hj => exact ⟨i, j, rfl, hj, (Option.some.inj h).symm⟩
    · cases h
  · cases h
def iR1 (es : AF) : IF := fun δ => (es δ).bind fun p => (vals p.2 p.1).bind fun xs => (r1F xs).map fun ds => (ds, p.2)
def iR2 (es : AF) : IF := fun δ => (es δ).bind fun p => (vals p.2 p.1).bind fun xs => (r2F xs).map fun ds => (ds, p.2)
theorem li_range1 {t : TA} {e : AF} (h : LA P w K t e) : LI P w K (iRng1 t) (iR1 e) := by
  intro C F ow δ σ H r ds δ' eq Q k
  obtain ⟨⟨x1, δ1⟩, e1, eq⟩ := Option.bind_eq_some_iff.mp eq
  obtain ⟨xs, e2, eq⟩ := Option.bind_eq_some_iff.mp eq
  obtain ⟨ds', e3, eq⟩ := Option.map_eq_some_iff.mp eq
  cases eq
  obtain ⟨j, rfl, hj, rfl⟩ := r1F_at e3
  refine h C F ow δ σ H r _ _ e1 _ fun vs F1 ow1 H1 r1 l1 h1 => ?_
  have ob := r1.obs h1 e2
  exact ⟨j, one_int ob, (rgOk_at hj).1, (rgOk_at hj).2, k _ F1 ow1 H1 r1 l1 vw_range⟩
theorem li_range2 {t : TA} {e : AF} (h : LA P w K t e) : LI P w K (iRng2 t) (iR2 e) := by
  intro C F ow δ σ H r ds δ' eq Q k
  obtain ⟨⟨x1, δ1⟩, e1, eq⟩ := Option.bind_eq_some_iff.mp eq
  obtain ⟨xs, e2, eq⟩ := Option.bind_eq_some_iff.mp eq
  obtain ⟨ds', e3, eq⟩ := Option.map_eq_some_iff.mp eq
  cases eq
  obtain ⟨i, j, rfl, hj, rfl⟩ := r2F_at e3
  refine h C F ow δ σ H r _ _ e1 _ fun vs F1 ow1 H1 r1 l1 h1 => ?_
  have ob := r1.obs h1 e2
  exact ⟨i, j, two_int ob, ⟨(rgOk_at hj.1).1, (rgOk_at hj.1).2, (rgOk_at hj.2).1, (rgOk_at hj.2).2⟩, k _ F1 ow1 H1 r1 l1 vw_range⟩
end
/-! ### values held while others are found -/
inductive Hv where
  | r (x : Rv)
  | f (d : DT)
section
variable {P : Program} {w : World} {K : PySem.W.Frag}
def HvAt (P : Program) (w : World) (K : PySem.W.Frag) (C : Cn) (F : Hp) (ow : Addr → Option Nat) (H : Hp) (σ : L2.St) (v : V) : Hv → Prop
  | .r x => RvAt P w K F σ v x
  | .f d => ∃ a, v = .ref a ∧ F a = none ∧ ow a = none ∧ C.H0 a = none ∧ (∃ o, H a = some o) ∧ Own P w K F H a d
theorem HvAt.mono {C : Cn} {F H F' H' : Hp} {ow ow' : Addr → Option Nat} {σ : L2.St} {v : V} {h : Hv} (x : HvAt P w K C F ow H σ v h) (l : Nx C F ow H F' ow' H') : HvAt P w K C F' ow' H' σ v h := by
  cases h with
  | r y => exact RvAt.mono x l.le
  | f d =>
    obtain ⟨a, e, n1, n2, n3, ⟨o, ho⟩, own⟩ := x
    obtain ⟨h1, h2, h3⟩ := l.fr a o ho n1 n2 n3
    exact ⟨a, e, h2, h3, n3, ⟨o, h1⟩, own.keep l.le (h1.trans ho.symm)⟩
def isF : Hv → Bool
  | .f _ => true
  | _ => false
abbrev XF := DS → Option (Hv × DS)
def xE (e : EF) : XF := fun δ => (e δ).map fun p => (.r p.1, p.2)
def xO (o : OF) : XF := fun δ => (o δ).map fun p => (.f p.1, p.2)
def LX (P : Program) (w : World) (K : PySem.W.Frag) (t : TE) (e : XF) : Prop := ∀ (C : Cn) (F : Hp) (ow : Addr → Option Nat) (δ : DS) (σ : L2.St) (H : Hp), R P w K C F ow δ σ H → ∀ (h : Hv) (δ' : DS), e δ = some (h, δ') → ∀ Q : VK,
  (∀ (v : V) (F' : Hp) (ow' : Addr → Option Nat) (H' : Hp), R P w K C F' ow' δ' σ H' → Nx C F ow H F' ow' H' → HvAt P w K C F' ow' H' σ v h → (isF h = true → ∀ a, v = .ref a → H a = none) → Q v H') → t σ H Q
theorem lx_e {t : TE} {e : EF} (h : LE P w K t e) : LX P w K t (xE e) := by
  intro C F ow δ σ H r x δ' eq Q k
  obtain ⟨⟨y, δ1⟩, e1, eq⟩ := Option.map_eq_some_iff.mp eq
  cases eq
  exact h C F ow δ σ H r _ _ e1 _ fun v F1 ow1 H1 r1 l1 h1 => k v F1 ow1 H1 r1 l1 h1 fun z => by cases z
theorem lx_o {t : TE} {o : OF} (h : LO P w K t o) : LX P w K t (xO o) := by
  intro C F ow δ σ H r x δ' eq Q k
  obtain ⟨⟨y, δ1⟩, e1, eq⟩ := Option.map_eq_some_iff.mp eq
  cases eq
  exact h C F ow δ σ H r _ _ e1 _ fun a F1 ow1 H1 r1 l1 n0 n1 n2 n3 ho hd => k _ F1 ow1 H1 r1 l1 ⟨a, rfl, n1, n2, n3, ho, hd⟩ fun _ b e => by cases e; exact n0
inductive HvsAt (P : Program) (w : World) (K : PySem.W.Frag) (C : Cn) (F : Hp) (ow : Addr → Option Nat) (H : Hp) (σ : L2.St) : List V → List Hv → Prop
  | nil : HvsAt P w K C F ow H σ [] []
  | cons {v : V} {vs : List V} {h : Hv} {hs : List Hv} : HvAt P w K C F ow H σ v h → (∀ u k, (u, k) ∈ List.zip vs hs → isF h = true → isF k = true → v ≠ u) → HvsAt P w K C F ow H σ vs hs → HvsAt P w K C F ow H σ (v :: vs) (h :: hs)
abbrev YF := DS → Option (List Hv × DS)
def yNil : YF := fun δ => some ([], δ)
def yCons (e : XF) (es : YF) : YF := fun δ => (e δ).bind fun p => (es p.2).map fun q => (p.1 :: q.1, q.2)
def LY (P : Program) (w : World) (K : PySem.W.Frag) (t : TA) (e : YF) : Prop := ∀ (C : Cn) (F : Hp) (ow : Addr → Option Nat) (δ : DS) (σ : L2.St) (H : Hp), R P w K C F ow δ σ H → ∀ (hs : List Hv) (δ' : DS), e δ = some (hs, δ') → ∀ Q : List V → Hp → Prop,
  (∀ (vs : List V) (F' : Hp) (ow' : Addr → Option Nat) (H' : Hp), R P w K C F' ow' δ' σ H' → Nx C F ow H F' ow' H' → HvsAt P w K C F' ow' H' σ vs hs → (∀ u k, (u, k) ∈ List.zip vs hs → isF k = true → ∀ b, u = .ref b → H b = none) → Q vs H') → t σ H Q
theorem ly_nil : LY P w K tNil yNil := by
  intro C F ow δ σ H r x δ' eq Q k
  cases Option.some.inj eq
  exact k [] F ow H r Nx.refl .nil fun _ _ h => by cases h
theorem HvsAt.mono {C : Cn} {F H F' H' : Hp} {ow ow' : Addr → Option Nat} {σ : L2.St} (l : Nx C F ow H F' ow' H') : ∀ {vs : List V} {hs : List Hv}, HvsAt P w K C F ow H σ vs hs → HvsAt P w K C F' ow' H' σ vs hs
  | _, _, .nil => .nil
  | _, _, .cons a b c => .cons (a.mono l) b (c.mono l)
theorem ly_cons {t : TE} {e : XF} {ts : TA} {es : YF} (h : LX P w K t e) (hs : LY P w K ts es) : LY P w K (tCons t ts) (yCons e es) := by
  intro C F ow δ σ H r x δ' eq Q k
  obtain ⟨⟨x1, δ1⟩, e1, eq⟩ := Option.bind_eq_some_iff.mp eq
  obtain ⟨⟨x2, δ2⟩, e2, eq⟩ := Option.map_eq_some_iff.mp eq
  cases eq
  refine h C F ow δ σ H r _ _ e1 _ fun v F1 ow1 H1 r1 l1 h1 n1 => hs C F1 ow1 δ1 σ H1 r1 _ _ e2 _ fun vs F2 ow2 H2 r2 l2 h2 n2 => ?_
  refine k (v :: vs) F2 ow2 H2 r2 (l1.trans l2) (.cons (h1.mono l2) (fun u y m f1 f2 e => ?_) h2) (fun u y m f => ?_)
  · cases x1 with
    | r _ => cases f1
    | f d =>
      obtain ⟨a, rfl, _, _, _, ⟨o, ho⟩, _⟩ := h1
      have := n2 u y m f2 a e.symm
      rw [ho] at this
      cases this
  · rcases List.mem_cons.mp (show (u, y) ∈ (v, x1) :: List.zip vs x2 from m) with e | m
    · cases e
      exact n1 f
    · intro b e
      exact l1.no (n2 u y m f b e)
/-- slots set in a row -/
def setH (i : Nat) (h : Hv) (δ : DS) : Option DS := match h with
  | .r x => (frzV δ x).bind fun p => if free p.2 i = true then some (p.2.set i (.dat p.1)) else none
  | .f d => if free δ i = true then some (δ.set i (.own d)) else none
def setHs : List Nat → List Hv → DS → Option DS
  | i :: is, h :: hs, δ => (setH i h δ).bind fun δ1 => setHs is hs δ1
  | [], [], δ => some δ
  | _, _, _ => none
def setVs : List Nat → List V → L2.St → L2.St
  | i :: is, v :: vs, σ => setVs is vs (σ.set i (some v))
  | _, _, σ => σ
/-- the slots that are still to be read -/
def rdOk (is : List Nat) : List Hv → Bool
  | .r (.s j) :: hs => !is.contains j && rdOk is hs
  | _ :: hs => rdOk is hs
  | [] => true
theorem R.setOwn' {C : Cn} {F H : Hp} {ow : Addr → Option Nat} {δ : DS} {σ : L2.St} (r : R P w K C F ow δ σ H) {i : Nat} {a : Addr} {d : DT} (hi : i < δ.length) (nF : F a = none) (n0 : C.H0 a = none) (nw : ow a = none) (h : Own P w K F H a d) (ho : ∃ o, H a = some o) : ∃ ow', R P w K C F ow' (δ.set i (.own d)) (σ.set i (some (.ref a))) H ∧ ∀ b, b ≠ a → ow b = none → ow' b = none := by
  have r1 := r.drop i
  refine ⟨fun b => if b = a then some i else if ow b = some i then none else ow b, ⟨r1.grow, r1.new, r1.le, r1.keep, r1.dom, fun b j e => ?_, fun b j e => ?_, by rw [List.length_set, List.length_set]; exact r.len, fun j s e => ?_⟩, fun b n e => ?_⟩
  · try dsimp only at e
    split at e
    · next c =>
      rw [c]
      exact ⟨nF, ho⟩
    · exact r1.own b j e
  · try dsimp only at e
    split at e
    · next c =>
      rw [c]
      exact .inl n0
    · exact r1.ins b j e
  · by_cases c : i = j
    · subst c
      rw [List.getElem?_set_self hi] at e
      cases Option.some.inj e
      rw [List.getElem?_set_self (by rw [r.len]; exact hi)]
      exact .own (if_pos rfl) n0 h
    · have e' : (δ.set i .no)[j]? = some s := by
        rw [List.getElem?_set_ne c] at e ⊢
        exact e
      rw [List.getElem?_set_ne c]
      have z := r1.sl j s e'
      generalize σ[j]? = y at z
      have k : ∀ b, (if ow b = some i then none else ow b) = some j → (if b = a then some i else if ow b = some i then none else ow b) = some j := fun b e => by
        rw [if_neg]
        · exact e
        · intro z
          rw [z, nw] at e
          simp at e
      cases z with
      | no => exact .no
      | dat x => exact .dat x
      | own a b x => exact .own (k _ a) b x
      | bor a b c x => exact .bor (k _ a) b c x
  · show (if b = a then some i else if ow b = some i then none else ow b) = none
    rw [if_neg n, e]
    rfl
theorem set_hs : ∀ {is : List Nat} {hs : List Hv} {C : Cn} {F H : Hp} {ow : Addr → Option Nat} {δ δ' : DS} {σ : L2.St} {vs : List V}, R P w K C F ow δ σ H → HvsAt P w K C F ow H σ vs hs → rdOk is hs = true → setHs is hs δ = some δ' → ∃ F' ow', R P w K C F' ow' δ' (setVs is vs σ) H
  | [], [], _, F, _, ow, _, _, _, _, r, h, _, e => by
    cases Option.some.inj e
    cases h
    exact ⟨F, ow, r⟩
  | [], _ :: _, _, _, _, _, _, _, _, _, _, _, _, e => by cases e
  | _ :: _, [], _, _, _, _, _, _, _, _, _, _, _, e => by cases e
  | i :: is, x :: hs, C, F, H, ow, δ, δ', σ, _, r, .cons (v := v) (vs := vs) h1 h2 h3, hr, e => by
    -- what is held, behind the setting of slot i
    have held : ∀ {F1 : Hp} {ow1 : Addr → Option Nat} {v' : V}, Fle F F1 → (∀ (u : V) (y : Hv), (u, y) ∈ List.zip vs hs → isF y = true → ∀ b, u = .ref b → F b = none → ow b = none → F1 b = none ∧ ow1 b = none) → HvsAt P w K C F1 ow1 H (σ.set i (some v')) vs hs := by
      intro F1 ow1 v' l n
      have hr0 : rdOk (i :: is) hs = true := by
        cases x with
        | r y =>
          cases y with
          | d _ => exact hr
          | s j => exact (Bool.and_eq_true_iff.mp (show (_ && _) = true from hr)).2
        | f _ => exact hr
      clear e hr
      induction h3 with
      | nil => exact .nil
      | @cons v2 vs2 h hs2 a b c ih =>
        have hr2 : rdOk (i :: is) hs2 = true := by
          cases h with
          | r y =>
            cases y with
            | d _ => exact hr0
            | s j => exact (Bool.and_eq_true_iff.mp (show (_ && _) = true from hr0)).2
          | f _ => exact hr0
        refine .cons ?_ b (ih (fun u y m => h2 u y (List.mem_cons_of_mem _ m)) (fun u y m => n u y (List.mem_cons_of_mem _ m)) hr2)
        cases h with
        | r y =>
          cases y with
          | d z => exact Dat.mono l a
          | s j =>
            have hj := (Bool.and_eq_true_iff.mp (show (!(i :: is).contains j && rdOk (i :: is) hs2) = true from hr0)).1
            have ne : i ≠ j := fun e => by
              subst e
              simp at hj
            show (σ.set i (some v'))[j]? = _
            rw [List.getElem?_set_ne ne]
            exact a
        | f d =>
          obtain ⟨b', rfl, q1, q2, q3, q4, q5⟩ := a
          obtain ⟨p1, p2⟩ := n _ _ List.mem_cons_self rfl b' rfl q1 q2
          exact ⟨b', rfl, p1, p2, q3, q4, q5.keep l rfl⟩
    obtain ⟨δ1, e1, e⟩ := Option.bind_eq_some_iff.mp e
    have hr' : rdOk is hs = true := by
      have : ∀ {hs : List Hv}, rdOk (i :: is) hs = true → rdOk is hs = true := by
        intro hs
        induction hs with
        | nil => exact fun _ => rfl
        | cons h hs ih =>
          intro q
          cases h with
          | r y =>
            cases y with
            | d _ => exact ih q
            | s j =>
              obtain ⟨q1, q2⟩ := Bool.and_eq_true_iff.mp (show (!(i :: is).contains j && rdOk (i :: is) hs) = true from q)
              refine Bool.and_eq_true_iff.mpr ⟨?_, ih q2⟩
              simp only [List.contains_cons, Bool.not_or, Bool.and_eq_true] at q1
              exact q1.2
          | f _ => exact ih q
      refine this ?_
      cases x with
      | r y =>
        cases y with
        | d _ => exact hr
        | s j => exact (Bool.and_eq_true_iff.mp (show (_ && _) = true from hr)).2
      | f _ => exact hr
    cases x with
    | r y =>
      obtain ⟨⟨d, δ2⟩, e2, e1⟩ := Option.bind_eq_some_iff.mp e1
      dsimp only at e1
      split at e1
      · next c =>
        cases Option.some.inj e1
        obtain ⟨F1, ow1, l1, r1, d1⟩ := r.freezeN h1 e2
        obtain ⟨ow2, r2, z2⟩ := r1.setDat' (free_lt c) d1
        refine set_hs (is := is) (hs := hs) r2 (held l1.le fun u y m f b e n1 n2 => ?_) hr' e
        obtain ⟨F1', ow1', _, _, _, z⟩ := r.freeze h1 e2
        have hb : ∃ o, H b = some o ∧ C.H0 b = none := by
          have : ∀ {vs : List V} {hs : List Hv}, HvsAt P w K C F ow H σ vs hs → (u, y) ∈ List.zip vs hs → ∃ o, H b = some o ∧ C.H0 b = none := by
            intro vs hs h
            induction h with
            | nil => intro m; cases m
            | cons a _ _ ih =>
              intro m
              rcases List.mem_cons.mp m with q | q
              · cases q
                cases y with
                | r _ => cases f
                | f d =>
                  obtain ⟨b', e', _, _, q3, ⟨o, q4⟩, _⟩ := a
                  rw [e] at e'
                  cases e'
                  exact ⟨o, q4, q3⟩
              · exact ih q
          exact this h3 m
        obtain ⟨o, ho, h0⟩ := hb
        obtain ⟨_, p2, p3⟩ := l1.fr b o ho n1 n2 h0
        exact ⟨p2, z2 b p3⟩
      · cases e1
    | f d =>
      have e1 : (if free δ i = true then some (δ.set i (.own d)) else none) = some δ1 := e1
      split at e1
      · next c =>
        cases Option.some.inj e1
        obtain ⟨a, rfl, q1, q2, q3, q4, q5⟩ := h1
        obtain ⟨ow2, r2, z2⟩ := r.setOwn' (free_lt c) q1 q3 q2 q5 q4
        refine set_hs (is := is) (hs := hs) r2 (held (Fle.refl F) fun u y m f b e n1 n2 => ⟨n1, z2 b (fun z => ?_) n2⟩) hr' e
        exact h2 u y m rfl f (by rw [e, z])
      · cases e1
theorem setHs_len : ∀ {is : List Nat} {hs : List Hv} {δ δ' : DS}, setHs is hs δ = some δ' → hs.length = is.length
  | [], [], _, _, _ => rfl
  | [], _ :: _, _, _, e => by cases e
  | _ :: _, [], _, _, e => by cases e
  | i :: is, h :: hs, _, _, e => by
    obtain ⟨δ1, _, e⟩ := Option.bind_eq_some_iff.mp e
    exact congrArg (· + 1) (setHs_len e)
theorem HvsAt.len {C : Cn} {F H : Hp} {ow : Addr → Option Nat} {σ : L2.St} : ∀ {vs : List V} {hs : List Hv}, HvsAt P w K C F ow H σ vs hs → vs.length = hs.length
  | _, _, .nil => rfl
  | _, _, .cons _ _ c => congrArg (· + 1) c.len
theorem len2 {vs : List V} {i j : Nat} (h : vs.length = [i, j].length) : ∃ v u, vs = [v, u] := by
  cases vs with
  | nil => cases h
  | cons v r =>
    cases r with
    | nil => cases h
    | cons u r =>
      cases r with
      | nil => exact ⟨v, u, rfl⟩
      | cons _ _ => cases h
theorem len3 {vs : List V} {i j l : Nat} (h : vs.length = [i, j, l].length) : ∃ v u x, vs = [v, u, x] := by
  cases vs with
  | nil => cases h
  | cons v r =>
    obtain ⟨u, x, rfl⟩ := len2 (i := j) (j := l) (Nat.succ.inj h)
    exact ⟨v, u, x, rfl⟩
def sPar (is : List Nat) (es : YF) : SF := fun δ => (es δ).bind fun p => if rdOk is p.1 = true then (setHs is p.1 p.2).map Out.nx else none
theorem ls_par2 {i j : Nat} {t : TA} {es : YF} (h : LY P w K t es) : LS P w K (tPar i j t) (sPar [i, j] es) := by
  intro C F ow δ σ H r o e D k
  obtain ⟨⟨hs, δ1⟩, e1, e⟩ := Option.bind_eq_some_iff.mp e
  dsimp only at e
  split at e
  case isFalse => cases e
  next c =>
  obtain ⟨δ2, e2, e⟩ := Option.map_eq_some_iff.mp e
  cases e
  refine h C F ow δ σ H r _ _ e1 _ fun vs F1 ow1 H1 r1 l1 h1 _ => ?_
  obtain ⟨F2, ow2, r2⟩ := set_hs r1 h1 c e2
  obtain ⟨v, u, rfl⟩ := len2 (h1.len.trans (setHs_len e2))
  exact ⟨v, u, rfl, k F2 ow2 _ H1 r2⟩
theorem ls_par3 {i j l : Nat} {t : TA} {es : YF} (h : LY P w K t es) : LS P w K (tPar3 i j l t) (sPar [i, j, l] es) := by
  intro C F ow δ σ H r o e D k
  obtain ⟨⟨hs, δ1⟩, e1, e⟩ := Option.bind_eq_some_iff.mp e
  dsimp only at e
  split at e
  case isFalse => cases e
  next c =>
  obtain ⟨δ2, e2, e⟩ := Option.map_eq_some_iff.mp e
  cases e
  refine h C F ow δ σ H r _ _ e1 _ fun vs F1 ow1 H1 r1 l1 h1 _ => ?_
  obtain ⟨F2, ow2, r2⟩ := set_hs r1 h1 c e2
  obtain ⟨v, u, s, rfl⟩ := len3 (h1.len.trans (setHs_len e2))
  exact ⟨v, u, s, rfl, k F2 ow2 _ H1 r2⟩
/-- the same where a tuple is made and taken apart -/
def gNames : List Nat → TGs
  | [] => gNil
  | i :: is => gCons (gName i) (gNames is)
theorem gNames_at : ∀ {is : List Nat} {vs : List V} {σ : L2.St} {H : Hp} {Q : L2.St → Hp → Prop}, vs.length = is.length → Q (setVs is vs σ) H → gNames is vs σ H Q
  | [], [], _, _, _, _, q => ⟨rfl, q⟩
  | i :: is, v :: vs, σ, H, Q, h, q => ⟨v, vs, rfl, gNames_at (is := is) (Nat.succ.inj h) q⟩
  | [], _ :: _, _, _, _, h, _ => by cases h
  | _ :: _, [], _, _, _, h, _ => by cases h
theorem ls_parT {n : Nat} {is : List Nat} {t : TA} {es : YF} (h : LY P w K t es) (hn : is.length = n := by rfl) (hz : n ≤ 100 := by decide) : LS P w K (tAsg (tTup t) (gTup K n (gNames is))) (sPar is es) := by
  intro C F ow δ σ H r o e D k
  obtain ⟨⟨hs, δ1⟩, e1, e⟩ := Option.bind_eq_some_iff.mp e
  dsimp only at e
  split at e
  case isFalse => cases e
  next c =>
  obtain ⟨δ2, e2, e⟩ := Option.map_eq_some_iff.mp e
  cases e
  refine h C F ow δ σ H r _ _ e1 _ fun vs F1 ow1 H1 r1 l1 h1 _ => ?_
  have hl : vs.length = is.length := h1.len.trans (setHs_len e2)
  refine ⟨by rw [hl, hn]; exact Nat.le_trans hz (by decide), fun p np => ⟨p, vs, rfl, SqT.of upd_same, hl.trans hn, gNames_at hl ?_⟩⟩
  obtain ⟨r2, n1, n2, n3, l2⟩ := r1.freshN (.tup vs) np
  obtain ⟨F2, ow2, r3⟩ := set_hs r2 (h1.mono l2) c e2
  exact k F2 ow2 _ _ r3
end
/-! ### more rules -/
abbrev fLt := fI0 fun i j => PyData.bool (decide (i < j))
abbrev fLe := fI0 fun i j => PyData.bool (decide (i ≤ j))
abbrev fGt := fI0 fun i j => PyData.bool (decide (j < i))
abbrev fGe := fI0 fun i j => PyData.bool (decide (j ≤ i))
abbrev fSub := fI0 fun i j => PyData.int (i - j)
abbrev fAddI := fI0 fun i j => PyData.int (i + j)
noncomputable abbrev fMul := fI CMulW fun i j => PyData.int (i * j)
noncomputable abbrev fDiv := fI CDivW fun i j => PyData.int (i / j)
noncomputable abbrev fMod := fI (fun _ j => 0 < j) fun i j => PyData.int (i % j)
noncomputable abbrev fPow := fI CPow fun i j => PyData.int (i ^ j.toNat)
noncomputable abbrev fShl := fI CPow fun i j => PyData.int (i * 2 ^ j.toNat)
noncomputable abbrev fShr := fI (fun _ j => 0 ≤ j) fun i j => PyData.int (i / 2 ^ j.toNat)
abbrev fAnd := fI0 fun i j => PyData.int (Builtin.bitAnd i j)
def tYesF : TF := fun δ => some (true, δ)
def fNeg : DT → Option DT
  | .int i => some (.int (-i))
  | _ => none
section
variable {P : Program} {w : World} {K : PySem.W.Frag}
theorem lt_yes : LT P w K tYes tYesF := by
  intro C F ow δ σ H r b δ' e Q k
  cases Option.some.inj e
  exact k F ow H r Nx.refl
theorem unl_neg : UnL P w K (rU fun i => .int (-i)) fNeg := by
  intro F H x dx dz le hx e Q k
  cases hx <;> first | cases e | skip
  exact ⟨_, rfl, k _ F H .refl (.int _)⟩
theorem ipl_I {f : Int → Int → Int} : IpL P w K (ipI f) (fI0 fun i j => .int (f i j)) := by
  intro F H x y dx dy dz le hx hy e Q k
  cases hx <;> cases hy <;> first | cases e | skip
  exact ⟨_, _, rfl, rfl, k _ F H .refl (.int _)⟩
theorem ipl_add : IpL P w K (ipI fun i j => i + j) fAddI := ipl_I
theorem ipl_sub : IpL P w K (ipI fun i j => i - j) fSub := ipl_I
/-! truth -/
theorem trv_ob {F H : Hp} {v : V} {d : DT} (le : Le F H) (x : Ob P w K F H v d) {b : Bool} (e : truth d = some b) : (match d with | .dict _ => False | _ => True) → TruV K v H b := by
  intro nd
  cases x with
  | non => cases Option.some.inj e; rfl
  | bl c => cases Option.some.inj e; rfl
  | int i => cases Option.some.inj e; rfl
  | str z =>
    have e : (if z.length ≤ sizeLine then some (z.length != 0) else none) = some b := e
    split at e
    · next hl =>
      cases Option.some.inj e
      refine ⟨hl, ?_⟩
      cases z.length <;> rfl
    · cases e
  | scr _ => exact nd.elim
  | @lst a vs ds ha hd =>
    cases Option.some.inj e
    refine .inl ⟨vs, SqL.of ha, ?_⟩
    cases hd <;> rfl
  | pr _ _ _ => exact nd.elim
  | @tup a vs ds ha hd =>
    cases Option.some.inj e
    refine .inr (.inl ⟨vs, (ha.le le).sq, ?_⟩)
    cases hd <;> rfl
  | dK => exact nd.elim
  | dX => exact nd.elim
def truth' : DT → Option Bool
  | .dict _ => none
  | d => truth d
def tT' (e : EF) : TF := fun δ => (e δ).bind fun p => (val p.2 p.1).bind fun x => (truth' x).map fun b => (b, p.2)
theorem lt_truth {t : TE} {e : EF} (h : LE P w K t e) : LT P w K (fun σ H Q => t σ H fun x H' => ∃ k, TruV K x H' k ∧ Q k H') (tT' e) := by
  intro C F ow δ σ H r0 b δ' eq Q k
  obtain ⟨⟨x1, δ1⟩, e1, eq⟩ := Option.bind_eq_some_iff.mp eq
  obtain ⟨d, v1, eq⟩ := Option.bind_eq_some_iff.mp eq
  obtain ⟨c, e2, eq⟩ := Option.map_eq_some_iff.mp eq
  cases eq
  refine h C F ow δ σ H r0 _ _ e1 _ fun v F1 ow1 H1 r1 l1 h1 => ⟨_, ?_, k F1 ow1 H1 r1 l1⟩
  cases d with
  | dict _ => cases e2
  | _ => exact trv_ob r1.le (r1.ob h1 v1) e2 trivial
/-! methods that write -/
def cont (δ : DS) (i : Nat) : Option DT := match δ[i]? with
  | some (.own d) => some d
  | some (.bor d) => some d
  | _ => none
def isListD : DT → Bool
  | .list _ => true
  | _ => false
def isDictD : DT → Bool
  | .dict _ => true
  | _ => false
def eMt (kd : DT → Bool) (i : Nat) (f : DT → List DT → Option (DT × DT)) (es : AF) : EF := fun δ => (cont δ i).bind fun d0 => if kd d0 = true then (es δ).bind fun p => (frzs p.2 p.1).bind fun q => (cont q.2 i).bind fun d => (f d q.1).bind fun z => (setC q.2 i z.2).map fun δ' => (Rv.d z.1, δ')
  else none
def MtL (P : Program) (w : World) (K : PySem.W.Frag) (T : String) (r : V → List V → Hp → VK → Prop) (f : DT → List DT → Option (DT × DT)) : Prop :=
  (∀ (F H : Hp) (a : Addr) (vs : List V) (d : DT) (ds : List DT) (z : DT × DT), Le F H → Own P w K F H a d → Dats P w K F vs ds → f d ds = some z → ∀ Q : VK, (∀ v o, Own P w K F (upd H a o) a z.2 → Dat P w K F v z.1 → Q v (upd H a o)) → r (.ref a) vs H Q)
theorem cont_at {C : Cn} {F H : Hp} {ow : Addr → Option Nat} {δ : DS} {σ : L2.St} (r : R P w K C F ow δ σ H) {i : Nat} {d : DT} (e : cont δ i = some d) : ∃ a, σ[i]? = some (some (.ref a)) ∧ Own P w K F H a d := by
  unfold cont at e
  split at e
  · next q =>
    cases Option.some.inj e
    have z := r.sl i _ q
    generalize hy : σ[i]? = yy at z
    cases z with
    | own _ _ y => exact ⟨_, rfl, y⟩
  · next q =>
    cases Option.some.inj e
    have z := r.sl i _ q
    generalize hy : σ[i]? = yy at z
    cases z with
    | bor _ _ _ y => exact ⟨_, rfl, y⟩
  · cases e
theorem setC_own {C : Cn} {F H : Hp} {ow : Addr → Option Nat} {δ : DS} {σ : L2.St} (r : R P w K C F ow δ σ H) {i : Nat} {a : Addr} {d : DT} (e : cont δ i = some d) (hs : σ[i]? = some (some (.ref a))) : ow a = some i := by
  unfold cont at e
  split at e
  · next q =>
    have z := r.sl i _ q
    rw [hs] at z
    cases z with
    | own h _ _ => exact h
  · next q =>
    have z := r.sl i _ q
    rw [hs] at z
    cases z with
    | bor h _ _ _ => exact h
  · cases e
theorem le_mt {T : String} {r : V → List V → Hp → VK → Prop} {f : DT → List DT → Option (DT × DT)} {t : TA} {es : AF} {kd : DT → Bool} (h : MtL P w K T r f) (i : Nat) (ha : LA P w K t es) (hT : ∀ (F H : Hp) (a : Addr) (d : DT), kd d = true → Own P w K F H a d → tyV K T (.ref a) H) : LE P w K (tBM K T r (tVar i) t) (eMt kd i f es) := by
  intro C F ow δ σ H r0 x δ' e Q k
  obtain ⟨d0, e0, e⟩ := Option.bind_eq_some_iff.mp e
  try dsimp only at e
  split at e
  case isFalse => cases e
  next hkd =>
  obtain ⟨⟨rs, δ1⟩, e1, e⟩ := Option.bind_eq_some_iff.mp e
  obtain ⟨⟨ds, δ2⟩, e2, e⟩ := Option.bind_eq_some_iff.mp e
  obtain ⟨d, e3, e⟩ := Option.bind_eq_some_iff.mp e
  obtain ⟨z, e4, e⟩ := Option.bind_eq_some_iff.mp e
  obtain ⟨δ3, e5, e⟩ := Option.map_eq_some_iff.mp e
  cases e
  obtain ⟨a, hs, hown⟩ := cont_at r0 e0
  have after := fun (Q' : VK) (k' : ∀ v F' ow' H', R P w K C F' ow' δ' σ H' → Nx C F ow H F' ow' H' → RvAt P w K F' σ v (.d z.1) → Q' v H') => ha C F ow δ σ H r0 _ _ e1 (fun xs H2 => r (.ref a) xs H2 Q') fun vs F1 ow1 H1 r1 l1 h1 => by
    obtain ⟨F2, ow2, l2, r2, d2⟩ := r1.freezes h1 e2
    obtain ⟨a', hs', own'⟩ := cont_at r2 e3
    rw [hs] at hs'
    cases hs'
    refine h F2 H1 a vs d ds z r2.le own' d2 e4 _ fun v o ho hv => ?_
    have hw := setC_own r2 e3 hs
    exact k' v F2 ow2 _ (r2.write hs e5 ho) (l1.trans (l2.trans ⟨Fle.refl _, fun b u q f g _ => ⟨by rw [upd_ne (fun z => by rw [z, hw] at g; cases g)]; exact q, f, g⟩, fun b u q => by
      by_cases c : b = a
      · subst c
        exact ⟨o, upd_same⟩
      · exact ⟨u, (upd_ne c).trans q⟩⟩)) hv
  exact ⟨_, hs, hT F H a d0 hkd hown, after Q k⟩
theorem list_ty {F H : Hp} {a : Addr} {d : DT} (h : isListD d = true) (x : Own P w K F H a d) : tyV K "list" (.ref a) H := by
  cases x with
  | lst e _ => exact Or.inl ⟨rfl, _, SqL.of e⟩
  | dK => cases h
  | dX => cases h
def fAppend : DT → List DT → Option (DT × DT)
  | .list ds, [d] => if ds.length < sizeLine then some (.none, .list (ds ++ [d])) else none
  | _, _ => none
theorem mtl_append : MtL P w K "list" rAppend fAppend := by
  intro F H a vs d ds z le ho hd e Q k
  unfold fAppend at e
  split at e
  · split at e
    · next hl =>
      cases Option.some.inj e
      cases ho with
      | @lst us _ e1 e2 =>
        cases hd with
        | @cons v _ _ _ h1 h2 =>
          cases h2
          exact ⟨a, us, v, rfl, rfl, e1, by rw [e2.len]; exact hl, k _ _ (.lst upd_same (e2.snoc h1)) .non⟩
    · cases e
  · cases e
def fPopAt : DT → List DT → Option (DT × DT)
  | .list ds, [.int i] => if rgOk i = true then (seqIndex? i ds.length).bind fun j => (ds[j]?).map fun x => (x, .list (ds.eraseIdx j)) else none
  | _, _ => none
theorem Dats.erase {F : Hp} : ∀ {vs : List V} {ds : List DT} (n : Nat), Dats P w K F vs ds → Dats P w K F (vs.eraseIdx n) (ds.eraseIdx n)
  | _, _, 0, .nil => .nil
  | _, _, _ + 1, .nil => .nil
  | _, _, 0, .cons a b => b
  | _, _, n + 1, .cons a b => .cons a (b.erase n)
theorem mtl_popAt : MtL P w K "list" rPopAt fPopAt := by
  intro F H a vs d ds z le ho hd e Q k
  unfold fPopAt at e
  split at e
  · split at e
    · next hl =>
      obtain ⟨j, e1, e⟩ := Option.bind_eq_some_iff.mp e
      obtain ⟨x, e2, e⟩ := Option.map_eq_some_iff.mp e
      cases e
      cases ho with
      | @lst us _ g1 g2 =>
        cases hd with
        | @cons v _ _ _ h1 h2 =>
          cases h2
          cases h1
          obtain ⟨y, e3, e4⟩ := g2.get' e2
          exact ⟨a, us, _, j, y, rfl, rfl, g1, Int.le_trans (by decide) (rgOk_at hl).1, Int.lt_trans (rgOk_at hl).2 (by decide), by rw [g2.len]; exact e1, e3, k _ _ (.lst upd_same (g2.erase j)) e4⟩
    · cases e
  · cases e
def fExtend : DT → List DT → Option (DT × DT)
  | .list ds, [.list es] => if ds.length + es.length ≤ sizeLine then some (.none, .list (ds ++ es)) else none
  | _, _ => none
theorem Dat.lstE {F : Hp} {v : V} {ds : List DT} (x : Dat P w K F v (.list ds)) : ∃ a vs, v = .ref a ∧ F a = some (.lst vs) ∧ Dats P w K F vs ds := by
  cases x with
  | lst e t => exact ⟨_, _, rfl, e, t⟩
theorem mtl_extend : MtL P w K "list" rExtend fExtend := by
  intro F H a vs d ds z le ho hd e Q k
  unfold fExtend at e
  split at e
  · split at e
    · next hl =>
      cases Option.some.inj e
      cases ho with
      | @lst us _ g1 g2 =>
        cases hd with
        | @cons v _ _ _ h1 h2 =>
          cases h2
          obtain ⟨b, zs, rfl, h3, h4⟩ := h1.lstE
          exact ⟨a, b, us, zs, rfl, rfl, g1, le _ _ h3, by rw [g2.len, h4.len]; exact hl, k _ _ (.lst upd_same (g2.append h4)) .non⟩
    · cases e
  · cases e
/-- xs.pop() -/
def eMt0 (kd : DT → Bool) (i : Nat) (f : DT → List DT → Option (DT × DT)) : EF := fun δ => (cont δ i).bind fun d => if kd d = true then (f d []).bind fun z => (setC δ i z.2).map fun δ' => (Rv.d z.1, δ') else none
theorem le_mt0 {T : String} {r : V → List V → Hp → VK → Prop} {f : DT → List DT → Option (DT × DT)} {kd : DT → Bool} (h : MtL P w K T r f) (i : Nat) (hT : ∀ (F H : Hp) (a : Addr) (d : DT), kd d = true → Own P w K F H a d → tyV K T (.ref a) H) : LE P w K (tBM0 K T r (tVar i)) (eMt0 kd i f) := by
  intro C F ow δ σ H r0 x δ' e Q k
  obtain ⟨d0, e0, e⟩ := Option.bind_eq_some_iff.mp e
  try dsimp only at e
  split at e
  case isFalse => cases e
  next hkd =>
  obtain ⟨z, e4, e⟩ := Option.bind_eq_some_iff.mp e
  obtain ⟨δ3, e5, e⟩ := Option.map_eq_some_iff.mp e
  cases e
  obtain ⟨a, hs, hown⟩ := cont_at r0 e0
  refine ⟨_, hs, hT F H a d0 hkd hown, h F H a [] d0 [] z r0.le hown .nil e4 _ fun v o ho hv => ?_⟩
  have hw := setC_own r0 e0 hs
  exact k v F ow _ (r0.write hs e5 ho) ⟨Fle.refl _, fun b u q f g _ => ⟨by rw [upd_ne (fun z => by rw [z, hw] at g; cases g)]; exact q, f, g⟩, fun b u q => by
    by_cases c : b = a
    · subst c
      exact ⟨o, upd_same⟩
    · exact ⟨u, (upd_ne c).trans q⟩⟩ hv
def fPop : DT → List DT → Option (DT × DT)
  | .list ds, [] => (ds[ds.length - 1]?).map fun x => (x, .list ds.dropLast)
  | _, _ => none
theorem Dats.dropL {F : Hp} {vs : List V} {ds : List DT} (h : Dats P w K F vs ds) : Dats P w K F vs.dropLast ds.dropLast := by
  rw [List.dropLast_eq_take, List.dropLast_eq_take, h.len]
  exact h.take _
theorem mtl_pop : MtL P w K "list" rPop fPop := by
  intro F H a vs d ds z le ho hd e Q k
  unfold fPop at e
  split at e
  · obtain ⟨x, e2, e⟩ := Option.map_eq_some_iff.mp e
    cases e
    cases ho with
    | @lst us _ g1 g2 =>
      cases hd
      obtain ⟨y, e3, e4⟩ := g2.get' e2
      exact ⟨a, us, y, rfl, rfl, g1, by rw [g2.len]; exact e3, k _ _ (.lst upd_same g2.dropL) e4⟩
  · cases e
/-! xs[i] = e -/
def sSetL (i : Nat) (ei e : EF) : SF := fun δ => (e δ).bind fun p => (frzV p.2 p.1).bind fun q => (cont q.2 i).bind fun _ => (ei q.2).bind fun p2 => (val p2.2 p2.1).bind fun k => (cont p2.2 i).bind fun d => match d, k with
  | .list ds, .int n => (ixN ds.length n).bind fun j => (setC p2.2 i (.list (ds.set j q.1))).map Out.nx
  | _, _ => none
theorem Dats.set' {F : Hp} {v : V} {d : DT} (h : Dat P w K F v d) : ∀ {vs : List V} {ds : List DT} (n : Nat), Dats P w K F vs ds → Dats P w K F (vs.set n v) (ds.set n d)
  | _, _, _, .nil => .nil
  | _, _, 0, .cons a b => .cons h b
  | _, _, n + 1, .cons a b => .cons a (Dats.set' h n b)
theorem ls_setL {t ti : TE} {e ei : EF} (i : Nat) (hi : LE P w K ti ei) (he : LE P w K t e) : LS P w K (tAsg t (gSub (tVar i) ti rSetL)) (sSetL i ei e) := by
  intro C F ow δ σ H r o eq D k
  obtain ⟨⟨x1, δ1⟩, e1, eq⟩ := Option.bind_eq_some_iff.mp eq
  obtain ⟨⟨d1, δ2⟩, e2, eq⟩ := Option.bind_eq_some_iff.mp eq
  obtain ⟨c1, e3, eq⟩ := Option.bind_eq_some_iff.mp eq
  obtain ⟨⟨x2, δ3⟩, e4, eq⟩ := Option.bind_eq_some_iff.mp eq
  obtain ⟨kd, e5, eq⟩ := Option.bind_eq_some_iff.mp eq
  obtain ⟨d, e6, eq⟩ := Option.bind_eq_some_iff.mp eq
  refine he C F ow δ σ H r _ _ e1 _ fun v F1 ow1 H1 r1 _ h1 => ?_
  obtain ⟨F2, ow2, _, r2, d2⟩ := r1.freezeN h1 e2
  obtain ⟨a, hs, _⟩ := cont_at r2 e3
  refine ⟨_, hs, hi C F2 ow2 δ2 σ H1 r2 _ _ e4 _ fun u F3 ow3 H3 r3 l3 h3 => ?_⟩
  obtain ⟨a', hs', own⟩ := cont_at r3 e6
  rw [hs] at hs'
  cases hs'
  have hk := r3.ob h3 e5
  cases d with
  | list ds =>
    cases kd with
    | int n =>
      obtain ⟨j, e7, eq⟩ := Option.bind_eq_some_iff.mp eq
      obtain ⟨δ4, e8, eq⟩ := Option.map_eq_some_iff.mp eq
      cases eq
      cases hk
      cases own with
      | @lst us _ g1 g2 => exact ⟨a, us, n, j, rfl, rfl, g1, by rw [g2.len]; exact e7, k F3 ow3 σ _ (r3.write hs e8 (.lst upd_same (Dats.set' (d2.mono l3.le) j g2)))⟩
    | _ => cases eq
  | _ => cases eq
/-! all, any, max, min, abs, int -/
def boolsD : List DT → Option (List Bool)
  | [] => some []
  | .bool b :: r => (boolsD r).map fun bs => b :: bs
  | _ :: _ => none
theorem Dats.bools {F : Hp} : ∀ {vs : List V} {ds : List DT} {bs : List Bool}, Dats P w K F vs ds → boolsD ds = some bs → vs = bs.map V.bl
  | _, _, _, .nil, e => by
    cases Option.some.inj e
    rfl
  | _, _, _, .cons a b, e => by
    cases a with
    | bl c =>
      obtain ⟨cs, h1, h2⟩ := Option.map_eq_some_iff.mp e
      subst h2
      rw [b.bools h1]
      rfl
    | _ => cases e
theorem boolsD_of : ∀ {bs : List Bool}, boolsD (bs.map PyData.bool) = some bs
  | [] => rfl
  | b :: r => by
    show (boolsD (r.map PyData.bool)).map _ = _
    rw [boolsD_of]
    rfl
def fAll : List DT → Option DT
  | [.list ds] => (boolsD ds).map fun bs => .bool (bs.all id)
  | _ => none
def fAny : List DT → Option DT
  | [.list ds] => (boolsD ds).map fun bs => .bool (bs.any id)
  | _ => none
theorem cbl_all : CbL P w K (rAll K) fAll := by
  intro F H vs ds dz le hv e Q k
  unfold fAll at e
  split at e
  · obtain ⟨bs, h1, h2⟩ := Option.map_eq_some_iff.mp e
    subst h2
    obtain ⟨v, rfl, hx⟩ := one_ob hv
    obtain ⟨a, us, rfl, ha, hd⟩ := hx.listE
    rw [hd.bools h1] at ha
    exact ⟨a, bs, rfl, ha, k _ F H .refl (.bl _)⟩
  · cases e
theorem cbl_any : CbL P w K (rAny K) fAny := by
  intro F H vs ds dz le hv e Q k
  unfold fAny at e
  split at e
  · obtain ⟨bs, h1, h2⟩ := Option.map_eq_some_iff.mp e
    subst h2
    obtain ⟨v, rfl, hx⟩ := one_ob hv
    obtain ⟨a, us, rfl, ha, hd⟩ := hx.listE
    rw [hd.bools h1] at ha
    exact ⟨a, bs, rfl, ha, k _ F H .refl (.bl _)⟩
  · cases e
end
/-! ### enumerate of a tuple -/
section
open PySem
theorem enuMade (a : Addr) (us : Array Value) (n : Nat) (dc : Option Addr) (sl : Array (Option Value)) : Meets (Builtin.«enumerate.__new__» ⟨[.type "enumerate", .ref a], []⟩) (fun _ R s => s.heap.get? a = some { cls := .type "tuple", dict := dc, data := .seq us n, slots := sl } ∧
      R (.ok (.ret (.ref (s.heap.push { cls := .type "tuple_iterator", data := .fields #[.ref a, .int 0 0] }).objs.size)))
        { s with heap := (s.heap.push { cls := .type "tuple_iterator", data := .fields #[.ref a, .int 0 0] }).push { cls := .type "enumerate", data := .fields #[.none, .bool false, .ref s.heap.objs.size, rawInt 0, .none, .none] } }) :=
  .of_wp fun prog w A R s h => by
    obtain ⟨hp, g, d, tk, os⟩ := s
    obtain ⟨e, q⟩ := h
    have su := sub_enumerate
    have T : Heap.IsTuple (Shared.heap ⟨hp, g, d, tk, os⟩) a us := ⟨_, e, rfl, n, rfl⟩
    wp_walk using PySem.AutoSeq1.wpAny_loadPart' e
    refine wpAny_stack_any fun st => wpAny_pure ?_
    split
    · rename_i c _ _ _ _ _
      cases (c == Value.type "enumerate")
      · wp_walk using PySem.AutoSeq1.wpAny_loadPart' e, wpAny_pyIter_tuple T
        exact ⟨_, rfl, q⟩
      · wp_walk using PySem.AutoSeq1.wpAny_loadPart' e, wpAny_pyIter_tuple T
        exact ⟨_, rfl, q⟩
    · wp_walk using PySem.AutoSeq1.wpAny_loadPart' e, wpAny_pyIter_tuple T
      exact ⟨_, rfl, q⟩
variable {prog : Program} {w : World} {A : Around} {E : Value → Shared → Prop} {s : Shared}
theorem enuCall {a : Addr} {us : Array Value} {Q : Value → Shared → Prop} (t : s.heap.IsTuple a us)
    (q : ∀ h', IsEnum h' (s.heap.objs.size + 1) s.heap.objs.size 0 .none → h'.IsTupleIter s.heap.objs.size a 0 → (∀ b o, s.heap.get? b = some o → h'.get? b = some o) → Q (.ref (s.heap.objs.size + 1)) { s with heap := h' }) :
    wpAny (model prog w) A (call (.type "enumerate") [.ref a]) Q E s := by
  obtain ⟨⟨c, dc, dt, sl⟩, e, ec, n, ed⟩ := t
  have ec : c = .type "tuple" := ec
  have ed : dt = .seq us n := ed
  subst ec ed
  refine callType_new F.called_enumerate (by decide) (F.typeCall_enumerate_1 _) (F.newCall_enumerate_1 _) (fun ob => F.args_object_init_2 ob _) F.entry_enumerate_new (enuMade a us n dc sl) ⟨e, ?_⟩
  have z : (s.heap.push { cls := .type "tuple_iterator", data := .fields #[.ref a, .int 0 0] }).objs.size = s.heap.objs.size + 1 := Heap.size_push ..
  have g2 : ((s.heap.push { cls := .type "tuple_iterator", data := .fields #[.ref a, .int 0 0] }).push { cls := .type "enumerate", data := .fields #[.none, .bool false, .ref s.heap.objs.size, rawInt 0, .none, .none] }).get? (s.heap.push { cls := .type "tuple_iterator", data := .fields #[.ref a, .int 0 0] }).objs.size = some _ := Heap.get?_push_size _ rfl
  show _ ∧ _
  rw [z] at g2 ⊢
  exact ⟨⟨_, g2, rfl⟩, q _ g2 ⟨_, Heap.get?_push_of_some _ (Heap.get?_push_size _ rfl), rfl, rfl⟩ fun b o x => Heap.get?_push_of_some _ (Heap.get?_push_of_some _ x)⟩
theorem enuItem {e j a : Addr} {i : Nat} {us : Array Value} {x old : Value} {Q : Value → Shared → Prop} (g : IsEnum s.heap e j i old) (gj : s.heap.IsTupleIter j a i) (t : s.heap.IsTuple a us) (ex : us[i]? = some x) (ne : e ≠ j)
    (q : ∀ h', IsEnumOut h' e j ((i : Int) + 1) x s.heap.objs.size → h'.IsTupleIter j a (i + 1) → h'.get? s.heap.objs.size = some { cls := .type "tuple", data := .seq #[.int i s.toks, x] } →
      (∀ b o, b ≠ e → b ≠ j → s.heap.get? b = some o → h'.get? b = some o) → Q (.ref s.heap.objs.size) { s with heap := h', toks := s.toks + 1 }) :
    wpAny (model prog w) A (Builtin.«enumerate.__next__» ⟨[.ref e], []⟩) (fun r s' => ∃ v, r = .done (.ret v) ∧ Q v s') E s := by
  obtain ⟨hp, gg, dd, tk, os⟩ := s
  show wpAny _ _ (field (.ref e) 2 >>= _) _ _ _
  refine wpAny_bind (wpAny_field g rfl (x := .ref j) rfl (wpAny_bind (RZ.nextOf_tuple_item gj t ex fun p1 gj1 b1 => ?_)))
  have b1 : Heap.SameBut j hp p1 := b1
  have g1 : IsEnum p1 e j i old := (b1.2 e ne).trans g
  show wpAny _ _ (field (.ref e) 3 >>= _) _ _ ⟨p1, gg, dd, tk, os⟩
  refine wpAny_bind (wpAny_field g1 rfl (x := rawInt i) rfl ?_)
  show wpAny _ _ (field (.ref e) 4 >>= _) _ _ ⟨p1, gg, dd, tk, os⟩
  refine wpAny_bind (wpAny_field g1 rfl (x := .none) rfl ?_)
  show wpAny _ _ (mkInt i >>= _) _ _ ⟨p1, gg, dd, tk, os⟩
  refine wpAny_bind (wpAny_mkInt ?_)
  show wpAny _ _ (setField (.ref e) 3 (rawInt ((i : Int) + 1)) >>= _) _ _ ⟨p1, gg, dd, tk + 1, os⟩
  refine wpAny_bind (wpAny_setField_rec g1 (by simp) fun p2 g2 b2 => ?_)
  have b2 : Heap.SameBut e p1 p2 := b2
  have g2 : IsEnum p2 e j ((i : Int) + 1) old := g2
  show wpAny _ _ (setField (.ref e) 4 .none >>= _) _ _ ⟨p2, gg, dd, tk + 1, os⟩
  refine wpAny_bind (wpAny_setField_rec g2 (by simp) fun p3 g3 b3 => ?_)
  have b3 : Heap.SameBut e p2 p3 := b3
  have g3 : IsEnum p3 e j ((i : Int) + 1) old := g3
  show wpAny _ _ (newTuple [.int i tk, x] >>= _) _ _ ⟨p3, gg, dd, tk + 1, os⟩
  refine wpAny_bind (wpAny_newTuple ?_)
  have zs : p3.objs.size = hp.objs.size := by rw [b3.1, b2.1, b1.1]
  have g4 : IsEnum (p3.push { cls := .type "tuple", data := .seq #[.int i tk, x] }) e j ((i : Int) + 1) old := Heap.get?_push_of_some _ g3
  have t4 : (p3.push { cls := .type "tuple", data := .seq #[.int i tk, x] }).get? hp.objs.size = some { cls := .type "tuple", data := .seq #[.int i tk, x] } := by
    rw [← zs]
    exact Heap.get?_push_size _ rfl
  have k4 : ∀ b o, b ≠ e → b ≠ j → hp.get? b = some o → (p3.push { cls := .type "tuple", data := .seq #[.int i tk, x] }).get? b = some o := fun b o n1 n2 h => Heap.get?_push_of_some _ (by
    rw [b3.2 b n1, b2.2 b n1, b1.2 b n2]
    exact h)
  have j4 : (p3.push { cls := .type "tuple", data := .seq #[.int i tk, x] }).IsTupleIter j a (i + 1) := gj1.at fun o h => Heap.get?_push_of_some _ (by
    rw [b3.2 j ne.symm, b2.2 j ne.symm]
    exact h)
  have el : e < hp.objs.size := Heap.lt_size g
  show wpAny _ _ (Builtin.SmallTypes.ownedTupleIsFree (.ref e) >>= _) _ _ ⟨p3.push { cls := .type "tuple", data := .seq #[.int i tk, x] }, gg, dd, tk + 1, os⟩
  rw [zs]
  generalize p3.push { cls := .type "tuple", data := .seq #[.int i tk, x] } = p4 at g4 t4 k4 j4
  refine wpAny_bind ?_; unfold Builtin.SmallTypes.ownedTupleIsFree
  refine wpAny_bind (wpAny_field g4 rfl (x := .none) rfl (wpAny_pure ?_)); simp only [if_true]
  refine wpAny_bind (wpAny_rule (wpAny_bind (wpAny_field g4 rfl (x := old) rfl (wpAny_bind (wpAny_setField_rec g4 (by simp) fun p5 g5 b5 => ?_)))))
  have b5 : Heap.SameBut e p4 p5 := b5
  have g5 : IsEnum p5 e j ((i : Int) + 1) x := g5
  show wpAny _ _ (Builtin.SmallTypes.ownedTupleHandOut (.ref e) (.ref hp.objs.size) >>= _) _ _ ⟨p5, gg, dd, tk + 1, os⟩
  refine wpAny_bind ?_; unfold Builtin.SmallTypes.ownedTupleHandOut
  refine wpAny_bind (wpAny_setField_rec g5 (by simp) fun p6 g6 b6 => ?_)
  have b6 : Heap.SameBut e p5 p6 := b6
  have g6 : IsEnumOut p6 e j ((i : Int) + 1) x hp.objs.size := g6
  refine wpAny_setField_rec g6 (by simp) fun p7 g7 b7 => ?_
  have b7 : Heap.SameBut e p6 p7 := b7
  have up : ∀ b o, b ≠ e → p4.get? b = some o → p7.get? b = some o := fun b o n h => by
    rw [b7.2 b n, b6.2 b n, b5.2 b n]
    exact h
  exact wpAny_bind (wpAny_letGo (wpAny_pure ⟨_, rfl, q p7 g7 (j4.at fun o h => up _ o ne.symm h) (up _ _ (Nat.ne_of_gt el) t4) fun b o n1 n2 h => up b o n1 (k4 b o n1 n2 h)⟩))
theorem enuNextItem {e j a : Addr} {i : Nat} {us : Array Value} {x old : Value} {Q : Option Value → Shared → Prop} (g : IsEnum s.heap e j i old) (gj : s.heap.IsTupleIter j a i) (t : s.heap.IsTuple a us) (ex : us[i]? = some x) (ne : e ≠ j)
    (q : ∀ h', IsEnumOut h' e j ((i : Int) + 1) x s.heap.objs.size → h'.IsTupleIter j a (i + 1) → h'.get? s.heap.objs.size = some { cls := .type "tuple", data := .seq #[.int i s.toks, x] } →
      (∀ b o, b ≠ e → b ≠ j → s.heap.get? b = some o → h'.get? b = some o) → Q (some (.ref s.heap.objs.size)) { s with heap := h', toks := s.toks + 1 }) : wpAny (model prog w) A (pyNext (.ref e)) Q E s := by
  have ty : s.TypeIs (.ref e) "enumerate" := ⟨_, g, rfl⟩
  unfold pyNext; refine wpAny_bind (wpAny_attempt (wpAny_callSpecial?_slot (name := Str.ofString "__next__") ty F.slot_enumerate_next ?_))
  exact wpAny_call_entry F.slot_enumerate_next ty F.entry_enumerate_next (enuItem g gj t ex ne fun h' r1 r2 r3 r4 => wpAny_pure (q h' r1 r2 r3 r4)) (F.args_enumerate_next_1 _)
theorem enuNextEnd {e j a : Addr} {i : Nat} {us : Array Value} {old : Value} {Q : Option Value → Shared → Prop} (hh : A.handled = none) (g : IsEnum s.heap e j i old) (gj : s.heap.IsTupleIter j a i) (t : s.heap.IsTuple a us) (ex : us[i]? = none)
    (q : ∀ h', Heap.ExtBut j s.heap h' → Q none { s with heap := h' }) : wpAny (model prog w) A (pyNext (.ref e)) Q E s := by
  have ty : s.TypeIs (.ref e) "enumerate" := ⟨_, g, rfl⟩
  unfold pyNext; refine wpAny_bind (wpAny_attempt (wpAny_callSpecial?_slot (name := Str.ofString "__next__") ty F.slot_enumerate_next ?_))
  refine wpAny_call_entry F.slot_enumerate_next ty F.entry_enumerate_next ?_ (F.args_enumerate_next_1 _)
  show wpAny _ _ (field (.ref e) 2 >>= _) _ _ _
  refine wpAny_bind (wpAny_field g rfl (x := .ref j) rfl (wpAny_bind (RZ.nextOf_tuple_end hh gj t ex fun h' x b ⟨o, eo, ec⟩ => ?_)))
  exact wpAny_bind (wpAny_isInstance (T := "StopIteration") (b := true) ⟨o, eo, ec⟩ isSubtype_stop (wpAny_pure (q _ b)))
/-- the tuple at a, each item in a new pair -/
def IteT (K : PySem.W.Frag) (a : Addr) : It where
  go i H := ∃ (us : List V) (x : V), SqT K H a us ∧ us[i]? = some x
  yld i H v H' := ∃ c x, v = .ref c ∧ H c = none ∧ H' = upd H c (.tup [.int (i : Nat), x]) ∧ ∀ us, SqT K H a us → us[i]? = some x
  stop i H := ∃ us : List V, SqT K H a us ∧ us.length ≤ i
theorem turnEnuT {P : Program} {w : World} {K : PySem.W.Frag} {el : List Expr} {n : Nat} {tp : Pos} (a e j : Addr) :
    Turn P w K (.Tuple el n tp) (IteT K a) [e, j] e (fun i h => (∃ old, IsEnum h e j ((i : Nat) : Int) old) ∧ h.IsTupleIter j a i ∧ e ≠ j) where
  mem := by simp
  obj := fun i h st b hb => by
    obtain ⟨⟨old, g⟩, ⟨o, eo, _, ed⟩, _⟩ := st
    simp only [List.mem_cons, List.not_mem_nil, or_false] at hb
    rcases hb with rfl | rfl
    · exact ⟨_, g, fun v q => nomatch q⟩
    · exact ⟨o, eo, fun v q => by rw [ed] at q; cases q⟩
  keep := fun i h h' st k => by
    obtain ⟨⟨old, g⟩, gj, ne⟩ := st
    exact ⟨⟨old, k _ (by simp) _ g⟩, gj.at fun o q => k _ (by simp) o q, ne⟩
  item := by
    intro X eP ew eK hc i pins s σ H E I hf st hg
    subst eP ew eK
    obtain ⟨⟨old, g⟩, gj, ne⟩ := st
    obtain ⟨us, x, hq, ex⟩ := hg
    obtain ⟨as, r1, t1, _⟩ := I.tuple hq
    obtain ⟨u, eu, ru⟩ := r1.get ex
    have el : e < s.heap.objs.size := Heap.lt_size g
    have jl : j < s.heap.objs.size := gj.elim fun _ q => Heap.lt_size q.1
    refine enuNextItem g gj t1 (x := u) (by simpa using eu) ne fun h' k1 k2 k3 k4 => ⟨_, rfl, ?_⟩
    refine wpAny_letOwnedTupleGo_enum (s := { s with heap := h', toks := s.toks + 1 }) k1 fun h2 l1 sb => ?_
    have pr : h2.get? s.heap.objs.size = some { cls := .type "tuple", data := .seq #[.int i s.toks, u] } := (sb.2 _ (Nat.ne_of_gt el)).trans k3
    have ok : ObjOk X.prog X.w (upd H s.heap.objs.size (.tup [.int (i : Nat), x])) h2 s.heap.objs.size (.tup [.int (i : Nat), x]) := ⟨by show 2 ≤ sizeLine; decide, [.int i s.toks, u], .cons ⟨_, rfl⟩ (.cons ru .nil), _, pr, rfl, _, rfl⟩
    have J : Inv X pins σ (upd H s.heap.objs.size (.tup [.int (i : Nat), x])) { s with heap := h2, toks := s.toks + 1 } := I.turnedNew (ch := [e, j]) (fun b o n q => by
      have n1 : b ≠ e := fun z => n (by simp [z])
      have n2 : b ≠ j := fun z => n (by simp [z])
      exact (sb.2 b n1).trans (k4 b o n1 n2 q)) hf (Nat.le_refl _) ok
    refine ⟨.ref s.heap.objs.size, _, J, rfl, ⟨_, x, rfl, I.hok.fresh (Nat.le_refl _), rfl, fun ys hy => ?_⟩, ⟨⟨u, ?_⟩, k2.at fun o q => (sb.2 j ne.symm).trans q, ne⟩, fun b hb => ?_⟩
    · rw [I.tuple_inj hy hq]
      exact ex
    · rw [show ((i + 1 : Nat) : Int) = (i : Int) + 1 by omega]
      exact l1
    · have lt : b < s.heap.objs.size := by
        have hb' := hb
        simp only [List.mem_cons, List.not_mem_nil, or_false] at hb'
        rcases hb' with rfl | rfl
        · exact el
        · exact jl
      rw [upd_ne (Nat.ne_of_lt lt)]
      exact (hf b hb).1
  done := by
    intro X eP ew eK hc i pins s σ H E I hf st hg
    subst eP ew eK
    obtain ⟨⟨old, g⟩, gj, ne⟩ := st
    obtain ⟨us, hq, hx⟩ := hg
    obtain ⟨as, r1, t1, _⟩ := I.tuple hq
    obtain ⟨f0, f1, f2, f3, f4, f5⟩ := hf j (by simp)
    have l1 := r1.length
    exact enuNextEnd (I.ok.hd hc) g gj t1 (by simp; omega) fun h' b => ⟨rfl, I.turned (t' := s.toks) (fun c o n q => b c o n q) f0 f1 f3 f4 f5⟩
  self := fun A i s Q E st h => st.1.elim fun _ g => wpAny_pyIter_enum g h
def iEnuT (K : PySem.W.Frag) (ta : TA) : L2.TI := fun σ H R => ta σ H fun vs H1 => ∃ a xs, vs = [.ref a] ∧ SqT K H1 a xs ∧ R (IteT K a) H1
theorem pi_enuT {X : Cx} {e : Expr} {ta : TA} {p pos tp : Pos} {el : List Expr} {n : Nat} (hg : Gl X "enumerate") (hm : X.mg "enumerate" = none) (ha : PA X [e] ta) (h1 : starEach [e] X.env = [(false, eval e X.env)] := by rfl) :
    PI X (.Tuple el n tp) (.Call (.Name "enumerate" p) [e] [] pos) (iEnuT X.K ta) := by
  constructor
  intro pins s σ H R I h
  refine Call_ (ld_blt I hg hm boot_enumerate (PyProof.Rows.callWith_type1 (thn (ha.run pos pins s σ H _ I h) fun us s1 hz => ?_) h1 rfl))
  obtain ⟨vs, H1, J, va, a, xs, rfl, hx, q⟩ := hz
  match us, va with
  | [_], .cons r1 .nil =>
    cases r1
    obtain ⟨as, rv, t1, _⟩ := J.tuple hx
    refine enuCall t1 fun h' g gj kp => wpAny_pyIter_enum g ?_
    refine ⟨s1.heap.objs.size + 1, [s1.heap.objs.size + 1, s1.heap.objs.size], _, _, H1, rfl, J.kept (t' := s1.toks) kp, turnEnuT a (s1.heap.objs.size + 1) s1.heap.objs.size, ⟨⟨.none, g⟩, gj, Nat.succ_ne_self _⟩, fun b hb => ?_, q⟩
    have le : s1.heap.objs.size ≤ b := by
      simp only [List.mem_cons, List.not_mem_nil, or_false] at hb
      rcases hb with rfl | rfl
      · exact Nat.le_add_right _ _
      · exact Nat.le_refl _
    exact J.fpOk le (J.hok.fresh le)
theorem walk_enuT {K : PySem.W.Frag} {a : Addr} {xs : List V} : Walk (IteT K a) xs.length (fun H => SqT K H a xs) (YPair (fun i => some (.int (i : Nat))) (fun i => xs[i]?)) where
  goes i H hi q := ⟨xs, xs[i], q, List.getElem?_eq_getElem hi⟩
  stops H q := ⟨xs, q, Nat.le_refl _⟩
  yields i H v H' _ q y := by
    obtain ⟨c, x, k1, k2, k3, k4⟩ := y
    exact ⟨c, .int (i : Nat), x, k1, k2, k3, rfl, k4 xs q⟩
end
/-! ### zip of a tuple and a list -/
section
open PySem
variable {prog : Program} {w : World} {A : Around} {E : Value → Shared → Prop} {s : Shared}
theorem mixItem {z tI tO j1 j2 m1 m2 : Addr} {k : Nat} {us vs : Array Value} {u v a b : Value} {Q : Value → Shared → Prop} (D : ZipApart z tI tO j1 j2 m1 m2)
    (gz : IsZip s.heap z tI tO .none) (gI : IsPair s.heap tI (.ref j1) (.ref j2)) (gO : IsPair s.heap tO a b) (g1 : s.heap.IsTupleIter j1 m1 k) (g2 : s.heap.IsListIter j2 m2 k) (t1 : s.heap.IsTuple m1 us) (t2 : s.heap.IsList m2 vs) (e1 : us[k]? = some u) (e2 : vs[k]? = some v)
    (q : ∀ h', IsZip h' z tI tO (rawInt s.heap.objs.size) → IsPair h' tO u v → h'.IsTupleIter j1 m1 (k + 1) → h'.IsListIter j2 m2 (k + 1) → IsPair h' s.heap.objs.size u v → h'.objs.size = s.heap.objs.size + 1 →
      (∀ c o, ¬ c ∈ [z, tI, tO, j1, j2] ∨ c = tI → s.heap.get? c = some o → h'.get? c = some o) → Q (.ref s.heap.objs.size) { s with heap := h' }) :
    wpAny (model prog w) A (Builtin.«zip.__next__» ⟨[.ref z], []⟩) (fun r s' => ∃ x, r = .done (.ret x) ∧ Q x s') E s := by
  show wpAny _ _ (field (.ref z) 2 >>= _) _ _ _
  refine wpAny_bind (wpAny_field gz rfl (x := .bool false) rfl ?_)
  show wpAny _ _ (field (.ref z) 3 >>= _) _ _ _
  refine wpAny_bind (wpAny_field gz rfl (x := .ref tI) rfl (wpAny_bind (wpAny_seqItems gI rfl ?_)))
  show wpAny _ _ (Builtin.SmallTypes.ownedTupleIsFree (.ref z) >>= _) _ _ s
  refine wpAny_bind ?_; unfold Builtin.SmallTypes.ownedTupleIsFree
  refine wpAny_bind (wpAny_field gz rfl (x := .none) rfl (wpAny_pure ?_)); simp only [if_true]
  refine wpAny_bind (wpAny_rule (wpAny_bind (wpAny_field gz rfl (x := .ref tO) rfl (wpAny_bind (wpAny_setField_rec gz (by simp) fun p1 gz1 b1 => ?_)))))
  have gz1 : IsZip p1 z tI tO .ellipsis := gz1
  refine wpAny_bind ?_; simp only [List.forIn_cons, List.zipIdx_cons, List.forIn_nil, List.zipIdx_nil]
  -- the tuple's next one
  refine wpAny_bind (wpAny_bind (wpAny_onRaise ?_))
  show wpAny _ _ (Builtin.SmallTypes.nextOf (.ref j1) >>= _) _ _ _
  refine wpAny_bind (RZ.nextOf_tuple_item (g1.extBut b1.extBut D.i1z) (t1.extBut b1.extBut D.l1z) e1 fun p2 g12 b2 => wpAny_pure ?_)
  have gO2 : IsPair p2 tO a b := b2.extBut _ _ D.TOi1 (b1.extBut _ _ D.TOz gO)
  refine wpAny_bind (wpAny_seqItems gO2 rfl (wpAny_bind (wpAny_updateSeq_pair gO2 fun p3 gO3 b3 => wpAny_bind (wpAny_letGo (wpAny_pure ?_)))))
  have gO3 : IsPair p3 tO u b := gO3
  -- the list's next one
  refine wpAny_bind (wpAny_bind (wpAny_onRaise ?_))
  show wpAny _ _ (Builtin.SmallTypes.nextOf (.ref j2) >>= _) _ _ _
  have g23 := ((g2.extBut b1.extBut D.i2z).extBut b2.extBut D.i12.symm).extBut b3.extBut D.TOi2.symm
  have t23 := ((t2.extBut b1.extBut D.l2z).extBut b2.extBut D.l2i1).extBut b3.extBut D.l2TO
  refine wpAny_bind (wpAny_nextOf_list_item g23 t23 e2 fun p4 g24 b4 => wpAny_pure ?_)
  have gO4 : IsPair p4 tO u b := b4.extBut _ _ D.TOi2 gO3
  refine wpAny_bind (wpAny_seqItems gO4 rfl (wpAny_bind (wpAny_updateSeq_pair gO4 fun p5 gO5 b5 => wpAny_bind (wpAny_letGo (wpAny_pure (wpAny_pure ?_))))))
  have gO5 : IsPair p5 tO u v := gO5
  refine wpAny_bind (wpAny_seqItems gO5 rfl (wpAny_bind (wpAny_newTuple ?_)))
  have zs : p5.objs.size = s.heap.objs.size := by rw [b5.1, b4.1, b3.1, b2.1, b1.1]
  have gz5 : IsZip p5 z tI tO .ellipsis := b5.extBut _ _ D.TOz.symm (b4.extBut _ _ D.i2z.symm (b3.extBut _ _ D.TOz.symm (b2.extBut _ _ D.i1z.symm gz1)))
  have kp : ∀ c o, c ≠ z → c ≠ tO → c ≠ j1 → c ≠ j2 → s.heap.get? c = some o → p5.get? c = some o := fun c o n1 n2 n3 n4 e => by
    rw [b5.2 c n2, b4.2 c n4, b3.2 c n2, b2.2 c n3, b1.2 c n1]
    exact e
  have g15 : p5.IsTupleIter j1 m1 (k + 1) := g12.at fun o e => by
    rw [b5.2 _ D.TOi1.symm, b4.2 _ D.i12, b3.2 _ D.TOi1.symm]
    exact e
  have g25 : p5.IsListIter j2 m2 (k + 1) := g24.at fun o e => (b5.2 _ D.TOi2.symm).trans e
  have lz : z < p5.objs.size := Heap.lt_size gz5
  show wpAny _ _ (Builtin.SmallTypes.ownedTupleHandOut (.ref z) (.ref p5.objs.size) >>= _) _ _ _
  refine wpAny_bind ?_; unfold Builtin.SmallTypes.ownedTupleHandOut
  have gz6 : IsZip (p5.push { cls := .type "tuple", data := .seq #[u, v] }) z tI tO .ellipsis := Heap.get?_push_of_some _ gz5
  refine wpAny_bind (wpAny_setField_rec gz6 (by simp) fun p7 gz7 b7 => ?_)
  have gz7 : IsZip p7 z tI tO (rawInt p5.objs.size) := gz7
  refine wpAny_setField_rec gz7 (by simp) fun p8 gz8 b8 => wpAny_pure ⟨_, rfl, ?_⟩
  have gz8 : IsZip p8 z tI tO (rawInt p5.objs.size) := gz8
  have up : ∀ c o, c ≠ z → p5.get? c = some o → p8.get? c = some o := fun c o n e => by
    rw [b8.2 c n, b7.2 c n]
    exact Heap.get?_push_of_some _ e
  have gT : IsPair p8 p5.objs.size u v := by
    show p8.get? _ = _
    rw [b8.2 _ (Nat.ne_of_gt lz), b7.2 _ (Nat.ne_of_gt lz)]
    exact Heap.get?_push_size _ rfl
  have z8 : p8.objs.size = p5.objs.size + 1 := by rw [b8.1, b7.1, Heap.size_push]
  rw [zs] at gz8 gT z8
  show Q (.ref p5.objs.size) _
  rw [zs]
  refine q p8 gz8 (up _ _ D.TOz gO5) (g15.at fun o e => up _ o D.i1z e) (g25.at fun o e => up _ o D.i2z e) gT z8 fun c o n e => ?_
  have n4 : c ≠ z ∧ c ≠ tO ∧ c ≠ j1 ∧ c ≠ j2 := by
    rcases n with n | n
    · simp only [List.mem_cons, List.not_mem_nil, or_false, not_or] at n
      exact ⟨n.1, n.2.2.1, n.2.2.2.1, n.2.2.2.2⟩
    · subst n
      exact ⟨D.TIz, D.TITO, D.TIi1, D.TIi2⟩
  exact up c o n4.1 (kp c o n4.1 n4.2.1 n4.2.2.1 n4.2.2.2 e)
theorem mixEnd {z tI tO j1 j2 m1 m2 : Addr} {k : Nat} {us vs : Array Value} {a b : Value} {Q : Fin → Shared → Prop} (hh : A.handled = none) (D : ZipApart z tI tO j1 j2 m1 m2)
    (gz : IsZip s.heap z tI tO .none) (gI : IsPair s.heap tI (.ref j1) (.ref j2)) (gO : IsPair s.heap tO a b) (g1 : s.heap.IsTupleIter j1 m1 k) (g2 : s.heap.IsListIter j2 m2 k) (t1 : s.heap.IsTuple m1 us) (t2 : s.heap.IsList m2 vs) (hend : us[k]? = none ∨ vs[k]? = none)
    (q : ∀ h' x, (∀ c o, ¬ c ∈ [z, tI, tO, j1, j2] → s.heap.get? c = some o → h'.get? c = some o) → (∃ o, h'.get? x = some o ∧ o.cls = .type "StopIteration") → E (.ref x) { s with heap := h' }) :
    wpAny (model prog w) A (Builtin.«zip.__next__» ⟨[.ref z], []⟩) Q E s := by
  have four : ∀ c, ¬ c ∈ [z, tI, tO, j1, j2] → c ≠ z ∧ c ≠ tO ∧ c ≠ j1 ∧ c ≠ j2 := fun c n => by
    simp only [List.mem_cons, List.not_mem_nil, or_false, not_or] at n
    exact ⟨n.1, n.2.2.1, n.2.2.2.1, n.2.2.2.2⟩
  show wpAny _ _ (field (.ref z) 2 >>= _) _ _ _
  refine wpAny_bind (wpAny_field gz rfl (x := .bool false) rfl ?_)
  show wpAny _ _ (field (.ref z) 3 >>= _) _ _ _
  refine wpAny_bind (wpAny_field gz rfl (x := .ref tI) rfl (wpAny_bind (wpAny_seqItems gI rfl ?_)))
  show wpAny _ _ (Builtin.SmallTypes.ownedTupleIsFree (.ref z) >>= _) _ _ s
  refine wpAny_bind ?_; unfold Builtin.SmallTypes.ownedTupleIsFree
  refine wpAny_bind (wpAny_field gz rfl (x := .none) rfl (wpAny_pure ?_)); simp only [if_true]
  refine wpAny_bind (wpAny_rule (wpAny_bind (wpAny_field gz rfl (x := .ref tO) rfl (wpAny_bind (wpAny_setField_rec gz (by simp) fun p1 gz1 b1 => ?_)))))
  have gz1 : IsZip p1 z tI tO .ellipsis := gz1
  refine wpAny_bind ?_; simp only [List.forIn_cons, List.zipIdx_cons, List.forIn_nil, List.zipIdx_nil]
  refine wpAny_bind (wpAny_bind (wpAny_onRaise ?_))
  show wpAny _ _ (Builtin.SmallTypes.nextOf (.ref j1) >>= _) _ _ _
  have last : ∀ (h : Heap) (x : Addr), IsZip h z tI tO .ellipsis → (∃ o, h.get? x = some o ∧ o.cls = .type "StopIteration") → x ≠ z := fun h x gz ⟨o, e, ec⟩ n => by
    subst n
    rw [gz] at e
    cases e
    simp at ec
  cases e1 : us[k]? with
  | none =>
    refine wpAny_bind (RZ.nextOf_tuple_end hh (g1.extBut b1.extBut D.i1z) (t1.extBut b1.extBut D.l1z) e1 fun p2 x b2 ex => ?_)
    have gz2 : IsZip p2 z tI tO .ellipsis := b2 _ _ D.i1z.symm gz1
    have nz := last p2 x gz2 ex
    obtain ⟨o, eo, ec⟩ := ex
    refine wpAny_setField_rec gz2 (by simp) fun p3 _ b3 => q p3 x (fun c o n e => ?_) ⟨o, (b3.2 _ nz).trans eo, ec⟩
    have n4 := four c n
    rw [b3.2 c n4.1]
    exact b2 _ _ n4.2.2.1 ((b1.2 c n4.1).trans e)
  | some u =>
    have e2 : vs[k]? = none := by
      rcases hend with h | h
      · rw [e1] at h
        cases h
      · exact h
    refine wpAny_bind (RZ.nextOf_tuple_item (g1.extBut b1.extBut D.i1z) (t1.extBut b1.extBut D.l1z) e1 fun p2 g12 b2 => wpAny_pure ?_)
    have gO2 : IsPair p2 tO a b := b2.extBut _ _ D.TOi1 (b1.extBut _ _ D.TOz gO)
    refine wpAny_bind (wpAny_seqItems gO2 rfl (wpAny_bind (wpAny_updateSeq_pair gO2 fun p3 gO3 b3 => wpAny_bind (wpAny_letGo (wpAny_pure ?_)))))
    refine wpAny_bind (wpAny_bind (wpAny_onRaise ?_))
    show wpAny _ _ (Builtin.SmallTypes.nextOf (.ref j2) >>= _) _ _ _
    have g23 := ((g2.extBut b1.extBut D.i2z).extBut b2.extBut D.i12.symm).extBut b3.extBut D.TOi2.symm
    have t23 := ((t2.extBut b1.extBut D.l2z).extBut b2.extBut D.l2i1).extBut b3.extBut D.l2TO
    refine wpAny_bind (wpAny_nextOf_list_end hh g23 t23 e2 fun p4 x b4 ex => ?_)
    have gz4 : IsZip p4 z tI tO .ellipsis := b4 _ _ D.i2z.symm (b3.extBut _ _ D.TOz.symm (b2.extBut _ _ D.i1z.symm gz1))
    have nz := last p4 x gz4 ex
    obtain ⟨o, eo, ec⟩ := ex
    refine wpAny_setField_rec gz4 (by simp) fun p5 _ b5 => q p5 x (fun c o n e => ?_) ⟨o, (b5.2 _ nz).trans eo, ec⟩
    have n4 := four c n
    rw [b5.2 c n4.1]
    refine b4 _ _ n4.2.2.2 ?_
    rw [b3.2 c n4.2.1, b2.2 c n4.2.2.1, b1.2 c n4.1]
    exact e
theorem mixNextItem {z tI tO j1 j2 m1 m2 : Addr} {k : Nat} {us vs : Array Value} {u v a b : Value} {Q : Option Value → Shared → Prop} (D : ZipApart z tI tO j1 j2 m1 m2)
    (gz : IsZip s.heap z tI tO .none) (gI : IsPair s.heap tI (.ref j1) (.ref j2)) (gO : IsPair s.heap tO a b) (g1 : s.heap.IsTupleIter j1 m1 k) (g2 : s.heap.IsListIter j2 m2 k) (t1 : s.heap.IsTuple m1 us) (t2 : s.heap.IsList m2 vs) (e1 : us[k]? = some u) (e2 : vs[k]? = some v)
    (q : ∀ h', IsZip h' z tI tO (rawInt s.heap.objs.size) → IsPair h' tO u v → h'.IsTupleIter j1 m1 (k + 1) → h'.IsListIter j2 m2 (k + 1) → IsPair h' s.heap.objs.size u v → h'.objs.size = s.heap.objs.size + 1 →
      (∀ c o, ¬ c ∈ [z, tI, tO, j1, j2] ∨ c = tI → s.heap.get? c = some o → h'.get? c = some o) → Q (some (.ref s.heap.objs.size)) { s with heap := h' }) :
    wpAny (model prog w) A (pyNext (.ref z)) Q E s := by
  have ty : s.TypeIs (.ref z) "zip" := ⟨_, gz, rfl⟩
  unfold pyNext; refine wpAny_bind (wpAny_attempt (wpAny_callSpecial?_slot (name := Str.ofString "__next__") ty F.slot_zip_next ?_))
  exact wpAny_call_entry F.slot_zip_next ty F.entry_zip_next (mixItem D gz gI gO g1 g2 t1 t2 e1 e2 fun h' r1 r2 r3 r4 r5 r6 r7 => wpAny_pure (q h' r1 r2 r3 r4 r5 r6 r7)) (F.args_zip_next_1 _)
theorem mixNextEnd {z tI tO j1 j2 m1 m2 : Addr} {k : Nat} {us vs : Array Value} {a b : Value} {Q : Option Value → Shared → Prop} (hh : A.handled = none) (D : ZipApart z tI tO j1 j2 m1 m2)
    (gz : IsZip s.heap z tI tO .none) (gI : IsPair s.heap tI (.ref j1) (.ref j2)) (gO : IsPair s.heap tO a b) (g1 : s.heap.IsTupleIter j1 m1 k) (g2 : s.heap.IsListIter j2 m2 k) (t1 : s.heap.IsTuple m1 us) (t2 : s.heap.IsList m2 vs) (hend : us[k]? = none ∨ vs[k]? = none)
    (q : ∀ h', (∀ c o, ¬ c ∈ [z, tI, tO, j1, j2] → s.heap.get? c = some o → h'.get? c = some o) → Q none { s with heap := h' }) : wpAny (model prog w) A (pyNext (.ref z)) Q E s := by
  have ty : s.TypeIs (.ref z) "zip" := ⟨_, gz, rfl⟩
  unfold pyNext; refine wpAny_bind (wpAny_attempt (wpAny_callSpecial?_slot (name := Str.ofString "__next__") ty F.slot_zip_next ?_))
  refine wpAny_call_entry F.slot_zip_next ty F.entry_zip_next (mixEnd hh D gz gI gO g1 g2 t1 t2 hend fun h' x kp ⟨o, eo, ec⟩ => ?_) (F.args_zip_next_1 _)
  exact wpAny_bind (wpAny_isInstance (T := "StopIteration") (b := true) ⟨o, eo, ec⟩ isSubtype_stop (wpAny_pure (q _ kp)))
end
section
open PySem
/-- the tuple at a and the list at b as they stand at each turn -/
def ItzM (K : PySem.W.Frag) (a b : Addr) : It where
  go i H := ∃ (us vs : List V) (x y : V), SqT K H a us ∧ SqL K H b vs ∧ us[i]? = some x ∧ vs[i]? = some y
  yld i H v H' := ∃ c x y, v = .ref c ∧ H c = none ∧ H' = upd H c (.tup [x, y]) ∧ (∀ us, SqT K H a us → us[i]? = some x) ∧ ∀ vs, SqL K H b vs → vs[i]? = some y
  stop i H := ∃ us vs : List V, SqT K H a us ∧ SqL K H b vs ∧ (us.length ≤ i ∨ vs.length ≤ i)
theorem turnMix {P : Program} {w : World} {K : PySem.W.Frag} {el : List Expr} {n : Nat} {tp : Pos} {a b z tI tO j1 j2 : Addr} (D : ZipApart z tI tO j1 j2 a b) :
    Turn P w K (.Tuple el n tp) (ItzM K a b) [z, tI, tO, j1, j2] z (fun i h => IsZip h z tI tO .none ∧ IsPair h tI (.ref j1) (.ref j2) ∧ (∃ x y, IsPair h tO x y) ∧ h.IsTupleIter j1 a i ∧ h.IsListIter j2 b i) where
  mem := by simp
  obj := fun i h st c hc => by
    obtain ⟨gz, gI, ⟨x, y, gO⟩, ⟨o1, e1, _, d1⟩, o2, e2, _, d2⟩ := st
    simp only [List.mem_cons, List.not_mem_nil, or_false] at hc
    rcases hc with rfl | rfl | rfl | rfl | rfl
    · exact ⟨_, gz, fun v e => nomatch e⟩
    · exact ⟨_, gI, fun v e => nomatch e⟩
    · exact ⟨_, gO, fun v e => nomatch e⟩
    · exact ⟨o1, e1, fun v e => by rw [d1] at e; cases e⟩
    · exact ⟨o2, e2, fun v e => by rw [d2] at e; cases e⟩
  keep := fun i h h' st k => by
    obtain ⟨gz, gI, ⟨x, y, gO⟩, g1, g2⟩ := st
    exact ⟨k _ (by simp) _ gz, k _ (by simp) _ gI, ⟨x, y, k _ (by simp) _ gO⟩, g1.at fun o e => k _ (by simp) o e, g2.at fun o e => k _ (by simp) o e⟩
  item := by
    intro X eP ew eK hc i pins s σ H E I hf st hg
    subst eP ew eK
    obtain ⟨gz, gI, ⟨x0, y0, gO⟩, g1, g2⟩ := st
    obtain ⟨us, vs, x, y, s1, s2, e1, e2⟩ := hg
    obtain ⟨as, r1, t1, _⟩ := I.tuple s1
    obtain ⟨bs, r2, t2, _⟩ := I.list s2
    obtain ⟨u, eu, ru⟩ := r1.get e1
    obtain ⟨v, ev, rv⟩ := r2.get e2
    have lz : z < s.heap.objs.size := Heap.lt_size gz
    refine mixNextItem D gz gI gO g1 g2 t1 t2.isList (u := u) (v := v) (by simpa using eu) (by simpa using ev) fun h' k1 k2 k3 k4 k5 k6 k7 => ⟨_, rfl, ?_⟩
    refine wpAny_letOwnedTupleGo_zip (s := { s with heap := h' }) k1 fun h2 l1 sb => ?_
    have pr : h2.get? s.heap.objs.size = some { cls := .type "tuple", data := .seq #[u, v] } := (sb.2 _ (Nat.ne_of_gt lz)).trans k5
    have ok : ObjOk X.prog X.w (upd H s.heap.objs.size (.tup [x, y])) h2 s.heap.objs.size (.tup [x, y]) := ⟨by show 2 ≤ sizeLine; decide, [u, v], .cons ru (.cons rv .nil), _, pr, rfl, _, rfl⟩
    have J : Inv X pins σ (upd H s.heap.objs.size (.tup [x, y])) { s with heap := h2 } := I.turnedNew (t' := s.toks) (ch := [z, tI, tO, j1, j2]) (fun c o n e => by
      have nz : c ≠ z := fun e => n (by simp [e])
      exact (sb.2 c nz).trans (k7 c o (.inl n) e)) hf (Nat.le_refl _) ok
    refine ⟨.ref s.heap.objs.size, _, J, rfl, ⟨_, x, y, rfl, I.hok.fresh (Nat.le_refl _), rfl, fun l hl => ?_, fun l hl => ?_⟩, ⟨l1, ?_, ⟨u, v, ?_⟩, ?_, ?_⟩, fun c hcm => ?_⟩
    · rw [I.tuple_inj hl s1]
      exact e1
    · rw [I.list_inj hl s2]
      exact e2
    · exact (sb.2 _ D.TIz).trans (k7 _ _ (.inr rfl) gI)
    · exact (sb.2 _ D.TOz).trans k2
    · exact k3.at fun o e => (sb.2 _ D.i1z).trans e
    · exact k4.at fun o e => (sb.2 _ D.i2z).trans e
    · have lt : c < s.heap.objs.size := by
        have hc' := hcm
        simp only [List.mem_cons, List.not_mem_nil, or_false] at hc'
        rcases hc' with rfl | rfl | rfl | rfl | rfl
        · exact lz
        · exact Heap.lt_size gI
        · exact Heap.lt_size gO
        · exact g1.elim fun _ e => Heap.lt_size e.1
        · exact g2.elim fun _ e => Heap.lt_size e.1
      rw [upd_ne (Nat.ne_of_lt lt)]
      exact (hf c hcm).1
  done := by
    intro X eP ew eK hc i pins s σ H E I hf st hg
    subst eP ew eK
    obtain ⟨gz, gI, ⟨x0, y0, gO⟩, g1, g2⟩ := st
    obtain ⟨us, vs, s1, s2, he⟩ := hg
    obtain ⟨as, r1, t1, _⟩ := I.tuple s1
    obtain ⟨bs, r2, t2, _⟩ := I.list s2
    have l1 := r1.length
    have l2 := r2.length
    refine mixNextEnd (I.ok.hd hc) D gz gI gO g1 g2 t1 t2.isList ?_ fun h' kp => ⟨rfl, I.turnedL (t' := s.toks) (ch := [z, tI, tO, j1, j2]) (fun c o n e => kp c o n e) hf⟩
    rcases he with h | h
    · exact .inl (by simp; omega)
    · exact .inr (by simp; omega)
  self := fun A i s Q E st h => wpAny_pyIter_zip st.1 h
abbrev mx1 (h : Heap) (a : Addr) : Heap := h.push { cls := .type "tuple_iterator", data := .fields #[.ref a, .int 0 0] }
abbrev mx2 (h : Heap) (a b : Addr) : Heap := (mx1 h a).push { cls := .type "list_iterator", data := .fields #[.ref b, .int 0 0] }
abbrev mx3 (h : Heap) (a b : Addr) : Heap := (mx2 h a b).push { cls := .type "tuple", data := .seq #[.ref h.objs.size, .ref (mx1 h a).objs.size] }
abbrev mx4 (h : Heap) (a b : Addr) : Heap := (mx3 h a b).push { cls := .type "tuple", data := .seq #[.none, .none] }
abbrev mx5 (h : Heap) (a b : Addr) : Heap := (mx4 h a b).push { cls := .type "zip", data := .fields #[.none, .bool false, .bool false, .ref (mx2 h a b).objs.size, .ref (mx3 h a b).objs.size] }
theorem mixMade (a b : Addr) (us vs : Array Value) : Meets (Builtin.«zip.__new__» ⟨[.type "zip", .ref a, .ref b], []⟩) (fun _ R s => s.heap.IsTuple a us ∧ s.heap.IsList b vs ∧ R (.ok (.ret (.ref (mx4 s.heap a b).objs.size))) { s with heap := mx5 s.heap a b }) :=
  .of_wp fun prog w A R s h => by
    obtain ⟨hp, g, d, tk, os⟩ := s
    obtain ⟨t1, t2, q⟩ := h
    have sz := sub_zip
    have T1 : Heap.IsTuple (Shared.heap ⟨hp, g, d, tk, os⟩) a us := t1
    have T2 : Heap.IsList (Shared.heap ⟨hp.push { cls := .type "tuple_iterator", data := .fields #[.ref a, .int 0 0] }, g, d, tk, os⟩) b vs := Heap.IsList.push t2 _
    wp_walk using wpAny_pyIter_tuple T1, wpAny_pyIter_list T2
    exact ⟨_, rfl, q⟩
theorem mixCall {prog : Program} {w : World} {A : Around} {E : Value → Shared → Prop} {s : Shared} {a b : Addr} {us vs : Array Value} {Q : Value → Shared → Prop} (t1 : s.heap.IsTuple a us) (t2 : s.heap.IsList b vs)
    (q : ∀ h', IsZip h' (s.heap.objs.size + 4) (s.heap.objs.size + 2) (s.heap.objs.size + 3) .none ∧ IsPair h' (s.heap.objs.size + 2) (.ref s.heap.objs.size) (.ref (s.heap.objs.size + 1)) ∧ IsPair h' (s.heap.objs.size + 3) .none .none ∧ h'.IsTupleIter s.heap.objs.size a 0 ∧ h'.IsListIter (s.heap.objs.size + 1) b 0 →
      (∀ c o, s.heap.get? c = some o → h'.get? c = some o) → Q (.ref (s.heap.objs.size + 4)) { s with heap := h' }) : wpAny (model prog w) A (call (.type "zip") [.ref a, .ref b]) Q E s := by
  refine callType_new F.called_zip (by decide) (F.typeCall_zip_2 _ _) (F.newCall_zip_2 _ _) (fun ob => F.args_object_init_3 ob _ _) F.entry_zip_new (mixMade a b us vs) ⟨t1, t2, ?_⟩
  have n1 : (mx1 s.heap a).objs.size = s.heap.objs.size + 1 := Heap.size_push ..
  have n2 : (mx2 s.heap a b).objs.size = s.heap.objs.size + 2 := by rw [Heap.size_push, n1]
  have n3 : (mx3 s.heap a b).objs.size = s.heap.objs.size + 3 := by rw [Heap.size_push, n2]
  have n4 : (mx4 s.heap a b).objs.size = s.heap.objs.size + 4 := by rw [Heap.size_push, n3]
  have on : ∀ {h : Heap} {c : Addr} {o p : Obj}, h.get? c = some o → (h.push p).get? c = some o := fun e => Heap.get?_push_of_some _ e
  have f5 : (mx5 s.heap a b).get? (mx4 s.heap a b).objs.size = some _ := Heap.get?_push_size _ rfl
  have f4 : (mx5 s.heap a b).get? (mx3 s.heap a b).objs.size = some _ := on (Heap.get?_push_size _ rfl)
  have f3 : (mx5 s.heap a b).get? (mx2 s.heap a b).objs.size = some _ := on (on (Heap.get?_push_size _ rfl))
  have f2 : (mx5 s.heap a b).get? (mx1 s.heap a).objs.size = some _ := on (on (on (Heap.get?_push_size _ rfl)))
  have f1 : (mx5 s.heap a b).get? s.heap.objs.size = some _ := on (on (on (on (Heap.get?_push_size _ rfl))))
  rw [n2, n3, n4] at f5
  rw [n1, n2] at f3
  rw [n3] at f4
  rw [n1] at f2
  show _ ∧ _
  rw [n4]
  exact ⟨⟨_, f5, rfl⟩, q _ ⟨f5, f3, f4, ⟨_, f1, rfl, rfl⟩, _, f2, rfl, rfl⟩ fun c o e => on (on (on (on (on e))))⟩
def iMix (K : PySem.W.Frag) (ta : TA) : L2.TI := fun σ H R => ta σ H fun vs H1 => ∃ a b xs ys, vs = [.ref a, .ref b] ∧ SqT K H1 a xs ∧ SqL K H1 b ys ∧ R (ItzM K a b) H1
theorem pi_mix {X : Cx} {e e2 : Expr} {ta : TA} {p pos tp : Pos} {el : List Expr} {n : Nat} (hg : Gl X "zip") (hm : X.mg "zip" = none) (ha : PA X [e, e2] ta)
    (h1 : starEach [e, e2] X.env = (false, eval e X.env) :: starEach [e2] X.env := by rfl) (h2 : (backTo pos (starEach [e2] X.env)).any (·.1) = false := by rfl) : PI X (.Tuple el n tp) (.Call (.Name "zip" p) [e, e2] [] pos) (iMix X.K ta) := by
  constructor
  intro pins s σ H R I h
  refine Call_ (ld_blt I hg hm PyProof.Rows.boot_zip (PyProof.Rows.callWith_type1 (thn (ha.run pos pins s σ H _ I h) fun us s1 hz => ?_) h1 h2))
  obtain ⟨vs, H1, J, va, a, b, xs, ys, rfl, hx, hy, q⟩ := hz
  match us, va with
  | [_, _], .cons r1 (.cons r2 .nil) =>
    cases r1
    cases r2
    obtain ⟨as, rv1, t1, _⟩ := J.tuple hx
    obtain ⟨bs, rv2, t2, _⟩ := J.list hy
    have la : a < s1.heap.objs.size := t1.elim fun _ z => Heap.lt_size z.1
    refine mixCall t1 t2.isList fun h' st kp => wpAny_pyIter_zip st.1 ?_
    refine ⟨s1.heap.objs.size + 4, [s1.heap.objs.size + 4, s1.heap.objs.size + 2, s1.heap.objs.size + 3, s1.heap.objs.size, s1.heap.objs.size + 1], _, _, H1, rfl, J.kept (t' := s1.toks) kp, turnMix (PySem.W.ktu_apart s1.heap.objs.size a b la t2.lt), ⟨st.1, st.2.1, ⟨_, _, st.2.2.1⟩, st.2.2.2.1, st.2.2.2.2⟩, fun c hc => ?_, q⟩
    have le : s1.heap.objs.size ≤ c := by
      simp only [List.mem_cons, List.not_mem_nil, or_false] at hc
      rcases hc with rfl | rfl | rfl | rfl | rfl
      · exact Nat.le_add_right _ _
      · exact Nat.le_add_right _ _
      · exact Nat.le_add_right _ _
      · exact Nat.le_refl _
      · exact Nat.le_add_right _ _
    exact J.fpOk le (J.hok.fresh le)
theorem walk_mix {K : PySem.W.Frag} {a b : Addr} {xs ys : List V} (hl : xs.length = ys.length) : Walk (ItzM K a b) xs.length (fun H => SqT K H a xs ∧ SqL K H b ys) (YPair (fun i => xs[i]?) (fun i => ys[i]?)) where
  goes i H hi q := ⟨xs, ys, xs[i], ys[i]'(hl ▸ hi), q.1, q.2, List.getElem?_eq_getElem hi, List.getElem?_eq_getElem (hl ▸ hi)⟩
  stops H q := ⟨xs, ys, q.1, q.2, .inl (Nat.le_refl _)⟩
  yields i H v H' _ q y := by
    obtain ⟨c, x, z, k1, k2, k3, k4, k5⟩ := y
    exact ⟨c, x, z, k1, k2, k3, k4 xs q.1, k5 ys q.2⟩
end
/-! ### walks that pair, and more builtins -/
section
variable {P : Program} {w : World} {K : PySem.W.Frag}
theorem vw_of {F : Hp} {J : It} {n : Nat} {G : Hp → Prop} {f g : Nat → Option V} {ds : List DT} (wk : Walk J n G (YPair f g)) (hG : ∀ F' H, Fle F F' → Le F' H → G H)
    (hd : ∀ i x y, i < n → f i = some x → g i = some y → ∃ dx dy, Dat P w K F x dx ∧ Dat P w K F y dy ∧ ds[i]? = some (pairD dx dy)) (hn : ds.length = n) : VW P w K F J ds := by
  subst hn
  refine ⟨fun i H F' l le h => wk.goes i H h (hG F' H l le), fun H F' l le => wk.stops H (hG F' H l le), fun i H x H' F' l le h y => ?_⟩
  obtain ⟨T, x1, x2, rfl, nT, rfl, f1, f2⟩ := wk.yields i H x H' h (hG F' H l le) y
  obtain ⟨d1, d2, h1, h2, h3⟩ := hd i x1 x2 h f1 f2
  have l2 : Fle F' (upd F' T (.tup [x1, x2])) := Fle.new (le_no le nT)
  exact ⟨_, _, .new .refl nT, h3, .pr upd_same (h1.mono (l.trans l2)) (h2.mono (l.trans l2))⟩
def zipF (ds es : List DT) : List DT := List.zipWith (fun a b => pairD a b) ds es
def enumF (ds : List DT) : List DT := ds.zipIdx.map fun p => pairD (.int (p.2 : Nat)) p.1
theorem enumF_len (ds : List DT) : (enumF ds).length = ds.length := by
  unfold enumF
  rw [List.length_map, List.length_zipIdx]
theorem enumF_at {ds : List DT} {i : Nat} {d : DT} (h : ds[i]? = some d) : (enumF ds)[i]? = some (pairD (.int (i : Nat)) d) := by
  unfold enumF
  rw [List.getElem?_map, List.getElem?_zipIdx, h]
  simp
theorem zipF_at {ds es : List DT} {i : Nat} {d e : DT} (h : ds[i]? = some d) (h' : es[i]? = some e) : (zipF ds es)[i]? = some (pairD d e) := by
  unfold zipF
  rw [List.getElem?_zipWith, h, h']
def iEnL (e : EF) : IF := fun δ => (e δ).bind fun p => (frzV p.2 p.1).bind fun q => match q.1 with
  | .list ds => some (enumF ds, q.2)
  | _ => none
def iEnT (e : EF) : IF := fun δ => (e δ).bind fun p => (frzV p.2 p.1).bind fun q => match q.1 with
  | .tuple ds => some (enumF ds, q.2)
  | _ => none
theorem sqL_fle {F F' H : Hp} {a : Addr} {vs : List V} (h : F a = some (.lst vs)) (l : Fle F F') (le : Le F' H) : SqL K H a vs := SqL.of (le _ _ (l.at h fun l q => by cases q))
theorem sqT_fle {F F' H : Hp} {a : Addr} {vs : List V} (h : TupF F a vs) (l : Fle F F') (le : Le F' H) : SqT K H a vs := ((h.mono l).le le).sq
theorem li_enuL {t : TE} {e : EF} (h : LE P w K t e) : LI P w K (iEnum K (tCons t tNil)) (iEnL e) := by
  intro C F ow δ σ H r ds δ' eq Q k
  obtain ⟨⟨x1, δ1⟩, e1, eq⟩ := Option.bind_eq_some_iff.mp eq
  obtain ⟨⟨d, δ2⟩, e2, eq⟩ := Option.bind_eq_some_iff.mp eq
  refine h C F ow δ σ H r _ _ e1 _ fun v F1 ow1 H1 r1 l1 h1 => ?_
  obtain ⟨F2, ow2, l2, r2, d2⟩ := r1.freezeN h1 e2
  cases d with
  | list es =>
    cases Option.some.inj eq
    obtain ⟨a, vs, rfl, ha, hd⟩ := d2.lstE
    refine ⟨a, vs, rfl, SqL.of (r2.le _ _ ha), k _ F2 ow2 H1 r2 (l1.trans l2) (vw_of walk_enum (fun F' H l le => sqL_fle ha l le) (fun i x y hi f1 f2 => ?_) (by rw [enumF_len, hd.len]))⟩
    cases Option.some.inj f1
    obtain ⟨dy, h3, h4⟩ := hd.get f2
    exact ⟨_, dy, .int _, h4, enumF_at h3⟩
  | _ => cases eq
theorem li_enuT {t : TE} {e : EF} (h : LE P w K t e) : LI P w K (iEnuT K (tCons t tNil)) (iEnT e) := by
  intro C F ow δ σ H r ds δ' eq Q k
  obtain ⟨⟨x1, δ1⟩, e1, eq⟩ := Option.bind_eq_some_iff.mp eq
  obtain ⟨⟨d, δ2⟩, e2, eq⟩ := Option.bind_eq_some_iff.mp eq
  refine h C F ow δ σ H r _ _ e1 _ fun v F1 ow1 H1 r1 l1 h1 => ?_
  obtain ⟨F2, ow2, l2, r2, d2⟩ := r1.freezeN h1 e2
  cases d with
  | tuple es =>
    cases Option.some.inj eq
    obtain ⟨a, vs, rfl, ha, hd⟩ := d2.tupE
    refine ⟨a, vs, rfl, (ha.le r2.le).sq, k _ F2 ow2 H1 r2 (l1.trans l2) (vw_of walk_enuT (fun F' H l le => sqT_fle ha l le) (fun i x y hi f1 f2 => ?_) (by rw [enumF_len, hd.len]))⟩
    cases Option.some.inj f1
    obtain ⟨dy, h3, h4⟩ := hd.get f2
    exact ⟨_, dy, .int _, h4, enumF_at h3⟩
  | _ => cases eq
/-! zip -/
theorem wk_mix {a b : Addr} {xs ys : List V} : Walk (ItzM K a b) (min xs.length ys.length) (fun H => SqT K H a xs ∧ SqL K H b ys) (YPair (fun i => xs[i]?) (fun i => ys[i]?)) := by
  refine ⟨fun i _ hi q => ?_, fun _ q => ⟨xs, ys, q.1, q.2, by omega⟩, fun i H v H' _ q y => ?_⟩
  · have h1 : i < xs.length := by omega
    have h2 : i < ys.length := by omega
    exact ⟨xs, ys, xs[i], ys[i], q.1, q.2, by simp [h1], by simp [h2]⟩
  · obtain ⟨T, x, z, h1, h2, h3, h4, h5⟩ := y
    exact ⟨T, x, z, h1, h2, h3, h4 xs q.1, h5 ys q.2⟩
theorem wk_zipT {a b : Addr} {xs ys : List V} : Walk (RZ.ItzT K a b) (min xs.length ys.length) (fun H => SqT K H a xs ∧ SqT K H b ys) (YPair (fun i => xs[i]?) (fun i => ys[i]?)) := by
  refine ⟨fun i _ hi q => ?_, fun _ q => ⟨xs, ys, q.1, q.2, by omega⟩, fun i H v H' _ q y => ?_⟩
  · have h1 : i < xs.length := by omega
    have h2 : i < ys.length := by omega
    exact ⟨xs, ys, xs[i], ys[i], q.1, q.2, by simp [h1], by simp [h2]⟩
  · obtain ⟨T, x, z, h1, h2, h3, h4, h5⟩ := y
    exact ⟨T, x, z, h1, h2, h3, h4 xs q.1, h5 ys q.2⟩
theorem zipF_len (ds es : List DT) : (zipF ds es).length = min ds.length es.length := by
  unfold zipF
  rw [List.length_zipWith]
/-- both sides found, put away -/
def eZ (ea eb : EF) : DS → Option ((DT × DT) × DS) := fun δ => (ea δ).bind fun p => (eb p.2).bind fun q => (frzV q.2 p.1).bind fun x => (frzV x.2 q.1).map fun y => ((x.1, y.1), y.2)
theorem le_z {ta tb : TE} {ea eb : EF} (ha : LE P w K ta ea) (hb : LE P w K tb eb) {C : Cn} {F : Hp} {ow : Addr → Option Nat} {δ : DS} {σ : L2.St} {H : Hp} (r0 : R P w K C F ow δ σ H) {x y : DT} {δ' : DS} (e : eZ ea eb δ = some ((x, y), δ')) (Q : List V → Hp → Prop)
    (k : ∀ v u F' ow' H', R P w K C F' ow' δ' σ H' → Nx C F ow H F' ow' H' → Dat P w K F' v x → Dat P w K F' u y → Q [v, u] H') : tCons ta (tCons tb tNil) σ H Q := by
  obtain ⟨⟨x1, δ1⟩, e1, e⟩ := Option.bind_eq_some_iff.mp e
  obtain ⟨⟨x2, δ2⟩, e2, e⟩ := Option.bind_eq_some_iff.mp e
  obtain ⟨⟨d1, δ3⟩, e3, e⟩ := Option.bind_eq_some_iff.mp e
  obtain ⟨⟨d2, δ4⟩, e4, e⟩ := Option.map_eq_some_iff.mp e
  cases e
  refine ha C F ow δ σ H r0 _ _ e1 _ fun v F1 ow1 H1 r1 l1 h1 => hb C F1 ow1 δ1 σ H1 r1 _ _ e2 _ fun u F2 ow2 H2 r2 l2 h2 => ?_
  obtain ⟨F3, ow3, l3, r3, g3⟩ := r2.freezeN (h1.mono l2.le) e3
  obtain ⟨F4, ow4, l4, r4, g4⟩ := r3.freezeN (h2.mono l3.le) e4
  exact k v u F4 ow4 H2 r4 (l1.trans (l2.trans (l3.trans l4))) (g3.mono l4.le) g4
def zL : DT → Option (List DT)
  | .list ds => some ds
  | _ => none
def zT : DT → Option (List DT)
  | .tuple ds => some ds
  | _ => none
def iZ (f g : DT → Option (List DT)) (ea eb : EF) : IF := fun δ => (eZ ea eb δ).bind fun p => (f p.1.1).bind fun xs => (g p.1.2).map fun ys => (zipF xs ys, p.2)
abbrev iZTT := iZ zT zT
abbrev iZLL := iZ zL zL
abbrev iZTL := iZ zT zL
theorem zL_at {d : DT} {xs : List DT} (h : zL d = some xs) : d = .list xs := by
  cases d with
  | list ds => rw [Option.some.inj h]
  | _ => cases h
theorem zT_at {d : DT} {xs : List DT} (h : zT d = some xs) : d = .tuple xs := by
  cases d with
  | tuple ds => rw [Option.some.inj h]
  | _ => cases h
theorem zip_dat {F : Hp} {vs us : List V} {ds es : List DT} (hd : Dats P w K F vs ds) (he : Dats P w K F us es) : ∀ i x y, i < min vs.length us.length → vs[i]? = some x → us[i]? = some y → ∃ dx dy, Dat P w K F x dx ∧ Dat P w K F y dy ∧ (zipF ds es)[i]? = some (pairD dx dy) := fun i x y _ f1 f2 => by
  obtain ⟨dx, h1, h2⟩ := hd.get f1
  obtain ⟨dy, h3, h4⟩ := he.get f2
  exact ⟨dx, dy, h2, h4, zipF_at h1 h3⟩
theorem li_zipTT {ta tb : TE} {ea eb : EF} (ha : LE P w K ta ea) (hb : LE P w K tb eb) : LI P w K (RZ.iZipA K (tCons ta (tCons tb tNil))) (iZTT ea eb) := by
  intro C F ow δ σ H r ds δ' eq Q k
  obtain ⟨⟨⟨x, y⟩, δ1⟩, e1, eq⟩ := Option.bind_eq_some_iff.mp eq
  obtain ⟨xs, e2, eq⟩ := Option.bind_eq_some_iff.mp eq
  obtain ⟨ys, e3, eq⟩ := Option.map_eq_some_iff.mp eq
  cases eq
  refine le_z ha hb r e1 _ fun v u F1 ow1 H1 r1 l1 h1 h2 => ?_
  dsimp only at e2 e3
  rw [zT_at e2] at h1
  rw [zT_at e3] at h2
  obtain ⟨a, vs, rfl, a1, a2⟩ := h1.tupE
  obtain ⟨b, us, rfl, b1, b2⟩ := h2.tupE
  exact ⟨a, b, vs, us, rfl, .inr ⟨(a1.le r1.le).sq, (b1.le r1.le).sq, k _ F1 ow1 H1 r1 l1 (vw_of wk_zipT (fun F' H l le => ⟨sqT_fle a1 l le, sqT_fle b1 l le⟩) (zip_dat a2 b2) (by rw [zipF_len, a2.len, b2.len]))⟩⟩
theorem li_zipLL {ta tb : TE} {ea eb : EF} (ha : LE P w K ta ea) (hb : LE P w K tb eb) : LI P w K (RZ.iZipA K (tCons ta (tCons tb tNil))) (iZLL ea eb) := by
  intro C F ow δ σ H r ds δ' eq Q k
  obtain ⟨⟨⟨x, y⟩, δ1⟩, e1, eq⟩ := Option.bind_eq_some_iff.mp eq
  obtain ⟨xs, e2, eq⟩ := Option.bind_eq_some_iff.mp eq
  obtain ⟨ys, e3, eq⟩ := Option.map_eq_some_iff.mp eq
  cases eq
  refine le_z ha hb r e1 _ fun v u F1 ow1 H1 r1 l1 h1 h2 => ?_
  dsimp only at e2 e3
  rw [zL_at e2] at h1
  rw [zL_at e3] at h2
  obtain ⟨a, vs, rfl, a1, a2⟩ := h1.lstE
  obtain ⟨b, us, rfl, b1, b2⟩ := h2.lstE
  exact ⟨a, b, vs, us, rfl, .inl ⟨SqL.of (r1.le _ _ a1), SqL.of (r1.le _ _ b1), k _ F1 ow1 H1 r1 l1 (vw_of (walk_zip rfl) (fun F' H l le => ⟨sqL_fle a1 l le, sqL_fle b1 l le⟩) (zip_dat a2 b2) (by rw [zipF_len, a2.len, b2.len]))⟩⟩
theorem li_zipTL {ta tb : TE} {ea eb : EF} (ha : LE P w K ta ea) (hb : LE P w K tb eb) : LI P w K (iMix K (tCons ta (tCons tb tNil))) (iZTL ea eb) := by
  intro C F ow δ σ H r ds δ' eq Q k
  obtain ⟨⟨⟨x, y⟩, δ1⟩, e1, eq⟩ := Option.bind_eq_some_iff.mp eq
  obtain ⟨xs, e2, eq⟩ := Option.bind_eq_some_iff.mp eq
  obtain ⟨ys, e3, eq⟩ := Option.map_eq_some_iff.mp eq
  cases eq
  refine le_z ha hb r e1 _ fun v u F1 ow1 H1 r1 l1 h1 h2 => ?_
  dsimp only at e2 e3
  rw [zT_at e2] at h1
  rw [zL_at e3] at h2
  obtain ⟨a, vs, rfl, a1, a2⟩ := h1.tupE
  obtain ⟨b, us, rfl, b1, b2⟩ := h2.lstE
  exact ⟨a, b, vs, us, rfl, (a1.le r1.le).sq, SqL.of (r1.le _ _ b1), k _ F1 ow1 H1 r1 l1 (vw_of wk_mix (fun F' H l le => ⟨sqT_fle a1 l le, sqL_fle b1 l le⟩) (zip_dat a2 b2) (by rw [zipF_len, a2.len, b2.len]))⟩
/-! numbers -/
def fMax2 : List DT → Option DT
  | [.int i, .int j] => some (.int (if j > i then j else i))
  | _ => none
def fMin2 : List DT → Option DT
  | [.int i, .int j] => some (.int (if j < i then j else i))
  | _ => none
theorem two_i {F H : Hp} {vs : List V} {i j : Int} (h : Paired (Ob P w K F H) vs [.int i, .int j]) : vs = [.int i, .int j] := two_int h
theorem cbl_max2 : CbL P w K (fun xs H Q => ∃ i j, xs = [.int i, .int j] ∧ Q (.int (if j > i then j else i)) H) fMax2 := by
  intro F H vs ds dz le hv e Q k
  unfold fMax2 at e
  split at e
  · cases Option.some.inj e
    exact ⟨_, _, two_i hv, k _ F H .refl (.int _)⟩
  · cases e
theorem cbl_min2 : CbL P w K (fun xs H Q => ∃ i j, xs = [.int i, .int j] ∧ Q (.int (if j < i then j else i)) H) fMin2 := by
  intro F H vs ds dz le hv e Q k
  unfold fMin2 at e
  split at e
  · cases Option.some.inj e
    exact ⟨_, _, two_i hv, k _ F H .refl (.int _)⟩
  · cases e
def fAbs : List DT → Option DT
  | [.int i] => some (.int (if i < 0 then -i else i))
  | _ => none
theorem cbl_abs : CbL P w K (fun xs H Q => ∃ i, xs = [.int i] ∧ Q (.int (if i < 0 then -i else i)) H) fAbs := by
  intro F H vs ds dz le hv e Q k
  unfold fAbs at e
  split at e
  · cases Option.some.inj e
    exact ⟨_, one_int hv, k _ F H .refl (.int _)⟩
  · cases e
def fInt : List DT → Option DT
  | [.int i] => some (.int i)
  | [.bool c] => some (.int (if c then 1 else 0))
  | _ => none
theorem cbl_int : CbL P w K (fun xs H Q => (∃ i, xs = [.int i] ∧ Q (.int i) H) ∨ ∃ k, xs = [.bl k] ∧ Q (.int (if k then 1 else 0)) H) fInt := by
  intro F H vs ds dz le hv e Q k
  unfold fInt at e
  split at e
  · cases Option.some.inj e
    exact .inl ⟨_, one_int hv, k _ F H .refl (.int _)⟩
  · cases Option.some.inj e
    obtain ⟨v, rfl, hx⟩ := one_ob hv
    cases hx
    exact .inr ⟨_, rfl, k _ F H .refl (.int _)⟩
  · cases e
/-! t * n -/
def fRepT : DT → DT → Option DT
  | .tuple ds, .int n => if 0 ≤ n ∧ n ≤ 1000 ∧ ds.length ≤ 1000 then some (.tuple (List.replicate n.toNat ds).flatten) else none
  | _, _ => none
theorem opl_repT : OpL P w K (rRepF K) fRepT := by
  intro F H x y dx dy dz le hx hy e Q k
  unfold fRepT at e
  split at e
  · next ds n =>
    split at e
    · next hc =>
      cases Option.some.inj e
      cases hy
      obtain ⟨a, vs, rfl, hf, ha, hd⟩ := hx.tupE le
      refine ⟨a, n, vs, rfl, rfl, ha, hc.1, hc.2.1, by rw [hd.len]; exact hc.2.2, fun h => k _ F H .refl ?_, fun _ _ p o np nd => k _ _ _ (.new .refl np) (.tup ⟨o, upd_same, nd⟩ ((hd.rep _).mono (Fle.new (le_no le np))))⟩
      have : (List.replicate n.toNat ds).flatten = ds := by
        rcases h with rfl | rfl
        · cases hd
          simp
        · simp
      rw [this]
      exact .tup hf hd
    · cases e
  · cases e
end
/-! ### sum of a tuple, list(range(n)) -/
section
variable {X : Cx}
theorem tup_total {prog : Program} {w : World} {A : Around} {E : Value → Shared → Prop} {s : Shared} {l : Addr} {xs : Array (Int × Tok)} {Q : Value → Shared → Prop} (hh : A.handled = none) (hl : s.heap.IsTuple l (intItems xs))
    (h : ∀ h' tk t', (∀ b o, s.heap.get? b = some o → h'.get? b = some o) → Q (.int (preSum (numAt xs) xs.size) t') { s with heap := h', toks := tk }) : wpAny (model prog w) A (call (.builtin "sum") [.ref l]) Q E s := by
  have lt : l < s.heap.objs.size := by
    obtain ⟨o, e, _⟩ := hl
    exact Heap.lt_size e
  have nn : (s.heap.push { cls := .type "tuple_iterator", data := .fields #[.ref l, .int 0 0] }).objs.size = s.heap.objs.size + 1 := Heap.size_push _ _
  refine call_sum_walkG (wpAny_pyIter_tuple hl ⟨_, _, _, _, _, _, numAt xs, rfl, Walks.tuple (A := A.in1) hh _ l (Nat.ne_of_lt lt) (intItems xs), ⟨⟨_, Heap.get?_push_size _ rfl, rfl, rfl⟩, ?_⟩, fun b hb => ?_, (fun _ _ => intItems_at), fun h' tk t' hk => ?_⟩)
  · obtain ⟨o, e, r⟩ := hl
    exact ⟨o, Heap.get?_push_of_some _ e, r⟩
  · show b < (s.heap.push { cls := .type "tuple_iterator", data := .fields #[.ref l, .int 0 0] }).objs.size
    rw [nn]
    simp only [List.mem_cons, List.not_mem_nil, or_false] at hb
    rcases hb with rfl | rfl
    · exact Nat.lt_succ_self _
    · exact Nat.lt_succ_of_lt lt
  · have z := h h' tk t' fun b o e => hk b o (fun hm => by
      simp only [List.mem_cons, List.not_mem_nil, or_false] at hm
      rw [hm] at e
      exact absurd (Heap.lt_size e) (Nat.lt_irrefl _)) (Heap.get?_push_of_some _ e)
    simpa [intItems] using z
theorem cr_sumT (hc : X.calm = true) : CallR X (.builtin "sum") (fun vs H Q => ∃ (a : Addr) (ns : List Int), vs = [V.ref a] ∧ SqT X.K H a (ns.map V.int) ∧ Q (.int ns.sum) H) := by
  intro pins s σ H vs us Q I r h
  obtain ⟨a, ns, rfl, hs, q⟩ := h
  obtain ⟨its, rv, hl, _⟩ := I.tuple hs
  rw [Vals.ref1 r]
  obtain ⟨xs, e⟩ := rv.ints.allInts.items
  have hn : numsOf (intItems xs).toList = ns := by rw [← e]; exact rv.ints.numsOf
  rw [nums_intItems] at hn
  rw [e] at hl
  refine tup_total (I.ok.hd hc) hl fun h' tk t' hk => ?_
  rw [preSum_eq, List.take_of_length_le (by simp), hn]
  exact ⟨.int _, H, I.kept hk, ⟨_, rfl⟩, q⟩
theorem cr_rangeN : CallR X (.type "range") (fun vs H Q => ∃ j, vs = [V.int j] ∧ ∀ p, H p = none → Q (.ref p) (upd H p (.rng 0 j))) := by
  intro pins s σ H vs us Q I r h
  obtain ⟨j, rfl, q⟩ := h
  obtain ⟨u, rfl, ⟨t, rfl⟩⟩ := vals1 r
  refine call_range_1 ⟨.ref s.heap.objs.size, upd H s.heap.objs.size (.rng 0 j), I.laid (t' := s.toks + 1 + 1) (fun b o e => Heap.get?_push_of_some _ e) (Nat.le_refl _) ?_, rfl, q _ (I.hok.fresh (Nat.le_refl _))⟩
  exact ⟨s.toks, t, s.toks + 1, Heap.get?_push_size _ rfl⟩
def upTo (n : Nat) : List Int := (List.range n).map fun (i : Nat) => (i : Int)
theorem vals_upTo : ∀ (n : Nat) (vs : List Value), vs.length = n → (∀ (j : Nat) (v : Value), vs[j]? = some v → ∃ t, v = .int ((j : Nat) : Int) t) → Vals ((upTo n).map V.int) vs := by
  intro n
  induction n with
  | zero =>
    intro vs hl _
    cases vs with
    | nil => exact .nil
    | cons x r => cases hl
  | succ n ih =>
    intro vs hl hv
    have hne : vs ≠ [] := fun e => by rw [e] at hl; cases hl
    have e := List.dropLast_concat_getLast hne
    have h1 := ih vs.dropLast (by rw [List.length_dropLast, hl]; rfl) (fun j v hj => hv j v (by
      rw [← e]
      rw [List.getElem?_append_left (List.getElem?_eq_some_iff.mp hj).1]
      exact hj))
    obtain ⟨t, et⟩ := hv n (vs.getLast hne) (by
      rw [List.getLast_eq_getElem]
      have : vs.length - 1 = n := by omega
      simp only [this]
      exact List.getElem?_eq_getElem (by omega))
    have e2 : upTo (n + 1) = upTo n ++ [(n : Int)] := by
      unfold upTo
      rw [List.range_succ, List.map_append]
      rfl
    rw [e2, List.map_append, ← e]
    exact Vals.append h1 (.cons ⟨t, et⟩ .nil)
theorem call_listR (hc : X.calm = true) : CallR X (.type "list") (fun vs H Q => ∃ (r : Addr) (n : Nat), vs = [.ref r] ∧ H r = some (.rng 0 (n : Int)) ∧ n ≤ 1000 ∧ ∀ l, H l = none → Q (.ref l) (upd H l (.lst ((upTo n).map V.int)))) := by
  intro pins s σ H xs us Q I r h
  obtain ⟨p, n, rfl, hp, hn, q⟩ := h
  obtain ⟨u, rfl, rx⟩ := vals1 r
  cases rx
  obtain ⟨t1, t2, t3, ho⟩ := I.hok p _ hp
  have hsz : Builtin.Range.rangeSize 0 (n : Int) 1 = (n : Int) := by
    rw [rangeSize_one]
    split <;> omega
  refine call_list_range (n := n) (I.ok.hd hc) ho ?_ hsz (by omega) fun h' tk acc' c' hk hS hacc => ?_
  · exact small_one (by decide) (by decide) (by omega) (by omega)
  · have hv : Vals ((upTo n).map V.int) acc'.toList := vals_upTo n acc'.toList (by rw [Array.length_toList]; exact hacc.1) fun j v hj => by
      obtain ⟨t, e⟩ := hacc.2 j v (by rw [← Array.getElem?_toList]; exact hj)
      exact ⟨t, by rw [e]; simp⟩
    refine ⟨.ref s.heap.objs.size, _, I.laid (t' := tk) hk (Nat.le_refl _) (show ObjOk X.prog X.w _ h' _ (.lst ((upTo n).map V.int)) from ⟨?_, acc'.toList, c', hv, by simpa using hS⟩), rfl, q _ (I.hok.fresh (Nat.le_refl _))⟩
    show ((upTo n).map V.int).length ≤ sizeLine
    unfold upTo
    rw [List.length_map, List.length_map, List.length_range]
    exact Nat.le_trans hn (by decide)
end
/-! ### keys that are nested tuples -/
mutual
def nkOf : DT → Option NestedKey
  | .none => some .none
  | .int i => some (.num i)
  | .str z => some (.text z)
  | .tuple ds => (nksOf ds).map .tup
  | .bool _ => none
  | .list _ => none
  | .dict _ => none
def nksOf : List DT → Option (List NestedKey)
  | [] => some []
  | d :: r => (nkOf d).bind fun k => (nksOf r).map fun ks => k :: ks
end
mutual
theorem nk_data : ∀ {d : DT} {k : NestedKey}, nkOf d = some k → k.data = d
  | .none, k, e => by
    cases Option.some.inj (show some NestedKey.none = some k from by simpa [nkOf] using e)
    simp [NestedKey.data]
  | .int i, k, e => by
    cases Option.some.inj (show some (NestedKey.num i) = some k from by simpa [nkOf] using e)
    simp [NestedKey.data]
  | .str z, k, e => by
    cases Option.some.inj (show some (NestedKey.text z) = some k from by simpa [nkOf] using e)
    simp [NestedKey.data]
  | .tuple ds, k, e => by
    rw [nkOf] at e
    obtain ⟨ks, h1, rfl⟩ := Option.map_eq_some_iff.mp e
    simp only [NestedKey.data]
    rw [nks_data h1]
  | .bool _, _, e => by simp [nkOf] at e
  | .list _, _, e => by simp [nkOf] at e
  | .dict _, _, e => by simp [nkOf] at e
theorem nks_data : ∀ {ds : List DT} {ks : List NestedKey}, nksOf ds = some ks → NestedKey.datas ks = ds
  | [], ks, e => by
    cases Option.some.inj (show some [] = some ks from by simpa [nksOf] using e)
    simp [NestedKey.datas]
  | d :: r, ks, e => by
    rw [nksOf] at e
    obtain ⟨k, h1, e⟩ := Option.bind_eq_some_iff.mp e
    obtain ⟨ks', h2, rfl⟩ := Option.map_eq_some_iff.mp e
    simp only [NestedKey.datas]
    rw [nk_data h1, nks_data h2]
end
mutual
theorem data_nk : ∀ k : NestedKey, nkOf k.data = some k
  | .none => by simp [NestedKey.data, nkOf]
  | .num i => by simp [NestedKey.data, nkOf]
  | .text z => by simp [NestedKey.data, nkOf]
  | .tup ks => by
    simp only [NestedKey.data, nkOf]
    rw [datas_nks ks]
    rfl
theorem datas_nks : ∀ ks : List NestedKey, nksOf (NestedKey.datas ks) = some ks
  | [] => by simp [NestedKey.datas, nksOf]
  | k :: r => by
    simp only [NestedKey.datas, nksOf]
    rw [data_nk k, datas_nks r]
    rfl
end
def eqK (a b : DT) : Bool := decide (nkOf a = nkOf b)
theorem eqK_data (a b : NestedKey) : eqK a.data b.data = decide (a = b) := by
  unfold eqK
  rw [data_nk, data_nk]
  by_cases h : a = b
  · rw [h]
    simp
  · rw [decide_eq_false h, decide_eq_false fun e => h (Option.some.inj e)]
section
variable {P : Program} {w : World} {K : PySem.W.Frag} {F H : Hp}
theorem Le.fle (h : Le F H) : Fle F H := fun a o e => .inl (h a o e).symm
mutual
theorem Dat.nest {h : Heap} (hok : HOk P w H h) : ∀ {v : V} {d : DT} {u : Value} {k : NestedKey}, Dat P w K H v d → RelV v u → nkOf d = some k → NestedIs h k u
  | _, _, u, k, .non, r, e => by
    cases Option.some.inj (show some NestedKey.none = some k from by simpa [nkOf] using e)
    cases r
    exact .none
  | _, _, u, k, .bl b, r, e => by simp [nkOf] at e
  | _, _, u, k, .int i, r, e => by
    cases Option.some.inj (show some (NestedKey.num i) = some k from by simpa [nkOf] using e)
    obtain ⟨t, rfl⟩ := r
    exact .int i t
  | _, _, u, k, .str z, r, e => by
    cases Option.some.inj (show some (NestedKey.text z) = some k from by simpa [nkOf] using e)
    obtain ⟨t, rfl⟩ := r
    exact .text z t
  | _, _, u, k, .scr _, r, e => by simp [nkOf, scrD] at e
  | _, _, u, k, .lst _ _, r, e => by simp [nkOf] at e
  | _, _, u, k, @Dat.tup _ _ _ _ a vs ds ha hd, r, e => by
    rw [nkOf] at e
    obtain ⟨ks, h1, rfl⟩ := Option.map_eq_some_iff.mp e
    cases (show u = Value.ref a from r)
    obtain ⟨ob, ha, _⟩ := ha
    obtain ⟨_, _, its, rel, o, ho, hc, n', hdt⟩ := (show _ ∧ _ ∧ ∃ its, _ from hok a _ ha)
    exact .tup ho hc hdt (by simpa using Dats.nest hok hd rel h1)
  | _, _, u, k, .pr _ _ _, r, e => by simp [nkOf] at e
  | _, _, u, k, .dK _ _ _ _, r, e => by simp [nkOf] at e
  | _, _, u, k, .dX _ _ _ _ _ _ _ _, r, e => by simp [nkOf] at e
theorem Dats.nest {h : Heap} (hok : HOk P w H h) : ∀ {vs : List V} {ds : List DT} {us : List Value} {ks : List NestedKey}, Dats P w K H vs ds → Vals vs us → nksOf ds = some ks → NestedAll h ks us
  | _, _, us, ks, .nil, r, e => by
    cases Option.some.inj (show some [] = some ks from by simpa [nksOf] using e)
    cases r
    exact .nil
  | _, _, us, ks, .cons a b, r, e => by
    rw [nksOf] at e
    obtain ⟨k, h1, e⟩ := Option.bind_eq_some_iff.mp e
    obtain ⟨ks', h2, rfl⟩ := Option.map_eq_some_iff.mp e
    cases r with
    | cons r1 r2 => exact .cons (Dat.nest hok a r1 h1) (Dats.nest hok b r2 h2)
end
end
/-! ### the dict in the heap -/
abbrev ListX := List (NestedKey × Addr × V)
abbrev ListXv := List (NestedKey × Addr × Value)
def RelX (p : NestedKey × Addr × V) (q : NestedKey × Addr × Value) : Prop := p.1 = q.1 ∧ p.2.1 = q.2.1 ∧ RelV p.2.2 q.2.2
/-- the keys stand where the dict has them -/
def KeysX (P : Program) (w : World) (K : PySem.W.Frag) (H : Hp) (l : ListX) : Prop := ∀ x ∈ l, Dat P w K H (.ref x.2.1) x.1.data
theorem keysX_of {P : Program} {w : World} {K : PySem.W.Frag} {F H : Hp} (le : Le F H) : ∀ {l : ListX}, Dats P w K F (l.map fun x => V.ref x.2.1) (l.map (·.1.data)) → KeysX P w K H l
  | [], _ => fun x h => by cases h
  | y :: r, d => fun x h => by
    cases d with
    | cons a b =>
      rcases List.mem_cons.mp h with rfl | h
      · exact a.mono le.fle
      · exact keysX_of le b x h
theorem dats_keys {P : Program} {w : World} {K : PySem.W.Frag} {F : Hp} : ∀ {l : ListX}, KeysX P w K F l → Dats P w K F (l.map fun x => V.ref x.2.1) (l.map (·.1.data))
  | [], _ => .nil
  | y :: r, d => .cons (d y List.mem_cons_self) (dats_keys fun x h => d x (List.mem_cons_of_mem _ h))
theorem paired_mem {α β : Type} {R : α → β → Prop} {l : List α} {m : List β} (h : Paired R l m) : ∀ y ∈ m, ∃ x ∈ l, R x y := by
  induction h with
  | nil => intro y h; cases h
  | cons a b ih =>
    intro y h
    rcases List.mem_cons.mp h with rfl | h
    · exact ⟨_, List.mem_cons_self, a⟩
    · obtain ⟨x, h1, h2⟩ := ih y h
      exact ⟨x, List.mem_cons_of_mem _ h1, h2⟩
theorem relX_fst {l : ListX} {m : ListXv} (h : Paired RelX l m) : m.map (·.1) = l.map (·.1) := by
  induction h with
  | nil => rfl
  | cons a b ih => rw [List.map_cons, List.map_cons, ih, a.1]
def atX (l : ListX) (k : NestedKey) : Option V := (l.find? fun x => decide (x.1 = k)).map (·.2.2)
def storedX (l : ListX) (k : NestedKey) (b : Addr) (v : V) : ListX := if (l.any fun x => decide (x.1 = k)) = true then l.map (fun x => if x.1 = k then (x.1, x.2.1, v) else x) else l ++ [(k, b, v)]
theorem relX_at {l : ListX} {m : ListXv} (h : Paired RelX l m) (k : NestedKey) : (∃ v p, atX l k = some v ∧ PySem.atKey m k = some p ∧ RelV v p.2) ∨ (atX l k = none ∧ PySem.atKey m k = none) := by
  unfold atX PySem.atKey
  induction h with
  | nil => exact .inr ⟨rfl, rfl⟩
  | @cons p q l m a b ih =>
    rw [List.find?_cons, List.find?_cons, ← a.1]
    by_cases c : p.1 = k
    · rw [decide_eq_true c]
      exact .inl ⟨p.2.2, q.2, rfl, rfl, a.2.2⟩
    · rw [decide_eq_false c]
      exact ih
theorem atX_some {l : ListX} {k : NestedKey} : (atX l k).isSome = l.any fun x => decide (x.1 = k) := by
  unfold atX
  rw [Option.isSome_map, Bool.eq_iff_iff, List.find?_isSome, List.any_eq_true]
theorem relX_stored {l : ListX} {m : ListXv} (h : Paired RelX l m) {k : NestedKey} {b : Addr} {v : V} {u : Value} (r : RelV v u) : Paired RelX (storedX l k b v) (PySem.storedH m k b u) := by
  have e : (PySem.atKey m k).isSome = l.any fun x => decide (x.1 = k) := by
    rw [← atX_some]
    rcases relX_at h k with ⟨v, p, h1, h2, _⟩ | ⟨h1, h2⟩
    · rw [h1, h2]
      rfl
    · rw [h1, h2]
      rfl
  unfold storedX PySem.storedH
  rw [e]
  split
  · clear e
    rename_i hc
    clear hc
    induction h with
    | nil => exact .nil
    | @cons p q l m a b ih =>
      refine .cons ?_ ih
      show RelX (if p.1 = k then (p.1, p.2.1, v) else p) (if q.1 = k then (q.1, q.2.1, u) else q)
      by_cases hk : p.1 = k
      · rw [if_pos hk, if_pos (a.1 ▸ hk)]
        exact ⟨a.1, a.2.1, r⟩
      · rw [if_neg hk, if_neg (a.1 ▸ hk)]
        exact a
  · clear e
    rename_i hc
    clear hc
    induction h with
    | nil => exact .cons ⟨rfl, rfl, r⟩ .nil
    | cons a b ih => exact .cons a ih
theorem storedX_len (l : ListX) (k : NestedKey) (b : Addr) (v : V) : (storedX l k b v).length ≤ l.length + 1 := by
  unfold storedX
  split
  · rw [List.length_map]
    omega
  · rw [List.length_append]
    exact Nat.le_refl _
theorem storedX_keys {P : Program} {w : World} {K : PySem.W.Frag} {F : Hp} {l : ListX} {k : NestedKey} {b : Addr} {v : V} (h : KeysX P w K F l) (hb : Dat P w K F (.ref b) k.data) : KeysX P w K F (storedX l k b v) := by
  intro x hx
  unfold storedX at hx
  split at hx
  · obtain ⟨y, h1, rfl⟩ := List.mem_map.mp hx
    have := h y h1
    split
    · exact this
    · exact this
  · rcases List.mem_append.mp hx with h1 | h1
    · exact h x h1
    · cases List.mem_singleton.mp h1
      exact hb
theorem storedX_depth {l : ListX} {k : NestedKey} {b : Addr} {v : V} (h : ∀ x ∈ l, x.1.depth ≤ 8) (hk : k.depth ≤ 8) : ∀ x ∈ storedX l k b v, x.1.depth ≤ 8 := by
  intro x hx
  unfold storedX at hx
  split at hx
  · obtain ⟨y, h1, rfl⟩ := List.mem_map.mp hx
    have := h y h1
    split
    · exact this
    · exact this
  · rcases List.mem_append.mp hx with h1 | h1
    · exact h x h1
    · cases List.mem_singleton.mp h1
      exact hk
section
variable {P : Program} {w : World} {K : PySem.W.Frag} {F H : Hp} {h : Heap} {a : Addr} {o : Obj} {l : ListX}
theorem dofX (hok : HOk P w H h) (ha : H a = some (DX a o)) (n : NestAt P w a o l) (ks : KeysX P w K H l) : ∃ xs : ListXv, h.DictOfH (nestedKind P w) a xs ∧ Paired RelX l xs ∧ l.length = xs.length := by
  obtain ⟨n1, n2, n3, n4, xs, es, ep, e1, e2, e3, e4⟩ := n
  have ho : h.get? a = some o := (show (_ ∧ _) from hok a _ ha).1
  refine ⟨xs, ⟨o, es, ep, ho, e1, e2, e3, fun x hx => ?_, ?_⟩, e4, Paired.length e4⟩
  · obtain ⟨y, h1, h2, h3, h4⟩ := paired_mem e4 x hx
    have h5 := (ks y h1).nest hok (u := Value.ref y.2.1) rfl (data_nk y.1)
    rw [← h2, ← h3]
    exact ⟨h5, n4 y h1⟩
  · rw [relX_fst e4]
    exact n3
theorem nest_of {xs : ListXv} {h' : Heap} {o' : Obj} (d : h'.DictOfH (nestedKind P w) a xs) (ho : h'.get? a = some o') (r : Paired RelX l xs) (hs : (a == sysModules) = false) (hl : l.length ≤ sizeLine) (hd : ∀ x ∈ l, x.1.depth ≤ 8) : NestAt P w a o' l := by
  obtain ⟨o, es, ep, h1, h2, h3, h4, h5, h6⟩ := d
  rw [ho] at h1
  cases Option.some.inj h1
  refine ⟨hs, hl, ?_, hd, xs, es, ep, h2, h3, h4, r⟩
  rw [← relX_fst r]
  exact h6
end
/-! ### rules -/
section
variable {X : Cx}
structure AtX (P : Program) (w : World) (K : PySem.W.Frag) (H : Hp) (a : Addr) (o : Obj) (l : ListX) : Prop where
  at' : H a = some (DX a o)
  nest : NestAt P w a o l
  keys : KeysX P w K H l
structure KeyX (P : Program) (w : World) (K : PySem.W.Frag) (H : Hp) (v : V) (k : NestedKey) : Prop where
  ref : ∃ b, v = .ref b
  dat : Dat P w K H v k.data
  depth : k.depth ≤ 8
theorem KeyX.is {P : Program} {w : World} {K : PySem.W.Frag} {H : Hp} {h : Heap} {b : Addr} {k : NestedKey} (hok : HOk P w H h) (x : KeyX P w K H (.ref b) k) : (nestedKind P w).is h k b := ⟨x.dat.nest hok rfl (data_nk k), x.depth⟩
def rInX (P : Program) (w : World) (K : PySem.W.Frag) (c : Bool) : R2 := fun x y H Q => ∃ a o l k, y = .ref a ∧ AtX P w K H a o l ∧ KeyX P w K H x k ∧ Q (.bl (if c = true then (atX l k).isSome else !(atX l k).isSome)) H
theorem op_inX (hu : X.A.units + 64 < cLine) : OpR X (compareOp .In) (rInX X.prog X.w X.K true) := by
  intro pins s σ H x y v u Q I rx ry h
  obtain ⟨a, o, l, k, rfl, d, kx, q⟩ := h
  obtain ⟨b, rfl⟩ := kx.ref
  cases rx
  cases ry
  obtain ⟨xs, dof, rel, _⟩ := dofX I.hok d.at' d.nest d.keys
  refine wpAny_in_heap (knd := nestedKind X.prog X.w) (show X.A.units + 1 + 8 < cLine by omega) (kx.is I.hok) d.nest.1 dof ?_
  refine ⟨_, H, I.tok _, ?_, q⟩
  rcases relX_at rel k with ⟨v, p, h1, h2, _⟩ | ⟨h1, h2⟩
  · rw [h1, h2]
    rfl
  · rw [h1, h2]
    rfl
theorem op_notInX (hu : X.A.units + 64 < cLine) : OpR X (compareOp .NotIn) (rInX X.prog X.w X.K false) := by
  intro pins s σ H x y v u Q I rx ry h
  obtain ⟨a, o, l, k, rfl, d, kx, q⟩ := h
  obtain ⟨b, rfl⟩ := kx.ref
  cases rx
  cases ry
  obtain ⟨xs, dof, rel, _⟩ := dofX I.hok d.at' d.nest d.keys
  refine PyProof.Rows.wpAny_notIn_heap (knd := nestedKind X.prog X.w) (show X.A.units + 1 + 8 < cLine by omega) (kx.is I.hok) d.nest.1 dof ?_
  refine ⟨_, H, I.tok _, ?_, q⟩
  rcases relX_at rel k with ⟨v, p, h1, h2, _⟩ | ⟨h1, h2⟩
  · rw [h1, h2]
    rfl
  · rw [h1, h2]
    rfl
def rIxX (P : Program) (w : World) (K : PySem.W.Frag) : R2 := fun x y H Q => ∃ a o l k v, x = .ref a ∧ AtX P w K H a o l ∧ KeyX P w K H y k ∧ atX l k = some v ∧ Q v H
theorem ix_dictX (hu : X.A.units + 64 < cLine) : IxR X (rIxX X.prog X.w X.K) := by
  intro value slice pins s σ H x y vx u Q I rx ry h hsub
  obtain ⟨a, o, l, k, v, rfl, d, kx, hv, q⟩ := h
  obtain ⟨b, rfl⟩ := kx.ref
  cases rx
  cases ry
  obtain ⟨xs, dof, rel, _⟩ := dofX I.hok d.at' d.nest d.keys
  rcases relX_at rel k with ⟨v', p, h1, h2, h3⟩ | ⟨h1, _⟩
  · rw [hv] at h1
    cases h1
    refine PyProof.Rows.subscriptTail_builtinR (x := p.2) (T := "dict") dof.typeIs F.slot_dict_getitem.lookup ?_ hsub
    refine wpAny_getItem_heap (knd := nestedKind X.prog X.w) (show X.A.units + 1 + 8 < cLine by omega) (kx.is I.hok) dof h2 ?_
    exact ⟨rfl, _, H, I.tok _, h3, q⟩
  · rw [hv] at h1
    cases h1
def rSetX (P : Program) (w : World) (K : PySem.W.Frag) : TSet := fun x y v H Q => ∃ a o l k b, x = .ref a ∧ y = .ref b ∧ AtX P w K H a o l ∧ KeyX P w K H y k ∧ l.length < sizeLine ∧ ∀ o', NestAt P w a o' (storedX l k b v) → Q (upd H a (DX a o'))
theorem set_dictX (hu : X.A.units + 64 < cLine) : PSet X (rSetX X.prog X.w X.K) := by
  intro pins s σ H x y v ov iv u Q I rx ry rv h
  obtain ⟨a, o, l, k, b, rfl, rfl, d, kx, hl, q⟩ := h
  cases rx
  cases ry
  obtain ⟨xs, dof, rel, hn⟩ := dofX I.hok d.at' d.nest d.keys
  refine wpAny_setItem_heap (knd := nestedKind X.prog X.w) (show X.A.units + 1 + 8 < cLine by omega) (kx.is I.hok) dof (fun h' dof' hs => ?_) (by rw [← hn]; exact Nat.le_of_lt hl)
  obtain ⟨o', es, ep, ho, _⟩ := id dof'
  have rel' : Paired RelX (storedX l k b v) (PySem.storedH xs k b u) := relX_stored rel rv
  have n' : NestAt X.prog X.w a o' (storedX l k b v) := nest_of dof' ho rel' d.nest.1 (Nat.le_trans (storedX_len l k b v) hl) (storedX_depth d.nest.2.2.2.1 kx.depth)
  refine ⟨_, d_write I (by rw [d.at']; exact True.intro) hs ⟨o', ho⟩ ?_, q o' n'⟩
  exact ⟨ho, ⟨o', ho⟩, fun h1 h2 e f => f _ e⟩
def tNewX (P : Program) (w : World) : TE := fun _ H Q => ∀ p o, H p = none → NestAt P w p o [] → Q (.ref p) (upd H p (DX p o))
theorem pe_dnewX {pos : Pos} : PE X (.Dict [] [] pos) (tNewX X.prog X.w) := by
  refine ⟨fun pins s σ H Q I h => wpAny_Dict_empty ?_⟩
  have dof : (s.heap.push { cls := Value.type "dict", data := Data.dict #[] }).DictOfH (nestedKind X.prog X.w) s.heap.objs.size [] := .new _
  have ho : (s.heap.push { cls := Value.type "dict", data := Data.dict #[] }).get? s.heap.objs.size = some { cls := Value.type "dict", data := Data.dict #[] } := Heap.get?_push_size _ rfl
  have hs : (s.heap.objs.size == sysModules) = false := by
    have := I.big
    rw [beq_eq_false_iff_ne]
    exact Nat.ne_of_gt this
  refine ⟨.ref _, _, I.laid (t' := s.toks) (fun b u e => Heap.get?_push_of_some _ e) (Nat.le_refl _) ?_, rfl, h _ _ I.fresh (nest_of dof ho .nil hs (by rw [sizeLine_eq]; exact Nat.zero_le _) fun x h => by cases h)⟩
  exact ⟨ho, ⟨_, ho⟩, fun h1 h2 e f => f _ e⟩
def tGet2X (P : Program) (w : World) (K : PySem.W.Frag) (td ty tx : TE) : TE := fun σ H Q => td σ H fun x H1 => ∃ a, x = .ref a ∧ (∃ o l, AtX P w K H1 a o l) ∧ ty σ H1 fun y H2 => tx σ H2 fun z H3 => ∃ o l k, AtX P w K H3 a o l ∧ KeyX P w K H3 y k ∧ Q ((atX l k).getD z) H3
theorem pe_dget2X {o e f : Expr} {apos cpos : Pos} {td ty tx : TE} (hu : X.A.units + 64 < cLine) (hd : PE X o td) (he : PE X e ty) (hf : PE X f tx) (m : M2 X o "get" apos e f cpos) : PE X (.Call (.Attribute o "get" apos) [e, f] [] cpos) (tGet2X X.prog X.w X.K td ty tx) := by
  refine ⟨fun pins s σ H Q I h => ?_⟩
  refine wpAny_Call_method (T := "dict") (id := "dict.get") m.base m.few m.line F.plainAttrs_dict F.slot_dict_get F.type_dict_get (thn (hd.run pins s σ H _ I h) fun u s1 ⟨x, H1, I1, rx, a, ex, ⟨ob, l, d⟩, q⟩ => ?_)
  subst ex
  obtain rfl : u = Value.ref a := rx
  obtain ⟨xs, dof, rel, _⟩ := dofX I1.hok d.at' d.nest d.keys
  refine ⟨dof.typeIs, PyProof.Rows.dictOfH_noDict dof, ?_⟩
  rw [m.trees]
  refine wpAny_dict_get2_heap (knd := nestedKind X.prog X.w) (show X.A.units + 1 + 8 < cLine by omega) d.nest.1 (thn (he.run pins s1 σ H1 _ I1 q) fun v s2 ⟨y, H2, I2, ry, q2⟩ => thn (hf.run pins s2 σ H2 _ I2 q2) fun z s3 ⟨zz, H3, I3, rz, ob3, l3, k, d3, kx, q3⟩ => ?_)
  obtain ⟨b, rfl⟩ := kx.ref
  obtain rfl : v = Value.ref b := ry
  obtain ⟨xs3, dof3, rel3, _⟩ := dofX I3.hok d3.at' d3.nest d3.keys
  refine ⟨b, k, xs3, rfl, kx.is I3.hok, dof3, _, H3, I3.tok _, ?_, q3⟩
  rcases relX_at rel3 k with ⟨v, p, h1, h2, h3⟩ | ⟨h1, h2⟩
  · rw [h1, h2]
    exact h3
  · rw [h1, h2]
    exact rz
def rLenX (P : Program) (w : World) (K : PySem.W.Frag) : List V → Hp → VK → Prop := fun xs H Q => ∃ a o l, xs = [.ref a] ∧ AtX P w K H a o l ∧ Q (.int l.length) H
theorem call_lenX : CallR X (.builtin "len") (rLenX X.prog X.w X.K) := by
  intro pins s σ H xs us Q I r h
  obtain ⟨a, o, l, rfl, d, q⟩ := h
  rw [Vals.ref1 r]
  obtain ⟨xs, dof, rel, hn⟩ := dofX I.hok d.at' d.nest d.keys
  have km : s.heap.DictKeyed (nestedKind X.prog X.w) a (pairsH xs) := ⟨xs, dof, rfl⟩
  have hl : (pairsH xs).length = l.length := by
    rw [hn]
    unfold pairsH
    rw [List.length_map]
  refine PyProof.Rows.call_len_slot (n := (pairsH xs).length) dof.typeIs F.slot_dict_len (fun Q' hq => len_keyed d.nest.1 km hq) (by omega) (by rw [hl]; have := d.nest.2.1; rw [sizeLine_eq] at this; omega) ?_
  rw [hl]
  exact ⟨.int l.length, H, I.tok _, ⟨_, rfl⟩, q⟩
end
/-! ### walks over a dict whose keys are nested tuples -/
section
variable {P : Program} {w : World} {K : PySem.W.Frag}
def ItKX (a : Addr) (o : Obj) (l : ListX) : It := ⟨fun i H => i < l.length ∧ H a = some (DX a o), fun i H x H' => H' = H ∧ ∃ y, l[i]? = some y ∧ x = .ref y.2.1, fun i H => l.length ≤ i ∧ H a = some (DX a o)⟩
def ItIX (a : Addr) (o : Obj) (l : ListX) : It := ⟨fun i H => i < l.length ∧ H a = some (DX a o), fun i H x H' => ∃ T y, H T = none ∧ l[i]? = some y ∧ x = .ref T ∧ H' = upd H T (.tup [.ref y.2.1, y.2.2]), fun i H => l.length ≤ i ∧ H a = some (DX a o)⟩
def ItVX (a : Addr) (o : Obj) (l : ListX) : It := ⟨fun i H => i < l.length ∧ H a = some (DX a o), fun i H x H' => H' = H ∧ ∃ y, l[i]? = some y ∧ x = y.2.2, fun i H => l.length ≤ i ∧ H a = some (DX a o)⟩
theorem paired_at {α β : Type} {R : α → β → Prop} {l : List α} {m : List β} (h : Paired R l m) : ∀ {i : Nat} {x : α}, l[i]? = some x → ∃ y, m[i]? = some y ∧ R x y := by
  induction h with
  | nil => intro i x h; simp at h
  | cons a b ih =>
    intro i x h
    cases i with
    | zero =>
      cases Option.some.inj h
      exact ⟨_, rfl, a⟩
    | succ i => exact ih h
theorem entry_of {es : Array DictEntry} {xs : ListXv} (e : es.toList = xs.map (entryOfKey (nestedKind P w))) {i : Nat} {y : NestedKey × Addr × Value} (h : xs[i]? = some y) : ∃ hi : i < es.size, es[i].key = .ref y.2.1 ∧ es[i].val = y.2.2 := by
  have h1 : es.toList[i]? = some (entryOfKey (nestedKind P w) y) := by rw [e, List.getElem?_map, h]; rfl
  obtain ⟨hi, h2⟩ := List.getElem?_eq_some_iff.mp h1
  refine ⟨by simpa using hi, ?_⟩
  have h3 : es[i]'(by simpa using hi) = entryOfKey (nestedKind P w) y := by simpa using h2
  rw [h3]
  exact ⟨rfl, rfl⟩
theorem lt_at {α : Type} {l : List α} {i : Nat} (h : i < l.length) : ∃ x, l[i]? = some x := ⟨_, List.getElem?_eq_getElem h⟩
theorem turn_keysX {tg : Expr} {a it : Addr} {o : Obj} {l : ListX} {es : Array DictEntry} {ep : Nat} {xs : ListXv} (e1 : o.ExactDict) (e2 : o.data = .dict es ep) (e3 : es.toList = xs.map (entryOfKey (nestedKind P w))) (rel : Paired RelX l xs) : Turn P w K tg (ItKX a o l) [it] it fun i h => h.IsKeyIter it a i es.size ep := by
  have hn : es.size = l.length := by rw [size_of_entries e3, Paired.length rel]
  have raw : ∀ {X : Cx} {pins σ H s}, L2.Inv X pins σ H s → H a = some (DX a o) → s.heap.DictRaw a es ep := fun I ha => ⟨o, (show (_ ∧ _) from I.hok a _ ha).1, e1, e2⟩
  refine ⟨List.mem_singleton.mpr rfl, fun i h t b hb => ?_, fun i h h' t k => ?_, ?_, ?_, fun A i s Q E t q => ?_⟩
  · cases List.mem_singleton.mp hb
    obtain ⟨o, h1, h2, h3⟩ := t
    exact ⟨o, h1, fun v e => by rw [h3] at e; cases e⟩
  · obtain ⟨o, h1, h2⟩ := t
    exact ⟨o, k it (List.mem_singleton.mpr rfl) o h1, h2⟩
  · rintro X rfl rfl rfl hc i pins s σ H E I fp t ⟨hi, ha⟩
    refine wpAny_pyNext_keys_item_raw t (raw I ha) (by rw [hn]; exact hi) fun h' t' hs => ?_
    obtain ⟨y, hy⟩ := lt_at hi
    obtain ⟨z, hz, r⟩ := paired_at rel hy
    obtain ⟨hi', hk, _⟩ := entry_of e3 hz
    refine ⟨_, rfl, ?_⟩
    have I' : L2.Inv X pins σ H { s with heap := h' } := I.turnedL (ch := [it]) (t' := s.toks) (fun b ob hb e => by rw [hs.2 b (fun z => hb (List.mem_singleton.mpr z))]; exact e) fp
    have fin : ∃ x H', L2.Inv X pins σ H' { s with heap := h' } ∧ RelV x es[i].key ∧ (ItKX a o l).yld i H x H' ∧ h'.IsKeyIter it a (i + 1) es.size ep ∧ ∀ b ∈ [it], H' b = none := ⟨.ref y.2.1, H, I', by rw [hk, ← r.2.1]; rfl, ⟨rfl, y, hy, rfl⟩, t', fun b hb => (fp b hb).1⟩
    rw [hk]
    rw [hk] at fin
    obtain ⟨ob, g1, g2, g3⟩ := id t'
    unfold letOwnedTupleGo
    cases tg <;> first | exact wpAny_pure fin | (refine wpAny_bind (wpAny_load g1 ?_); rw [g2, g3]; exact wpAny_pure fin)
  · rintro X rfl rfl rfl hc i pins s σ H E I fp t ⟨hi, ha⟩
    refine wpAny_pyNext_keys_end_raw (I.ok.hd hc) t (raw I ha) (by rw [hn]; exact hi) fun h' hs => ?_
    exact ⟨rfl, I.turnedL (ch := [it]) (t' := s.toks) (fun b ob hb e => hs b ob (fun z => hb (List.mem_singleton.mpr z)) e) fp⟩
  · exact wpAny_pyIter_keyiter t q
theorem turn_valsX {tg : Expr} {a it : Addr} {o : Obj} {l : ListX} {es : Array DictEntry} {ep : Nat} {xs : ListXv} (e1 : o.ExactDict) (e2 : o.data = .dict es ep) (e3 : es.toList = xs.map (entryOfKey (nestedKind P w))) (rel : Paired RelX l xs) : Turn P w K tg (ItVX a o l) [it] it fun i h => h.IsValIter it a i es.size ep := by
  have hn : es.size = l.length := by rw [size_of_entries e3, Paired.length rel]
  have raw : ∀ {X : Cx} {pins σ H s}, L2.Inv X pins σ H s → H a = some (DX a o) → s.heap.DictRaw a es ep := fun I ha => ⟨o, (show (_ ∧ _) from I.hok a _ ha).1, e1, e2⟩
  refine ⟨List.mem_singleton.mpr rfl, fun i h t b hb => ?_, fun i h h' t k => ?_, ?_, ?_, fun A i s Q E t q => ?_⟩
  · cases List.mem_singleton.mp hb
    obtain ⟨o, h1, h2, h3⟩ := t
    exact ⟨o, h1, fun v e => by rw [h3] at e; cases e⟩
  · obtain ⟨o, h1, h2⟩ := t
    exact ⟨o, k it (List.mem_singleton.mpr rfl) o h1, h2⟩
  · rintro X rfl rfl rfl hc i pins s σ H E I fp t ⟨hi, ha⟩
    refine wpAny_pyNext_values_item_raw t (raw I ha) (by rw [hn]; exact hi) fun h' t' hs => ?_
    obtain ⟨y, hy⟩ := lt_at hi
    obtain ⟨z, hz, r⟩ := paired_at rel hy
    obtain ⟨hi', _, hk⟩ := entry_of e3 hz
    refine ⟨_, rfl, ?_⟩
    have I' : L2.Inv X pins σ H { s with heap := h' } := I.turnedL (ch := [it]) (t' := s.toks) (fun b ob hb e => by rw [hs.2 b (fun z => hb (List.mem_singleton.mpr z))]; exact e) fp
    have fin : ∃ x H', L2.Inv X pins σ H' { s with heap := h' } ∧ RelV x es[i].val ∧ (ItVX a o l).yld i H x H' ∧ h'.IsValIter it a (i + 1) es.size ep ∧ ∀ b ∈ [it], H' b = none := ⟨y.2.2, H, I', by rw [hk]; exact r.2.2, ⟨rfl, y, hy, rfl⟩, t', fun b hb => (fp b hb).1⟩
    revert fin
    generalize es[i].val = u
    intro fin
    obtain ⟨ob, g1, g2, g3⟩ := id t'
    unfold letOwnedTupleGo
    cases tg <;> first | exact wpAny_pure fin | (cases u <;> first | exact wpAny_pure fin | (refine wpAny_bind (wpAny_load g1 ?_); rw [g2, g3]; exact wpAny_pure fin))
  · rintro X rfl rfl rfl hc i pins s σ H E I fp t ⟨hi, ha⟩
    refine wpAny_pyNext_values_end_raw (I.ok.hd hc) t (raw I ha) (by rw [hn]; exact hi) fun h' hs => ?_
    exact ⟨rfl, I.turnedL (ch := [it]) (t' := s.toks) (fun b ob hb e => hs b ob (fun z => hb (List.mem_singleton.mpr z)) e) fp⟩
  · exact wpAny_pyIter_valiter t q
theorem turn_itemsX {elts : List Expr} {kk : Nat} {tpos : Pos} {a it : Addr} {o : Obj} {l : ListX} {es : Array DictEntry} {ep : Nat} {xs : ListXv} (e1 : o.ExactDict) (e2 : o.data = .dict es ep) (e3 : es.toList = xs.map (entryOfKey (nestedKind P w))) (rel : Paired RelX l xs) : Turn P w K (.Tuple elts kk tpos) (ItIX a o l) [it] it fun i h => ∃ ok ov, IsItemIter h it a i es.size ep ok ov := by
  have hn : es.size = l.length := by rw [size_of_entries e3, Paired.length rel]
  have raw : ∀ {X : Cx} {pins σ H s}, L2.Inv X pins σ H s → H a = some (DX a o) → s.heap.DictRaw a es ep := fun I ha => ⟨o, (show (_ ∧ _) from I.hok a _ ha).1, e1, e2⟩
  refine ⟨List.mem_singleton.mpr rfl, fun i h t b hb => ?_, fun i h h' t k => ?_, ?_, ?_, fun A i s Q E t q => ?_⟩
  · cases List.mem_singleton.mp hb
    obtain ⟨ok, ov, h1⟩ := t
    exact ⟨_, h1, fun v e => by cases e⟩
  · obtain ⟨ok, ov, h1⟩ := t
    exact ⟨ok, ov, k it (List.mem_singleton.mpr rfl) _ h1⟩
  · rintro X rfl rfl rfl hc i pins s σ H E I fp ⟨ok, ov, t⟩ ⟨hi, ha⟩
    refine wpAny_pyNext_items_item_raw t (raw I ha) (by rw [hn]; exact hi) fun h' t' hT hsz hs => ?_
    obtain ⟨y, hy⟩ := lt_at hi
    obtain ⟨z, hz, r⟩ := paired_at rel hy
    obtain ⟨hi', hk, hv⟩ := entry_of e3 hz
    refine ⟨_, rfl, wpAny_letOwnedTupleGo_items t' fun h2 t2 hs2 => ?_⟩
    have nT : it ≠ s.heap.objs.size := fun e => by
      have := Heap.lt_size t
      rw [e] at this
      exact Nat.lt_irrefl _ this
    have hT2 : h2.get? s.heap.objs.size = some { cls := .type "tuple", data := .seq #[es[i].key, es[i].val] } := by
      rw [hs2.2 _ nT.symm]
      exact hT
    have vals : Vals [V.ref y.2.1, y.2.2] [es[i].key, es[i].val] := by
      rw [hk, hv, ← r.2.1]
      exact .cons rfl (.cons r.2.2 .nil)
    have I2 : L2.Inv X pins σ (upd H s.heap.objs.size (.tup [.ref y.2.1, y.2.2])) { s with heap := h2 } := I.turnedNew (ch := [it]) (t' := s.toks) (T := s.heap.objs.size) (fun b ob hb e => by
      have nb : b ≠ it := fun z => hb (List.mem_singleton.mpr z)
      rw [hs2.2 b nb]
      exact hs b ob nb e) fp (Nat.le_refl _) (show ObjOk X.prog X.w _ _ _ (.tup [.ref y.2.1, y.2.2]) from ⟨by rw [sizeLine_eq]; exact Nat.le_of_ble_eq_true rfl, [es[i].key, es[i].val], vals, _, hT2, rfl, _, rfl⟩)
    exact ⟨.ref s.heap.objs.size, _, I2, rfl, ⟨s.heap.objs.size, y, I.fresh, hy, rfl, rfl⟩, ⟨_, _, t2⟩, fun b hb => by
      cases List.mem_singleton.mp hb
      rw [upd_ne nT]
      exact (fp it (List.mem_singleton.mpr rfl)).1⟩
  · rintro X rfl rfl rfl hc i pins s σ H E I fp ⟨ok, ov, t⟩ ⟨hi, ha⟩
    refine wpAny_pyNext_items_end_raw (I.ok.hd hc) t (raw I ha) (by rw [hn]; exact hi) fun h' hs => ?_
    exact ⟨rfl, I.turnedL (ch := [it]) (t' := s.toks) (fun b ob hb e => hs b ob (fun z => hb (List.mem_singleton.mpr z)) e) fp⟩
  · obtain ⟨ok, ov, t⟩ := t
    exact wpAny_pyIter_itemiter t q
end
section
variable {X : Cx} {tg e : Expr} {td : TE} {apos cpos : Pos}
def iKX (P : Program) (w : World) (K : PySem.W.Frag) (td : TE) : L2.TI := fun σ H R => td σ H fun x H1 => ∃ a o l, x = .ref a ∧ AtX P w K H1 a o l ∧ R (ItKX a o l) H1
def iVX (P : Program) (w : World) (K : PySem.W.Frag) (td : TE) : L2.TI := fun σ H R => td σ H fun x H1 => ∃ a o l, x = .ref a ∧ AtX P w K H1 a o l ∧ R (ItVX a o l) H1
def iIX (P : Program) (w : World) (K : PySem.W.Frag) (td : TE) : L2.TI := fun σ H R => td σ H fun x H1 => ∃ a o l, x = .ref a ∧ AtX P w K H1 a o l ∧ R (ItIX a o l) H1
theorem rawX {P : Program} {w : World} {K : PySem.W.Frag} {H : Hp} {h : Heap} {a : Addr} {o : Obj} {l : ListX} (hok : HOk P w H h) (d : AtX P w K H a o l) : ∃ (xs : ListXv) (es : Array DictEntry) (ep : Nat), o.ExactDict ∧ o.data = .dict es ep ∧ es.toList = xs.map (entryOfKey (nestedKind P w)) ∧ Paired RelX l xs ∧ h.DictRaw a es ep := by
  obtain ⟨n1, n2, n3, n4, xs, es, ep, e1, e2, e3, e4⟩ := d.nest
  exact ⟨xs, es, ep, e1, e2, e3, e4, o, (show (_ ∧ _) from hok a _ d.at').1, e1, e2⟩
theorem pi_keysX (he : PE X e td) : PI X tg e (iKX X.prog X.w X.K td) := by
  refine ⟨fun pins s σ H R I h => ?_⟩
  refine thn (he.run pins s σ H _ I h) fun u s1 ⟨x, H1, I1, rx, a, o, l, ex, d, q⟩ => ?_
  subst ex
  obtain rfl : u = Value.ref a := rx
  obtain ⟨xs, es, ep, e1, e2, e3, e4, raw⟩ := rawX I1.hok d
  exact wpAny_pyIter_dict_raw d.nest.1 raw (pi_one (tk := s1.toks) I1 _ (turn_keysX e1 e2 e3 e4) ⟨_, Heap.get?_push_size _ rfl, rfl, rfl⟩ q)
theorem pi_valsX (he : PE X e td) (hbase : attributeBase e "values" X.env (eval e X.env) = eval e X.env := by rfl) (hline : (apos.endLine == cpos.line) = true := by rfl) : PI X tg (.Call (.Attribute e "values" apos) [] [] cpos) (iVX X.prog X.w X.K td) := by
  refine ⟨fun pins s σ H R I h => ?_⟩
  refine wpAny_Call_method (T := "dict") (id := "dict.values") hbase rfl hline F.plainAttrs_dict F.slot_dict_values F.type_dict_values (thn (he.run pins s σ H _ I h) fun u s1 ⟨x, H1, I1, rx, a, o, l, ex, d, q⟩ => ?_)
  subst ex
  obtain rfl : u = Value.ref a := rx
  obtain ⟨xs, dof, rel, _⟩ := dofX I1.hok d.at' d.nest d.keys
  obtain ⟨xs', es, ep, e1, e2, e3, e4, raw⟩ := rawX I1.hok d
  refine ⟨dof.typeIs, PyProof.Rows.dictOfH_noDict dof, ?_⟩
  have raw2 : (s1.heap.push { cls := .type "dict_values", data := .fields #[.ref a] }).DictRaw a es ep := by
    obtain ⟨o', h1, h2⟩ := raw
    exact ⟨o', Heap.get?_push_of_some _ h1, h2⟩
  have I2 : L2.Inv X pins σ H1 { s1 with heap := s1.heap.push { cls := .type "dict_values", data := .fields #[.ref a] } } := I1.kept (t' := s1.toks) fun b ob q => Heap.get?_push_of_some _ q
  have fin : wpAny (model X.prog X.w) X.A (pyIter (.ref s1.heap.objs.size)) (PIE X pins σ tg R) X.xe { s1 with heap := s1.heap.push { cls := .type "dict_values", data := .fields #[.ref a] } } :=
    wpAny_pyIter_values_raw (d := a) ⟨_, Heap.get?_push_size _ rfl, rfl, rfl⟩ raw2 (pi_one (tk := s1.toks) I2 _ (turn_valsX e1 e2 e3 e4) ⟨_, Heap.get?_push_size _ rfl, rfl, rfl⟩ q)
  show wpAny _ _ (callWith cpos (.builtin "dict.values") [.ref a] [] []) _ X.xe s1
  exact method_meetsIn F.slot_dict_values F.entry_dict_values rfl (PySem.evalArgs_none ⟨rfl, dof.typeIs, F.args_dict_values_1 _, _, meets_dict_values_raw a d.nest.1, ⟨es, ep, raw⟩, fin⟩)
theorem pi_itemsX {elts : List Expr} {kk : Nat} {tpos : Pos} (he : PE X e td) (hbase : attributeBase e "items" X.env (eval e X.env) = eval e X.env := by rfl) (hline : (apos.endLine == cpos.line) = true := by rfl) : PI X (.Tuple elts kk tpos) (.Call (.Attribute e "items" apos) [] [] cpos) (iIX X.prog X.w X.K td) := by
  refine ⟨fun pins s σ H R I h => ?_⟩
  refine wpAny_Call_method (T := "dict") (id := "dict.items") hbase rfl hline F.plainAttrs_dict F.slot_dict_items F.type_dict_items (thn (he.run pins s σ H _ I h) fun u s1 ⟨x, H1, I1, rx, a, o, l, ex, d, q⟩ => ?_)
  subst ex
  obtain rfl : u = Value.ref a := rx
  obtain ⟨xs, dof, rel, _⟩ := dofX I1.hok d.at' d.nest d.keys
  obtain ⟨xs', es, ep, e1, e2, e3, e4, raw⟩ := rawX I1.hok d
  refine ⟨dof.typeIs, PyProof.Rows.dictOfH_noDict dof, ?_⟩
  have raw2 : (s1.heap.push { cls := .type "dict_items", data := .fields #[.ref a] }).DictRaw a es ep := by
    obtain ⟨o', h1, h2⟩ := raw
    exact ⟨o', Heap.get?_push_of_some _ h1, h2⟩
  have I2 : L2.Inv X pins σ H1 { s1 with heap := s1.heap.push { cls := .type "dict_items", data := .fields #[.ref a] } } := I1.kept (t' := s1.toks) fun b ob q => Heap.get?_push_of_some _ q
  have fin : wpAny (model X.prog X.w) X.A (pyIter (.ref s1.heap.objs.size)) (PIE X pins σ (.Tuple elts kk tpos) R) X.xe { s1 with heap := s1.heap.push { cls := .type "dict_items", data := .fields #[.ref a] } } :=
    wpAny_pyIter_items_raw (d := a) ⟨_, Heap.get?_push_size _ rfl, rfl, rfl⟩ raw2 (pi_one (tk := s1.toks) I2 _ (turn_itemsX e1 e2 e3 e4) ⟨_, _, Heap.get?_push_size _ rfl⟩ q)
  show wpAny _ _ (callWith cpos (.builtin "dict.items") [.ref a] [] []) _ X.xe s1
  exact method_meetsIn F.slot_dict_items F.entry_dict_items rfl (PySem.evalArgs_none ⟨rfl, dof.typeIs, F.args_dict_items_1 _, _, meets_dict_items_raw a d.nest.1, ⟨es, ep, raw⟩, fin⟩)
end
/-! ### sorted -/
def okSort (ds : List DT) : Prop := PySem.W.AllAlike ds ∧ PySem.W.Sortable ds ∧ ds.length ≤ sizeLine ∧ ∀ d ∈ ds, d.canLay0 = true ∧ d.depth ≤ 30
def sortD (ds : List DT) : List DT := ds.mergeSort (PySem.W.dataLe false id)
section
variable {X : Cx}
theorem each_len {α β : Type} {R : α → β → Prop} {l : List α} {m : List β} (h : PySem.W.EachIs R l m) : l.length = m.length := by
  induction h with
  | nil => rfl
  | cons _ _ ih => exact congrArg (· + 1) ih
theorem each_imp {α β : Type} {R S : α → β → Prop} {l : List α} {m : List β} (h : PySem.W.EachIs R l m) (i : ∀ x y, R x y → S x y) : PySem.W.EachIs S l m := by
  induction h with
  | nil => exact .nil
  | cons a _ ih => exact .cons (i _ _ a) ih
theorem each_vals {R : V → DT → Prop} {xs : List V} {us : List Value} {ds : List DT} (v : Vals xs us) (h : PySem.W.EachIs R xs ds) : PySem.W.EachIs (fun u d => ∃ x, RelV x u ∧ R x d) us ds := by
  induction h generalizing us with
  | nil =>
    cases v
    exact .nil
  | cons a _ ih =>
    cases v with
    | cons r rs => exact .cons ⟨_, r, a⟩ (ih rs)
theorem vals_each {R : V → DT → Prop} {us : List Value} {ds : List DT} (h : PySem.W.EachIs (fun u d => ∃ x, RelV x u ∧ R x d) us ds) : ∃ xs, Vals xs us ∧ PySem.W.EachIs R xs ds := by
  induction h with
  | nil => exact ⟨[], .nil, .nil⟩
  | cons a _ ih =>
    obtain ⟨x, r, q⟩ := a
    obtain ⟨xs, v, e⟩ := ih
    exact ⟨x :: xs, .cons r v, .cons q e⟩
theorem reads_each {X : Cx} {pins : List (Addr × Obj)} {σ : L2.St} {H : Hp} {s : Shared} (I : L2.Inv X pins σ H s) {a : Addr} (ha : s.heap.objs.size ≤ a) : ∀ {xs : List V} {us : List Value} {ds : List DT}, DpAll X.K H xs ds → Vals xs us → PySem.W.EachIs (fun v b => ∃ as, Reads s.heap v b as ∧ a ∉ as) us ds
  | _, _, _, .nil, v => by
    cases v
    exact .nil
  | _, _, _, .cons d ds, v => by
    cases v with
    | cons r rs =>
      obtain ⟨as, h⟩ := Dp.reads I _ _ _ d r
      exact .cons ⟨as, h, fun m => by
      obtain ⟨o, ho⟩ := PyProof.On.reads_mem_get h a m
      exact Nat.lt_irrefl _ (Nat.lt_of_lt_of_le (Heap.lt_size ho) ha)⟩ (reads_each I ha ds rs)
theorem sorted_by (hc : X.calm = true) (hu : X.A.units + 64 < cLine) {pins : List (Addr × Obj)} {σ : L2.St} {s : Shared} {u : Value} {ds : List DT} {Q : VK} (R : Hp → V → DT → Prop) (G : Hp → Prop) (ok : okSort ds)
    (col : ∀ (Rr : List Value → Shared → Prop) (E : Value → Shared → Prop), (∀ (h' : Heap) (tk : Nat) (us : List Value) (H : Hp) (xs : List V), L2.Inv X pins σ H { s with heap := h', toks := tk } → G H → Vals xs us → DpAll X.K H xs ds → PySem.W.EachIs (R H) xs ds → Rr us { s with heap := h', toks := tk }) → wpAny (model X.prog X.w) X.A.in1 (collect u) Rr E s)
    (q : ∀ (H : Hp) (ys : List V) (l : Addr), G H → H l = none → PySem.W.EachIs (R H) ys (sortD ds) → Q (.ref l) (upd H l (.lst ys))) :
    wpAny (model X.prog X.w) X.A (call (.builtin "sorted") [u]) (EP X pins σ Q) X.xe s := by
  refine Calls.call_function_entry PyProof.Rows.kind_sorted PyProof.Rows.plain_sorted PyProof.Rows.entry_sorted (PyProof.Rows.args_sorted1 _) ?_
  unfold Builtin.«sorted»
  refine wpAny_bind (m := checkCount "sorted" 1 1 _) (wpAny_pure (wpAny_bind (col _ _ fun h1 tk us H xs J g v dp hr => ?_)))
  have hl : us.length = ds.length := by rw [← v.length, each_len hr]
  have hz2 : us.length ≤ sizeLine := by rw [hl]; exact ok.2.2.1
  refine wpAny_bind (wpAny_newList ?_ hz2)
  have hoL : (h1.push (seqObj "list" us.toArray 0)).get? h1.objs.size = some (seqObj "list" us.toArray 0) := Heap.get?_push_size _ rfl
  show wpAny _ _ _ _ _ { s with heap := h1.push (seqObj "list" us.toArray 0), toks := tk }
  refine wpAny_bind (wpAny_holding (PySem.W.list_sort_data (bs := ds) (enc := id) (n := 0) hoL (each_vals v hr) ?_ (by rw [List.map_id]; exact ok.1) (by rw [List.map_id]; exact ok.2.1) ok.2.2.1 (fun b hb => ?_) fun out ho hout => ?_))
  · have k := reads_each J (Nat.le_refl _) dp v
    refine each_imp k fun x y ⟨as, h, n⟩ => ⟨as, PyProof.Rows.Reads.keeps (fun b o e => Heap.get?_push_of_some _ e) h, n⟩
  · have := (ok.2.2.2 b hb).2
    show X.A.units + 1 + 1 + b.depth < cLine
    omega
  · obtain ⟨ys, vy, ey⟩ := vals_each hout
    obtain ⟨ep2, he2⟩ := PyProof.Rows.sortedHeap_at (vs := us) (out := out.toArray) hoL
    have hz3 : ys.length ≤ sizeLine := by rw [vy.length, ho]; exact ok.2.2.1
    refine wpAny_pure ⟨_, rfl, .ref h1.objs.size, upd H h1.objs.size (.lst ys), J.laid (t' := tk) (fun b u e => ?_) (Nat.le_refl _) (show ObjOk X.prog X.w _ _ _ (.lst ys) from ⟨hz3, out, ep2, vy, he2⟩), rfl, q H ys _ g (J.hok.fresh (Nat.le_refl _)) ey⟩
    have hb : b < h1.objs.size := Heap.lt_size e
    rw [PyProof.Rows.sortedHeap_old (Nat.ne_of_lt hb) (by rw [size_push']; exact Nat.lt_succ_of_lt hb)]
    exact Heap.get?_push_of_some _ e
end
/-! ### many new objects at once -/
section
variable {X : Cx}
theorem inv_grow {pins : List (Addr × Obj)} {σ : L2.St} {H H' : Hp} {s : Shared} {h' : Heap} {t' : Nat} (I : L2.Inv X pins σ H s) (k : ∀ b u, s.heap.get? b = some u → h'.get? b = some u) (m : ∀ a o, H a = some o → H' a = some o) (n : ∀ a o, H' a = some o → H a = some o ∨ s.heap.objs.size ≤ a) (hok : HOk X.prog X.w H' h') : L2.Inv X pins σ H' { s with heap := h', toks := t' } := by
  have J : L2.Inv X pins σ H { s with heap := h', toks := t' } := I.kept k
  have no : ∀ b, b < s.heap.objs.size → H b = none → H' b = none := fun b hb e => by
    cases q : H' b with
    | none => rfl
    | some o =>
      rcases n b o q with h | h
      · rw [e] at h
        cases h
      · exact absurd hb (Nat.not_lt.mpr h)
  refine ⟨J.ok, J.os, J.bare, ⟨J.base.keep, J.base.slot, fun b o h1 h2 h3 => ?_, J.base.there, fun b xs e => m _ _ (J.base.tups b xs e), fun b o u e => m _ _ (J.base.frzs b o u e), fun b ps e => ?_⟩, J.loc, J.cell, no _ I.lt I.free, fun x c e => ?_, fun p hp => ?_, hok, J.len⟩
  · obtain ⟨o', ho⟩ := I.base.there b o h1 h3
    exact no b (Heap.lt_size ho) (I.base.free b o h1 h2 h3)
  · obtain ⟨more, e'⟩ := J.base.tbls b ps e
    exact ⟨more, m _ _ e'⟩
  · obtain ⟨v, o, ho, _⟩ := I.cell x c e
    exact no c (Heap.lt_size ho) (I.freeC x c e)
  · obtain ⟨h1, h2, h3⟩ := I.pin p hp
    obtain ⟨g1, _, g3⟩ := J.pin p hp
    exact ⟨g1, no _ (Heap.lt_size h1) h2, g3⟩
def updM (H : Hp) : List (Addr × HO) → Hp
  | [] => H
  | (a, o) :: r => upd (updM H r) a o
theorem updM_or {H : Hp} : ∀ {l : List (Addr × HO)} {a : Addr} {o : HO}, updM H l a = some o → (a, o) ∈ l ∨ H a = some o
  | [], _, _, e => .inr e
  | (b, u) :: r, a, o, e => by
    unfold updM at e
    by_cases c : a = b
    · subst c
      rw [upd_same] at e
      cases Option.some.inj e
      exact .inl List.mem_cons_self
    · rw [upd_ne c] at e
      rcases updM_or e with h | h
      · exact .inl (List.mem_cons_of_mem _ h)
      · exact .inr h
theorem updM_no {H : Hp} : ∀ {l : List (Addr × HO)} {a : Addr}, a ∉ l.map (·.1) → updM H l a = H a
  | [], _, _ => rfl
  | (b, u) :: r, a, h => by
    unfold updM
    rw [List.map_cons, List.mem_cons, not_or] at h
    rw [upd_ne h.1, updM_no h.2]
theorem updM_in {H : Hp} : ∀ {l : List (Addr × HO)} {a : Addr} {o : HO}, (l.map (·.1)).Nodup → (a, o) ∈ l → updM H l a = some o
  | (b, u) :: r, a, o, nd, h => by
    unfold updM
    rw [List.map_cons, List.nodup_cons] at nd
    rcases List.mem_cons.mp h with g | g
    · cases g
      exact upd_same
    · rw [upd_ne, updM_in nd.2 g]
      intro e
      subst e
      exact nd.1 (List.mem_map.mpr ⟨_, g, rfl⟩)
theorem updM_le {H : Hp} {l : List (Addr × HO)} (hn : ∀ x ∈ l, H x.1 = none) {a : Addr} {o : HO} (e : H a = some o) : updM H l a = some o := by
  rw [updM_no, e]
  intro m
  obtain ⟨x, h1, rfl⟩ := List.mem_map.mp m
  rw [hn x h1] at e
  cases e
theorem ex_updM {F H : Hp} : ∀ {l : List (Addr × HO)}, (l.map (·.1)).Nodup → (∀ x ∈ l, H x.1 = none) → Ex F H (updM F l) (updM H l)
  | [], _, _ => .refl
  | (b, u) :: r, nd, hn => by
    rw [List.map_cons, List.nodup_cons] at nd
    exact .new (ex_updM nd.2 fun x h => hn x (List.mem_cons_of_mem _ h)) (by rw [updM_no nd.1]; exact hn (b, u) List.mem_cons_self)
/-! ### sorted of a list, of a dict, of its items -/
theorem upd_old {h : Heap} {a b : Addr} (f : Obj → Obj) (n : b ≠ a) : (h.update a f).get? b = h.get? b := by
  first
  | exact Heap.get?_update_ne _ n
  | exact Heap.get?_update_ne n
  | exact Heap.get?_update_ne _ _ n
  | exact Heap.get?_update_ne _ _ _ n
  | exact Heap.get?_update_ne _ _ (Ne.symm n)
  | simp [Heap.update, Heap.get?, Array.getElem?_modify, n, Ne.symm n]
theorem vals_at : ∀ {xs : List V} {us : List Value}, xs.length = us.length → (∀ (j : Nat) (u : Value), us[j]? = some u → ∃ x, xs[j]? = some x ∧ RelV x u) → Vals xs us
  | [], [], _, _ => .nil
  | x :: xs, u :: us, hl, h => by
    obtain ⟨y, e1, r⟩ := h 0 u rfl
    obtain rfl : x = y := Option.some.inj e1
    exact .cons r (vals_at (Nat.succ.inj hl) fun j v e => h (j + 1) v e)
def rSortL (K : PySem.W.Frag) : List V → Hp → VK → Prop := fun xs H Q => ∃ (p : Addr) (us : List V) (ds : List DT) (R : V → DT → Prop), xs = [.ref p] ∧ SqL K H p us ∧ DpAll K H us ds ∧ PySem.W.EachIs R us ds ∧ okSort ds ∧ ∀ ys l, H l = none → PySem.W.EachIs R ys (sortD ds) → Q (.ref l) (upd H l (.lst ys))
theorem call_sortedL (hc : X.calm = true) (hu : X.A.units + 64 < cLine) : CallR X (.builtin "sorted") (rSortL X.K) := by
  intro pins s σ H xs us Q I r h
  obtain ⟨p, vs, ds, R, rfl, hs, dp, hr, ok, q⟩ := h
  rw [Vals.ref1 r]
  obtain ⟨its, rel, ⟨o, n, h1, h2, h3, h4⟩, hz⟩ := I.list hs
  refine sorted_by hc hu (fun _ => R) (fun H' => H' = H) ok (fun Rr E hk => ?_) (fun H' ys l e n hr => by subst e; exact q ys l n hr)
  refine collect_list (vs := its) ⟨o, h1, h2, n, h4⟩ (hk _ _ its H vs ?_ rfl rel dp hr) (by rw [← rel.length]; exact hz)
  refine I.kept fun b u e => ?_
  rw [upd_old _ (Nat.ne_of_lt (Heap.lt_size e))]
  exact Heap.get?_push_of_some _ e
def rSortKX (P : Program) (w : World) (K : PySem.W.Frag) : List V → Hp → VK → Prop := fun xs H Q => ∃ (a : Addr) (o : Obj) (l : ListX) (R : V → DT → Prop), xs = [.ref a] ∧ AtX P w K H a o l ∧ DpAll K H (l.map fun x => V.ref x.2.1) (l.map (·.1.data)) ∧ PySem.W.EachIs R (l.map fun x => V.ref x.2.1) (l.map (·.1.data)) ∧ okSort (l.map (·.1.data)) ∧ ∀ ys p, H p = none → PySem.W.EachIs R ys (sortD (l.map (·.1.data))) → Q (.ref p) (upd H p (.lst ys))
theorem items_vals {P : Program} {w : World} {l : ListX} {xs : ListXv} {es : Array DictEntry} (e3 : es.toList = xs.map (entryOfKey (nestedKind P w))) (rel : Paired RelX l xs) {acc : Array Value} (h : ItemsOf (fun i v => ∃ hi : i < es.size, v = es[i].key) acc es.size) : Vals (l.map fun x => V.ref x.2.1) acc.toList := by
  have hn : es.size = l.length := by rw [size_of_entries e3, Paired.length rel]
  have hl : (l.map fun x => V.ref x.2.1).length = acc.toList.length := by
    rw [List.length_map, ← hn]
    exact h.1.symm.trans (Array.length_toList (xs := acc)).symm
  refine vals_at hl fun j u e => ?_
  obtain ⟨hi, hu⟩ := h.2 j u (by rw [← Array.getElem?_toList]; exact e)
  obtain ⟨y, hy⟩ := lt_at (l := l) (i := j) (by rw [← hn]; exact hi)
  obtain ⟨z, hz, r⟩ := paired_at rel hy
  obtain ⟨_, hk, _⟩ := entry_of e3 hz
  exact ⟨.ref y.2.1, by rw [List.getElem?_map, hy]; rfl, by rw [hu, hk, ← r.2.1]; rfl⟩
theorem call_sortedKX (hc : X.calm = true) (hu : X.A.units + 64 < cLine) : CallR X (.builtin "sorted") (rSortKX X.prog X.w X.K) := by
  intro pins s σ H xs us Q I r h
  obtain ⟨a, o, l, R, rfl, d, dp, hr, ok, q⟩ := h
  rw [Vals.ref1 r]
  obtain ⟨xs', es, ep, e1, e2, e3, e4, raw⟩ := rawX I.hok d
  have hn : es.size = l.length := by rw [size_of_entries e3, Paired.length e4]
  refine sorted_by hc hu (fun _ => R) (fun H' => H' = H) ok (fun Rr E hk => ?_) (fun H' ys l e n hr => by subst e; exact q ys l n hr)
  refine PySem.W.kdu_collect (A := X.A.in1) (KdlSrc.rawDict d.nest.1) (I.ok.hd hc) raw (by rw [hn]; exact d.nest.2.1) fun h' tk acc hkp hacc => ?_
  exact hk h' tk acc.toList H _ (I.kept hkp) rfl (items_vals e3 e4 hacc) dp hr
end
section
variable {X : Cx}
def ViewO (p a : Addr) : HO := .ext fun h => h.IsItemsView p a
def tItemsX (P : Program) (w : World) (K : PySem.W.Frag) (td : TE) : TE := fun σ H Q => td σ H fun x H1 => ∃ a o l, x = .ref a ∧ AtX P w K H1 a o l ∧ ∀ p, H1 p = none → Q (.ref p) (upd H1 p (ViewO p a))
theorem pe_itemsX {e : Expr} {td : TE} {apos cpos : Pos} (he : PE X e td) (hbase : attributeBase e "items" X.env (eval e X.env) = eval e X.env := by rfl) (hline : (apos.endLine == cpos.line) = true := by rfl) : PE X (.Call (.Attribute e "items" apos) [] [] cpos) (tItemsX X.prog X.w X.K td) := by
  refine ⟨fun pins s σ H Q I h => ?_⟩
  refine wpAny_Call_method (T := "dict") (id := "dict.items") hbase rfl hline F.plainAttrs_dict F.slot_dict_items F.type_dict_items (thn (he.run pins s σ H _ I h) fun u s1 ⟨x, H1, I1, rx, a, o, l, ex, d, q⟩ => ?_)
  subst ex
  obtain rfl : u = Value.ref a := rx
  obtain ⟨xs, dof, rel, _⟩ := dofX I1.hok d.at' d.nest d.keys
  obtain ⟨xs', es, ep, e1, e2, e3, e4, raw⟩ := rawX I1.hok d
  refine ⟨dof.typeIs, PyProof.Rows.dictOfH_noDict dof, ?_⟩
  have iv : (s1.heap.push { cls := .type "dict_items", data := .fields #[.ref a] }).IsItemsView s1.heap.objs.size a := ⟨_, Heap.get?_push_size _ rfl, rfl, rfl⟩
  have fin : EP X pins σ Q (.ref s1.heap.objs.size) { s1 with heap := s1.heap.push { cls := .type "dict_items", data := .fields #[.ref a] } } :=
    ⟨.ref s1.heap.objs.size, _, I1.laid (t' := s1.toks) (fun b u e => Heap.get?_push_of_some _ e) (Nat.le_refl _) (show ObjOk X.prog X.w _ _ _ (ViewO s1.heap.objs.size a) from ⟨iv, ⟨_, Heap.get?_push_size _ rfl⟩, fun h1 h2 ⟨o, g1, g2⟩ f => ⟨o, f o g1, g2⟩⟩), rfl, q _ I1.fresh⟩
  show wpAny _ _ (callWith cpos (.builtin "dict.items") [.ref a] [] []) _ X.xe s1
  exact method_meetsIn F.slot_dict_items F.entry_dict_items rfl (PySem.evalArgs_none ⟨rfl, dof.typeIs, F.args_dict_items_1 _, _, meets_dict_items_raw a d.nest.1, ⟨es, ep, raw⟩, fin⟩)
def zipT (ds es : List DT) : List DT := List.zipWith (fun a b => PyData.tuple [a, b]) ds es
theorem zipT_len (ds es : List DT) : (zipT ds es).length = min ds.length es.length := by
  unfold zipT
  rw [List.length_zipWith]
def tobj (z : NestedKey × Addr × Value) : Obj := { cls := .type "tuple", data := .seq #[.ref z.2.1, z.2.2] }
def rSortIX (P : Program) (w : World) (K : PySem.W.Frag) : List V → Hp → VK → Prop := fun xs H Q => ∃ (p a : Addr) (o : Obj) (l : ListX) (vd : List DT), xs = [.ref p] ∧ H p = some (ViewO p a) ∧ AtX P w K H a o l ∧ Dats P w K H (l.map (·.2.2)) vd ∧ okSort (zipT (l.map (·.1.data)) vd) ∧
  ∀ (ts : List (Addr × HO)), (ts.map (·.1)).Nodup → (∀ x ∈ ts, H x.1 = none) → ∀ (ys : List V) (lst : Addr), updM H ts lst = none → PySem.W.EachIs (fun v d => ∃ (i : Nat) (y : NestedKey × Addr × V) (T : Addr), l[i]? = some y ∧ (zipT (l.map (·.1.data)) vd)[i]? = some d ∧ v = .ref T ∧ (∃ ob : Obj, (T, HO.frz ob (.tup [.ref y.2.1, y.2.2])) ∈ ts ∧ BareO ob)) ys (sortD (zipT (l.map (·.1.data)) vd)) → Q (.ref lst) (upd (updM H ts) lst (.lst ys))
theorem dats_at {P : Program} {w : World} {K : PySem.W.Frag} {F : Hp} {vs : List V} {ds : List DT} (h : Dats P w K F vs ds) {i : Nat} {v : V} {d : DT} (e : vs[i]? = some v) (f : ds[i]? = some d) : Dat P w K F v d := by
  obtain ⟨d', h1, h2⟩ := h.get e
  rw [f] at h1
  cases Option.some.inj h1
  exact h2
theorem dats_of {P : Program} {w : World} {K : PySem.W.Frag} {F : Hp} : ∀ {vs : List V} {ds : List DT}, vs.length = ds.length → (∀ (i : Nat) (v : V) (d : DT), vs[i]? = some v → ds[i]? = some d → Dat P w K F v d) → Dats P w K F vs ds
  | [], [], _, _ => .nil
  | v :: vs, d :: ds, h, k => .cons (k 0 v d rfl rfl) (dats_of (Nat.succ.inj h) fun i u e g1 g2 => k (i + 1) u e g1 g2)
theorem each_of {α β : Type} {R : α → β → Prop} : ∀ {vs : List α} {ds : List β}, vs.length = ds.length → (∀ (i : Nat) (v : α) (d : β), vs[i]? = some v → ds[i]? = some d → R v d) → PySem.W.EachIs R vs ds
  | [], [], _, _ => .nil
  | v :: vs, d :: ds, h, k => .cons (k 0 v d rfl rfl) (each_of (Nat.succ.inj h) fun i u e g1 g2 => k (i + 1) u e g1 g2)
theorem lay_all {ds : List DT} (h : ∀ d ∈ ds, d.canLay0 = true ∧ d.depth ≤ 30) : PyData.canLayAll0 ds = true := by
  induction ds with
  | nil => rfl
  | cons d r ih =>
    show (_ && _) = true
    rw [(h d List.mem_cons_self).1, ih fun x m => h x (List.mem_cons_of_mem _ m)]
    rfl
theorem zipT_get {as bs : List DT} {i : Nat} {d : DT} (h : (zipT as bs)[i]? = some d) : ∃ a b, as[i]? = some a ∧ bs[i]? = some b ∧ d = .tuple [a, b] := by
  unfold zipT at h
  rw [List.getElem?_zipWith] at h
  split at h
  · next a b h1 h2 => exact ⟨a, b, h1, h2, (Option.some.inj h).symm⟩
  · cases h
theorem call_sortedIX (hc : X.calm = true) (hu : X.A.units + 64 < cLine) : CallR X (.builtin "sorted") (rSortIX X.prog X.w X.K) := by
  intro pins s σ H xs us Q I r h
  obtain ⟨p, a, o, l, vd, rfl, hp, d, dv, ok, q⟩ := h
  rw [Vals.ref1 r]
  have iv : s.heap.IsItemsView p a := (show (_ ∧ _) from I.hok p _ hp).1
  obtain ⟨xs', es, ep, e1, e2, e3, e4, raw⟩ := rawX I.hok d
  have hn : es.size = l.length := by rw [size_of_entries e3, Paired.length e4]
  have hvl : vd.length = l.length := by rw [← dv.len, List.length_map]
  have hzl : (zipT (l.map (·.1.data)) vd).length = l.length := by rw [zipT_len, List.length_map, hvl, Nat.min_self]
  refine sorted_by hc hu (fun H' v dd => ∃ (i : Nat) (y : NestedKey × Addr × V) (T : Addr), l[i]? = some y ∧ (zipT (l.map (·.1.data)) vd)[i]? = some dd ∧ v = .ref T ∧ H T = none ∧ TupF H' T [.ref y.2.1, y.2.2]) (fun H' => ∃ ts : List (Addr × HO), (ts.map (·.1)).Nodup ∧ (∀ x ∈ ts, H x.1 = none) ∧ H' = updM H ts) ok (fun Rr E hk => ?_) (fun H' ys lst g n hr => ?_)
  · refine PySem.W.dil_collect (A := X.A.in1) (I.ok.hd hc) iv raw (by rw [hn]; exact d.nest.2.1) fun h' tk as hkp hal hg => ?_
    have hall : as.length = l.length := hal.trans hn
    have hnone : ∀ b, b ∈ as → H b = none ∧ s.heap.objs.size ≤ b := fun b hb => by
      have hb' := Nat.le_of_lt (hg.above b hb)
      exact ⟨I.hok.fresh hb', hb'⟩
    have hnd : as.Nodup := hg.rise.imp fun h => Nat.ne_of_lt h
    generalize hts : List.zipWith (fun b (yz : (NestedKey × Addr × V) × (NestedKey × Addr × Value)) => (b, HO.frz (tobj yz.2) (.tup [.ref yz.1.2.1, yz.1.2.2]))) as (List.zip l xs') = ts
    have hlx : l.length = xs'.length := Paired.length e4
    have hget : ∀ (i : Nat) (b : Addr) (y : NestedKey × Addr × V) (z : NestedKey × Addr × Value), as[i]? = some b → l[i]? = some y → xs'[i]? = some z → ts[i]? = some (b, HO.frz (tobj z) (.tup [.ref y.2.1, y.2.2])) := fun i b y z g1 g2 g3 => by
      have g4 : (List.zip l xs')[i]? = some (y, z) := List.getElem?_zip_eq_some.mpr ⟨g2, g3⟩
      rw [← hts, List.getElem?_zipWith, g1, g4]
    have hmem : ∀ x ∈ ts, ∃ (i : Nat) (y : NestedKey × Addr × V) (z : NestedKey × Addr × Value), as[i]? = some x.1 ∧ l[i]? = some y ∧ xs'[i]? = some z ∧ x.2 = .frz (tobj z) (.tup [.ref y.2.1, y.2.2]) := fun x hx => by
      obtain ⟨i, hi⟩ := List.mem_iff_getElem?.mp hx
      rw [← hts, List.getElem?_zipWith] at hi
      split at hi
      · next b yz g1 g2 =>
        cases Option.some.inj hi
        obtain ⟨g3, g4⟩ := List.getElem?_zip_eq_some.mp g2
        exact ⟨i, yz.1, yz.2, g1, g3, g4, rfl⟩
      · cases hi
    have hts1 : ts.map (·.1) = as := by
      refine List.ext_getElem? fun i => ?_
      rw [List.getElem?_map]
      by_cases c : i < as.length
      · obtain ⟨b, hb⟩ := lt_at c
        obtain ⟨y, hy⟩ := lt_at (l := l) (i := i) (by rw [← hall]; exact c)
        obtain ⟨z, hz, _⟩ := paired_at e4 hy
        rw [hget i b y z hb hy hz, hb]
        rfl
      · rw [List.getElem?_eq_none (l := as) (by omega), List.getElem?_eq_none (l := ts) (by rw [← hts, List.length_zipWith, List.length_zip]; omega)]
        rfl
    have hn1 : ∀ x ∈ ts, H x.1 = none := fun x hx => (hnone x.1 (by rw [← hts1]; exact List.mem_map.mpr ⟨x, hx, rfl⟩)).1
    have nd1 : (ts.map (·.1)).Nodup := by rw [hts1]; exact hnd
    have up : ∀ b u, H b = some u → updM H ts b = some u := fun b u e => updM_le hn1 e
    have hok' : HOk X.prog X.w (updM H ts) h' := fun b u e => by
      rcases updM_or e with m | m
      · obtain ⟨i, y, z, g1, g2, hz, g3⟩ := hmem _ m
        dsimp only at g1 g3
        subst g3
        obtain ⟨hj, g4⟩ := hg.pairs i b g1
        obtain ⟨z', hz', r⟩ := paired_at e4 g2
        rw [hz] at hz'
        cases Option.some.inj hz'
        obtain ⟨_, hk, hv⟩ := entry_of e3 hz
        have vals : Vals [V.ref y.2.1, y.2.2] [Value.ref z.2.1, z.2.2] := .cons (by rw [← r.2.1]; rfl) (.cons r.2.2 .nil)
        rw [hk, hv] at g4
        exact (show ObjOk X.prog X.w _ _ _ (.frz (tobj z) (.tup [.ref y.2.1, y.2.2])) from ⟨g4, by rw [sizeLine_eq]; exact Nat.le_of_ble_eq_true rfl, [Value.ref z.2.1, z.2.2], vals, _, g4, rfl, _, rfl⟩)
      · exact (I.hok b u m).stay (fun c v _ e => hkp c v e) (fun c e => up _ _ e) (fun c xs e => up _ _ e)
    have J : L2.Inv X pins σ (updM H ts) { s with heap := h', toks := tk } := inv_grow I hkp up (fun b u e => by
      rcases updM_or e with m | m
      · exact .inr (hnone b (by rw [← hts1]; exact List.mem_map.mpr ⟨_, m, rfl⟩)).2
      · exact .inl m) hok'
    have key : ∀ (i : Nat) (v : V) (dd : DT), (as.map V.ref)[i]? = some v → (zipT (l.map (·.1.data)) vd)[i]? = some dd → ∃ y T, l[i]? = some y ∧ v = .ref T ∧ H T = none ∧ TupF (updM H ts) T [.ref y.2.1, y.2.2] := fun i v dd g1 g2 => by
      rw [List.getElem?_map] at g1
      obtain ⟨T, g3, rfl⟩ := Option.map_eq_some_iff.mp g1
      obtain ⟨y, hy⟩ := lt_at (l := l) (i := i) (by rw [← hall]; exact (List.getElem?_eq_some_iff.mp g3).1)
      obtain ⟨z, hz, _⟩ := paired_at e4 hy
      have g4 := List.mem_of_getElem? (hget i T y z g3 hy hz)
      exact ⟨y, T, hy, rfl, hn1 _ g4, tobj z, updM_in nd1 g4, rfl, rfl⟩
    have fle : Fle H (updM H ts) := fun b u e => .inl (up b u e).symm
    have hlen : (as.map V.ref).length = (zipT (l.map (·.1.data)) vd).length := by rw [List.length_map, hzl, hall]
    have dd : Dats X.prog X.w X.K (updM H ts) (as.map V.ref) (zipT (l.map (·.1.data)) vd) := dats_of hlen fun i v dd g1 g2 => by
      obtain ⟨y, T, hy, rfl, _, hT⟩ := key i v dd g1 g2
      obtain ⟨ka, va, f1, f2, rfl⟩ := zipT_get g2
      rw [List.getElem?_map, hy] at f1
      cases Option.some.inj f1
      exact .tup hT (.cons ((d.keys y (List.mem_of_getElem? hy)).mono fle) (.cons ((dats_at dv (by rw [List.getElem?_map, hy]; rfl) f2).mono fle) .nil))
    refine hk h' tk (as.map Value.ref) _ (as.map V.ref) J ⟨ts, nd1, hn1, rfl⟩ ?_ (Dats.dp (fun _ _ e => e) dd (lay_all ok.2.2.2)) (each_of hlen fun i v dd g1 g2 => ?_)
    · clear hal hg hall hnone hnd hts hget hmem hts1 key hlen dd
      induction as with
      | nil => exact .nil
      | cons b r ih => exact .cons rfl ih
    · obtain ⟨y, T, hy, e, hT, hT'⟩ := key i v dd g1 g2
      exact ⟨i, y, T, hy, g2, e, hT, hT'⟩
  · obtain ⟨ts, nd, hn1, rfl⟩ := g
    refine q ts nd hn1 ys lst n (each_imp hr fun v dd ⟨i, y, T, h1, h2, h3, h4, h5⟩ => ⟨i, y, T, h1, h2, h3, ?_⟩)
    obtain ⟨ob, h5, h6⟩ := h5
    rcases updM_or h5 with m | m
    · exact ⟨ob, m, h6⟩
    · rw [h4] at m
      cases m
end
/-! ### dicts whose keys are nested tuples, by data -/
def dX : DT → Option (List (DT × DT))
  | .dict ((.bool true, .none) :: kvs) => some kvs
  | _ => none
def mkX (kvs : List (DT × DT)) : DT := .dict ((.bool true, .none) :: kvs)
theorem dX_at {d : DT} {kvs : List (DT × DT)} (h : dX d = some kvs) : d = mkX kvs := by
  unfold dX at h
  split at h
  · cases Option.some.inj h
    rfl
  · cases h
def keyX : DT → Option NestedKey
  | .tuple ds => (nksOf ds).bind fun ks => if (NestedKey.tup ks).depth ≤ 8 then some (.tup ks) else none
  | _ => none
theorem keyX_at {d : DT} {k : NestedKey} (h : keyX d = some k) : k.data = d ∧ k.depth ≤ 8 ∧ ∃ ds, d = .tuple ds := by
  unfold keyX at h
  split at h
  · next ds0 =>
    obtain ⟨ks, h1, h⟩ := Option.bind_eq_some_iff.mp h
    split at h
    · next c =>
      cases Option.some.inj h
      refine ⟨?_, c, _, rfl⟩
      have : nkOf (.tuple ds0) = some (.tup ks) := by rw [nkOf, h1]; rfl
      exact nk_data this
    · cases h
  · cases h
def findD (kvs : List (DT × DT)) (k : DT) : Option DT := (kvs.find? fun p => eqK p.1 k).map (·.2)
def putD (kvs : List (DT × DT)) (k v : DT) : List (DT × DT) := if (kvs.any fun p => eqK p.1 k) = true then kvs.map (fun p => if eqK p.1 k = true then (p.1, v) else p) else kvs ++ [(k, v)]
section
variable {P : Program} {w : World} {K : PySem.W.Frag} {F H : Hp}
theorem Ob.dictX (le : Le F H) {v : V} {kvs : List (DT × DT)} (x : Ob P w K F H v (mkX kvs)) : ∃ a o l vd, v = .ref a ∧ AtX P w K H a o l ∧ Dats P w K F (l.map fun x => V.ref x.2.1) (l.map (·.1.data)) ∧ Dats P w K F (l.map (·.2.2)) vd ∧ kvs = List.zip (l.map (·.1.data)) vd := by
  generalize hd : mkX kvs = d at x
  cases x with
  | scr e => cases (Prod.mk.inj (List.cons.inj (PyData.dict.inj hd)).1).1
  | pr _ _ _ => cases (Prod.mk.inj (List.cons.inj (PyData.dict.inj hd)).1).1
  | @dK a l vs es kvs e f t g =>
    have h1 := PyData.dict.inj hd
    rw [g] at h1
    cases l with
    | nil => cases h1
    | cons p r =>
      cases es with
      | nil => cases h1
      | cons q r' =>
        have h2 := (Prod.mk.inj (List.cons.inj h1).1).1
        obtain ⟨k, v⟩ := p
        cases k <;> cases h2
  | @dX a o l ws vs ks es kvs e n f g k s t q =>
    have h1 := PyData.dict.inj hd
    rw [q] at h1
    subst f g k
    exact ⟨a, o, l, es, rfl, ⟨e, n, keysX_of le s⟩, s, t, (List.cons.inj h1).2⟩
  | _ => cases hd
theorem findX {l : ListX} : ∀ {vd : List DT}, Dats P w K F (l.map (·.2.2)) vd → ∀ k : NestedKey, (∃ v d, atX l k = some v ∧ findD (List.zip (l.map (·.1.data)) vd) k.data = some d ∧ Dat P w K F v d) ∨ (atX l k = none ∧ findD (List.zip (l.map (·.1.data)) vd) k.data = none) := by
  induction l with
  | nil => exact fun _ _ => .inr ⟨rfl, rfl⟩
  | cons x r ih =>
    intro vd h k
    cases h with
    | @cons _ _ d ds a b =>
      unfold atX findD
      rw [List.map_cons, List.zip_cons_cons, List.find?_cons, List.find?_cons, eqK_data]
      by_cases c : x.1 = k
      · rw [decide_eq_true c]
        exact .inl ⟨_, d, rfl, rfl, a⟩
      · rw [decide_eq_false c]
        exact ih b k
theorem zip_len {l : ListX} {vd : List DT} (h : Dats P w K F (l.map (·.2.2)) vd) : (List.zip (l.map (·.1.data)) vd).length = l.length := by
  rw [List.length_zip, List.length_map, ← h.len, List.length_map, Nat.min_self]
theorem putX {l : ListX} {k : NestedKey} {b : Addr} {v : V} {d : DT} (hd : Dat P w K F v d) {vd : List DT} (h : Dats P w K F (l.map (·.2.2)) vd) : ∃ vd', Dats P w K F ((storedX l k b v).map (·.2.2)) vd' ∧ putD (List.zip (l.map (·.1.data)) vd) k.data d = List.zip ((storedX l k b v).map (·.1.data)) vd' := by
  have e : ((List.zip (l.map (·.1.data)) vd).any fun p => eqK p.1 k.data) = l.any fun x => decide (x.1 = k) := by
    induction l generalizing vd with
    | nil => rfl
    | cons x r ih =>
      cases h with
      | cons a b' =>
        rw [List.map_cons, List.zip_cons_cons, List.any_cons, List.any_cons, eqK_data, ih b']
  unfold storedX putD
  rw [e]
  split
  · rename_i hc
    clear hc e
    induction l generalizing vd with
    | nil =>
      cases h
      exact ⟨[], .nil, rfl⟩
    | cons x r ih =>
      cases h with
      | @cons _ _ d0 ds a b' =>
        obtain ⟨vd', h1, h2⟩ := ih b'
        by_cases c : x.1 = k
        · refine ⟨d :: vd', ?_, ?_⟩
          · rw [List.map_cons, List.map_cons, if_pos c]
            exact .cons hd h1
          · rw [List.map_cons, List.zip_cons_cons, List.map_cons, List.map_cons, List.map_cons, if_pos c, List.zip_cons_cons, if_pos (by rw [eqK_data]; exact decide_eq_true c), h2]
        · refine ⟨d0 :: vd', ?_, ?_⟩
          · rw [List.map_cons, List.map_cons, if_neg c]
            exact .cons a h1
          · rw [List.map_cons, List.zip_cons_cons, List.map_cons, List.map_cons, List.map_cons, if_neg c, List.zip_cons_cons, if_neg (by rw [eqK_data]; simpa using c), h2]
  · refine ⟨vd ++ [d], ?_, ?_⟩
    · rw [List.map_append]
      exact h.append (.cons hd .nil)
    · rw [List.map_append, List.zip_append (by rw [List.length_map, ← h.len, List.length_map])]
      rfl
end
def fInX (c : Bool) (k d : DT) : Option DT := (keyX k).bind fun _ => (dX d).map fun kvs => .bool (if c = true then (findD kvs k).isSome else !(findD kvs k).isSome)
def fIxX (d k : DT) : Option DT := (keyX k).bind fun _ => (dX d).bind fun kvs => findD kvs k
def fLenX : List DT → Option DT
  | [d] => (dX d).map fun kvs => .int kvs.length
  | _ => none
section
variable {P : Program} {w : World} {K : PySem.W.Frag}
theorem keyOb {F H : Hp} (le : Le F H) {v : V} {d : DT} {k : NestedKey} (x : Ob P w K F H v d) (h : keyX d = some k) : KeyX P w K H v k := by
  obtain ⟨h1, h2, ds, rfl⟩ := keyX_at h
  obtain ⟨a, vs, rfl, f, _, hd⟩ := x.tupE le
  exact ⟨⟨a, rfl⟩, by rw [h1]; exact .tup (f.le le) (hd.mono le.fle), h2⟩
theorem opl_inX (c : Bool) : OpL P w K (rInX P w K c) (fInX c) := by
  intro F H x y dx dy dz le hx hy e Q k
  obtain ⟨nk, h1, e⟩ := Option.bind_eq_some_iff.mp e
  obtain ⟨kvs, h2, e⟩ := Option.map_eq_some_iff.mp e
  rw [dX_at h2] at hy
  obtain ⟨a, o, l, vd, rfl, d, hk, hv, rfl⟩ := hy.dictX le
  have kx := keyOb le hx h1
  obtain ⟨h3, _⟩ := keyX_at h1
  subst e
  refine ⟨a, o, l, nk, rfl, d, kx, ?_⟩
  have e1 : (atX l nk).isSome = (findD (List.zip (l.map (·.1.data)) vd) dx).isSome := by
    rw [← h3]
    rcases findX hv nk with ⟨v, d, g1, g2, _⟩ | ⟨g1, g2⟩
    · rw [g1, g2]
      rfl
    · rw [g1, g2]
      rfl
  rw [e1]
  exact k _ F H .refl (.bl _)
theorem opl_ixX : OpL P w K (rIxX P w K) fIxX := by
  intro F H x y dx dy dz le hx hy e Q k
  obtain ⟨nk, h1, e⟩ := Option.bind_eq_some_iff.mp e
  obtain ⟨kvs, h2, e⟩ := Option.bind_eq_some_iff.mp e
  rw [dX_at h2] at hx
  obtain ⟨a, o, l, vd, rfl, d, hk, hv, rfl⟩ := hx.dictX le
  have kx := keyOb le hy h1
  obtain ⟨h3, _⟩ := keyX_at h1
  rw [← h3] at e
  rcases findX hv nk with ⟨v, d', g1, g2, g3⟩ | ⟨g1, g2⟩
  · rw [e] at g2
    cases Option.some.inj g2
    exact ⟨a, o, l, nk, v, rfl, d, kx, g1, k v F H .refl g3⟩
  · rw [e] at g2
    cases g2
theorem cbl_lenX : CbL P w K (rLenX P w K) fLenX := by
  intro F H vs ds dz le hv e Q k
  unfold fLenX at e
  split at e
  · obtain ⟨kvs, h2, rfl⟩ := Option.map_eq_some_iff.mp e
    obtain ⟨v, rfl, hx⟩ := one_ob hv
    rw [dX_at h2] at hx
    obtain ⟨a, o, l, vd, rfl, d, hk, hvd, rfl⟩ := hx.dictX le
    exact ⟨a, o, l, rfl, d, k _ F H .refl (by rw [zip_len hvd]; exact .int _)⟩
  · cases e
/-- {} -/
def oDict0X : OF := fun δ => some (mkX [], δ)
theorem lo_dict0X : LO P w K (tNewX P w) oDict0X := by
  intro C F ow δ σ H r x δ' e Q k
  cases Option.some.inj e
  intro p o n na
  obtain ⟨r2, n1, n2, n3, l2⟩ := r.freshN (DX p o) n
  exact k p F ow _ r2 l2 n n1 n2 n3 ⟨_, upd_same⟩ (.dX upd_same na rfl rfl rfl .nil .nil rfl)
/-- d.get(k, x) -/
def eGetX (ed ek ex : EF) : EF := fun δ => (ed δ).bind fun p => (val p.2 p.1).bind fun d0 => (dX d0).bind fun _ => (ek p.2).bind fun q => (ex q.2).bind fun r => (frzV r.2 r.1).bind fun y => (val y.2 p.1).bind fun d => (val y.2 q.1).bind fun k => (keyX k).bind fun _ => (dX d).map fun kvs => (.d ((findD kvs k).getD y.1), y.2)
theorem le_getX {td tk tx : TE} {ed ek ex : EF} (hd : LE P w K td ed) (hk : LE P w K tk ek) (hx : LE P w K tx ex) : LE P w K (tGet2X P w K td tk tx) (eGetX ed ek ex) := by
  intro C F ow δ σ H r x δ' e Q k
  obtain ⟨⟨x1, δ1⟩, e1, e⟩ := Option.bind_eq_some_iff.mp e
  obtain ⟨d0, v0, e⟩ := Option.bind_eq_some_iff.mp e
  obtain ⟨kv0, w0, e⟩ := Option.bind_eq_some_iff.mp e
  obtain ⟨⟨x2, δ2⟩, e2, e⟩ := Option.bind_eq_some_iff.mp e
  obtain ⟨⟨x3, δ3⟩, e3, e⟩ := Option.bind_eq_some_iff.mp e
  obtain ⟨⟨d4, δ4⟩, e4, e⟩ := Option.bind_eq_some_iff.mp e
  obtain ⟨dd, v5, e⟩ := Option.bind_eq_some_iff.mp e
  obtain ⟨dk, v6, e⟩ := Option.bind_eq_some_iff.mp e
  obtain ⟨nk, v7, e⟩ := Option.bind_eq_some_iff.mp e
  obtain ⟨kvs, v8, e⟩ := Option.map_eq_some_iff.mp e
  cases e
  refine hd C F ow δ σ H r _ _ e1 _ fun u1 F1 ow1 H1 r1 l1 h1 => ?_
  have ob0 := r1.ob h1 v0
  rw [dX_at w0] at ob0
  obtain ⟨a, o, l, vd, rfl, at0, _, _, _⟩ := ob0.dictX r1.le
  refine ⟨a, rfl, ⟨o, l, at0⟩, hk C F1 ow1 δ1 σ H1 r1 _ _ e2 _ fun u2 F2 ow2 H2 r2 l2 h2 => hx C F2 ow2 δ2 σ H2 r2 _ _ e3 _ fun u3 F3 ow3 H3 r3 l3 h3 => ?_⟩
  obtain ⟨F4, ow4, l4, r4, h4⟩ := r3.freezeN h3 e4
  have obd := r4.ob (h1.mono (l2.trans (l3.trans l4)).le) v5
  have obk := r4.ob (h2.mono (l3.trans l4).le) v6
  rw [dX_at v8] at obd
  obtain ⟨a', o', l', vd', ea, at', _, hv', rfl⟩ := obd.dictX r4.le
  cases ea
  obtain ⟨h8, _⟩ := keyX_at v7
  refine ⟨o', l', nk, at', keyOb r4.le obk v7, k _ F4 ow4 H3 r4 (l1.trans (l2.trans (l3.trans l4))) ?_⟩
  rw [← h8]
  rcases findX hv' nk with ⟨v, d', g1, g2, g3⟩ | ⟨g1, g2⟩
  · rw [g1, g2]
    exact g3
  · rw [g1, g2]
    exact h4
/-- d[k] = v -/
def sPutX (i : Nat) (ek ev : EF) : SF := fun δ => (ev δ).bind fun p => (frzV p.2 p.1).bind fun q => (cont q.2 i).bind fun _ => (ek q.2).bind fun p2 => (frzV p2.2 p2.1).bind fun y => (cont y.2 i).bind fun d => (keyX y.1).bind fun _ => (dX d).bind fun kvs => if kvs.length < sizeLine then (setC y.2 i (mkX (putD kvs y.1 q.1))).map Out.nx else none
theorem ls_putX {t tk : TE} {e ek : EF} (i : Nat) (hk : LE P w K tk ek) (he : LE P w K t e) : LS P w K (tAsg t (gSub (tVar i) tk (rSetX P w K))) (sPutX i ek e) := by
  intro C F ow δ σ H r o eq D k
  obtain ⟨⟨x1, δ1⟩, e1, eq⟩ := Option.bind_eq_some_iff.mp eq
  obtain ⟨⟨d1, δ2⟩, e2, eq⟩ := Option.bind_eq_some_iff.mp eq
  obtain ⟨c1, e3, eq⟩ := Option.bind_eq_some_iff.mp eq
  obtain ⟨⟨x2, δ3⟩, e4, eq⟩ := Option.bind_eq_some_iff.mp eq
  obtain ⟨⟨kd, δ4⟩, e5, eq⟩ := Option.bind_eq_some_iff.mp eq
  obtain ⟨d, e6, eq⟩ := Option.bind_eq_some_iff.mp eq
  obtain ⟨nk, e7, eq⟩ := Option.bind_eq_some_iff.mp eq
  obtain ⟨kvs, e8, eq⟩ := Option.bind_eq_some_iff.mp eq
  dsimp only at eq
  split at eq
  case isFalse => cases eq
  next hl =>
  obtain ⟨δ5, e9, eq⟩ := Option.map_eq_some_iff.mp eq
  cases eq
  refine he C F ow δ σ H r _ _ e1 _ fun v F1 ow1 H1 r1 _ h1 => ?_
  obtain ⟨F2, ow2, _, r2, d2⟩ := r1.freezeN h1 e2
  obtain ⟨a, hs, _⟩ := cont_at r2 e3
  refine ⟨_, hs, hk C F2 ow2 δ2 σ H1 r2 _ _ e4 _ fun u F3 ow3 H3 r3 l3 h3 => ?_⟩
  obtain ⟨F4, ow4, l4, r4, d4⟩ := r3.freezeN h3 e5
  obtain ⟨a', hs', own⟩ := cont_at r4 e6
  rw [hs] at hs'
  cases hs'
  rw [dX_at e8] at own
  obtain ⟨a', o', l', vd', ea, at', hks, hv', rfl⟩ := own.ob.dictX r4.le
  cases ea
  have kx := keyOb r4.le (d4.ob r4.le) e7
  obtain ⟨b, rfl⟩ := kx.ref
  obtain ⟨h8, h9, _⟩ := keyX_at e7
  rw [zip_len hv'] at hl
  refine ⟨a, o', l', nk, b, rfl, rfl, at', kx, hl, fun o2 n2 => ?_⟩
  obtain ⟨vd2, g1, g2⟩ := putX (k := nk) (b := b) (d2.mono (l3.trans l4).le) hv'
  rw [h8] at g2
  rw [g2] at e9
  have ks2 : Dats P w K F4 ((storedX l' nk b v).map fun x => V.ref x.2.1) ((storedX l' nk b v).map (·.1.data)) := by
    refine dats_keys (storedX_keys ?_ (by rw [h8]; exact d4))
    intro x hx
    obtain ⟨i, hi⟩ := List.mem_iff_getElem?.mp hx
    exact dats_at hks (by rw [List.getElem?_map, hi]; rfl) (by rw [List.getElem?_map, hi]; rfl)
  exact k F4 ow4 σ _ (r4.write hs e9 (.dX upd_same n2 rfl rfl rfl ks2 g1 rfl))
end
/-! ### walks and sorted, by data -/
def iKeysX (e : EF) : IF := fun δ => (e δ).bind fun p => (frzV p.2 p.1).bind fun q => (dX q.1).map fun kvs => (kvs.map (·.1), q.2)
def iValsX (e : EF) : IF := fun δ => (e δ).bind fun p => (frzV p.2 p.1).bind fun q => (dX q.1).map fun kvs => (kvs.map (·.2), q.2)
def iItemsX (e : EF) : IF := fun δ => (e δ).bind fun p => (frzV p.2 p.1).bind fun q => (dX q.1).map fun kvs => (kvs.map (fun x => pairD x.1 x.2), q.2)
section
variable {P : Program} {w : World} {K : PySem.W.Frag}
theorem Dat.dictX {F : Hp} {v : V} {kvs : List (DT × DT)} (x : Dat P w K F v (mkX kvs)) : ∃ a o l vd, v = .ref a ∧ F a = some (DX a o) ∧ NestAt P w a o l ∧ Dats P w K F (l.map fun x => V.ref x.2.1) (l.map (·.1.data)) ∧ Dats P w K F (l.map (·.2.2)) vd ∧ kvs = List.zip (l.map (·.1.data)) vd := by
  obtain ⟨a, o, l, vd, h1, h2, h3, h4, h5⟩ := (Dat.ob (H := F) (fun _ _ e => e) x).dictX (fun _ _ e => e)
  exact ⟨a, o, l, vd, h1, h2.at', h2.nest, h3, h4, h5⟩
theorem dx_no (a : Addr) (o : Obj) : ∀ l, DX a o ≠ .dK l := fun l q => by cases q
theorem zip_key {l : ListX} {vd : List DT} (h : vd.length = l.length) {i : Nat} {y : NestedKey × Addr × V} (e : l[i]? = some y) : ∃ d, vd[i]? = some d ∧ (List.zip (l.map (·.1.data)) vd)[i]? = some (y.1.data, d) := by
  obtain ⟨d, hd⟩ := lt_at (l := vd) (i := i) (by rw [h]; exact (List.getElem?_eq_some_iff.mp e).1)
  refine ⟨d, hd, ?_⟩
  rw [List.getElem?_zip_eq_some]
  exact ⟨by rw [List.getElem?_map, e]; rfl, hd⟩
theorem li_keysX {t : TE} {e : EF} (h : LE P w K t e) : LI P w K (iKX P w K t) (iKeysX e) := by
  intro C F ow δ σ H r ds δ' eq Q k
  obtain ⟨⟨x1, δ1⟩, e1, eq⟩ := Option.bind_eq_some_iff.mp eq
  obtain ⟨⟨d, δ2⟩, e2, eq⟩ := Option.bind_eq_some_iff.mp eq
  obtain ⟨kvs, e3, eq⟩ := Option.map_eq_some_iff.mp eq
  cases eq
  refine h C F ow δ σ H r _ _ e1 _ fun v F1 ow1 H1 r1 l1 h1 => ?_
  obtain ⟨F2, ow2, l2, r2, d2⟩ := r1.freezeN h1 e2
  rw [show d = mkX kvs from dX_at e3] at d2
  obtain ⟨a, o, l, vd, rfl, f, na, hk, hv, rfl⟩ := d2.dictX
  have hvl : vd.length = l.length := by rw [← hv.len, List.length_map]
  have hz := zip_len hv
  refine ⟨a, o, l, rfl, ⟨r2.le _ _ f, na, keysX_of r2.le hk⟩, k _ F2 ow2 H1 r2 (l1.trans l2) ⟨fun i H F' g le hi => ?_, fun H F' g le => ?_, fun i H x H' F' g le hi y => ?_⟩⟩
  · rw [List.length_map, hz] at hi
    exact ⟨hi, le _ _ (g.at f (dx_no a o))⟩
  · rw [List.length_map, hz]
    exact ⟨Nat.le_refl _, le _ _ (g.at f (dx_no a o))⟩
  · obtain ⟨rfl, z, h3, rfl⟩ := y
    obtain ⟨d, h4, h5⟩ := zip_key hvl h3
    exact ⟨F', z.1.data, .refl, by rw [List.getElem?_map, h5]; rfl, (dats_at hk (by rw [List.getElem?_map, h3]; rfl) (by rw [List.getElem?_map, h3]; rfl)).mono g⟩
theorem li_valsX {t : TE} {e : EF} (h : LE P w K t e) : LI P w K (iVX P w K t) (iValsX e) := by
  intro C F ow δ σ H r ds δ' eq Q k
  obtain ⟨⟨x1, δ1⟩, e1, eq⟩ := Option.bind_eq_some_iff.mp eq
  obtain ⟨⟨d, δ2⟩, e2, eq⟩ := Option.bind_eq_some_iff.mp eq
  obtain ⟨kvs, e3, eq⟩ := Option.map_eq_some_iff.mp eq
  cases eq
  refine h C F ow δ σ H r _ _ e1 _ fun v F1 ow1 H1 r1 l1 h1 => ?_
  obtain ⟨F2, ow2, l2, r2, d2⟩ := r1.freezeN h1 e2
  rw [show d = mkX kvs from dX_at e3] at d2
  obtain ⟨a, o, l, vd, rfl, f, na, hk, hv, rfl⟩ := d2.dictX
  have hvl : vd.length = l.length := by rw [← hv.len, List.length_map]
  have hz := zip_len hv
  refine ⟨a, o, l, rfl, ⟨r2.le _ _ f, na, keysX_of r2.le hk⟩, k _ F2 ow2 H1 r2 (l1.trans l2) ⟨fun i H F' g le hi => ?_, fun H F' g le => ?_, fun i H x H' F' g le hi y => ?_⟩⟩
  · rw [List.length_map, hz] at hi
    exact ⟨hi, le _ _ (g.at f (dx_no a o))⟩
  · rw [List.length_map, hz]
    exact ⟨Nat.le_refl _, le _ _ (g.at f (dx_no a o))⟩
  · obtain ⟨rfl, z, h3, rfl⟩ := y
    obtain ⟨d, h4, h5⟩ := zip_key hvl h3
    exact ⟨F', d, .refl, by rw [List.getElem?_map, h5]; rfl, (dats_at hv (by rw [List.getElem?_map, h3]; rfl) h4).mono g⟩
theorem li_itemsX {t : TE} {e : EF} (h : LE P w K t e) : LI P w K (iIX P w K t) (iItemsX e) := by
  intro C F ow δ σ H r ds δ' eq Q k
  obtain ⟨⟨x1, δ1⟩, e1, eq⟩ := Option.bind_eq_some_iff.mp eq
  obtain ⟨⟨d, δ2⟩, e2, eq⟩ := Option.bind_eq_some_iff.mp eq
  obtain ⟨kvs, e3, eq⟩ := Option.map_eq_some_iff.mp eq
  cases eq
  refine h C F ow δ σ H r _ _ e1 _ fun v F1 ow1 H1 r1 l1 h1 => ?_
  obtain ⟨F2, ow2, l2, r2, d2⟩ := r1.freezeN h1 e2
  rw [show d = mkX kvs from dX_at e3] at d2
  obtain ⟨a, o, l, vd, rfl, f, na, hk, hv, rfl⟩ := d2.dictX
  have hvl : vd.length = l.length := by rw [← hv.len, List.length_map]
  have hz := zip_len hv
  refine ⟨a, o, l, rfl, ⟨r2.le _ _ f, na, keysX_of r2.le hk⟩, k _ F2 ow2 H1 r2 (l1.trans l2) ⟨fun i H F' g le hi => ?_, fun H F' g le => ?_, fun i H x H' F' g le hi y => ?_⟩⟩
  · rw [List.length_map, hz] at hi
    exact ⟨hi, le _ _ (g.at f (dx_no a o))⟩
  · rw [List.length_map, hz]
    exact ⟨Nat.le_refl _, le _ _ (g.at f (dx_no a o))⟩
  · obtain ⟨T, z, nT, h3, rfl, rfl⟩ := y
    obtain ⟨d, h4, h5⟩ := zip_key hvl h3
    have g2 : Fle F2 (upd F' T (.tup [.ref z.2.1, z.2.2])) := g.trans (Fle.new (le_no le nT))
    exact ⟨_, pairD z.1.data d, .new .refl nT, by rw [List.getElem?_map, h5]; rfl, .pr upd_same ((dats_at hk (by rw [List.getElem?_map, h3]; rfl) (by rw [List.getElem?_map, h3]; rfl)).mono g2) ((dats_at hv (by rw [List.getElem?_map, h3]; rfl) h4).mono g2)⟩
theorem each_dats {F : Hp} {vs : List V} {ds : List DT} (h : PySem.W.EachIs (Dat P w K F) vs ds) : Dats P w K F vs ds := by
  induction h with
  | nil => exact .nil
  | cons a _ ih => exact .cons a ih
theorem dats_each {F : Hp} : ∀ {vs : List V} {ds : List DT}, Dats P w K F vs ds → PySem.W.EachIs (Dat P w K F) vs ds
  | _, _, .nil => .nil
  | _, _, .cons a b => .cons a (dats_each b)
end
open Classical in
noncomputable def fSortL : List DT → Option DT
  | [.list ds] => if okSort ds then some (.list (sortD ds)) else none
  | _ => none
open Classical in
noncomputable def fSortKX : List DT → Option DT
  | [d] => (dX d).bind fun kvs => if okSort (kvs.map (·.1)) then some (.list (sortD (kvs.map (·.1)))) else none
  | _ => none
open Classical in
noncomputable def oSortIX (e : EF) : OF := fun δ => (e δ).bind fun p => (val p.2 p.1).bind fun d => (dX d).bind fun kvs => if okSort (kvs.map fun x => .tuple [x.1, x.2]) then some (.list (sortD (kvs.map fun x => .tuple [x.1, x.2])), p.2) else none
section
variable {P : Program} {w : World} {K : PySem.W.Frag}
theorem cbo_sortL : CbO P w K (rSortL K) fSortL := by
  intro F H vs ds dz le hv e Q k
  unfold fSortL at e
  split at e
  · split at e
    · next ds ok =>
      cases Option.some.inj e
      obtain ⟨v, rfl, hx⟩ := one_ob hv
      obtain ⟨a, us, rfl, ha, hd⟩ := hx.listE
      exact ⟨a, us, ds, Dat P w K F, rfl, ha, Dats.dp le hd (lay_all ok.2.2.2), dats_each hd, ok, fun ys l n h => k l _ n (.lst upd_same (each_dats h))⟩
    · cases e
  · cases e
theorem keys_zip {l : ListX} {vd : List DT} (h : vd.length = l.length) : (List.zip (l.map (·.1.data)) vd).map (·.1) = l.map (·.1.data) := by
  rw [List.map_fst_zip]
  rw [List.length_map, h]
  exact Nat.le_refl _
theorem items_zip : ∀ {as vd : List DT}, (List.zip as vd).map (fun x => PyData.tuple [x.1, x.2]) = zipT as vd
  | [], _ => by cases ‹List DT› <;> rfl
  | a :: as, [] => rfl
  | a :: as, b :: bs => by
    rw [List.zip_cons_cons, List.map_cons, items_zip]
    rfl
theorem cbo_sortKX : CbO P w K (rSortKX P w K) fSortKX := by
  intro F H vs ds dz le hv e Q k
  unfold fSortKX at e
  split at e
  · obtain ⟨kvs, h2, e⟩ := Option.bind_eq_some_iff.mp e
    obtain ⟨v, rfl, hx⟩ := one_ob hv
    rw [dX_at h2] at hx
    obtain ⟨a, o, l, vd, rfl, d, hk, hvd, rfl⟩ := hx.dictX le
    have hvl : vd.length = l.length := by rw [← hvd.len, List.length_map]
    rw [keys_zip hvl] at e
    split at e
    · next ok =>
      cases Option.some.inj e
      exact ⟨a, o, l, Dat P w K F, rfl, d, Dats.dp le hk (lay_all ok.2.2.2), dats_each hk, ok, fun ys l n h => k l _ n (.lst upd_same (each_dats h))⟩
    · cases e
  · cases e
theorem lo_sortIX {td : TE} {e : EF} (h : LE P w K td e) : LO P w K (tCB (rSortIX P w K) (tCons (tItemsX P w K td) tNil)) (oSortIX e) := by
  intro C F ow δ σ H r x δ' eq Q k
  obtain ⟨⟨x1, δ1⟩, e1, eq⟩ := Option.bind_eq_some_iff.mp eq
  obtain ⟨d, v1, eq⟩ := Option.bind_eq_some_iff.mp eq
  obtain ⟨kvs, e2, eq⟩ := Option.bind_eq_some_iff.mp eq
  dsimp only at eq
  split at eq
  case isFalse => cases eq
  next ok =>
  cases Option.some.inj eq
  refine h C F ow δ σ H r _ _ e1 _ fun v F1 ow1 H1 r1 l1 h1 => ?_
  have ob := r1.ob h1 v1
  rw [show d = mkX kvs from dX_at e2] at ob
  obtain ⟨a, o, l, vd, rfl, at1, hk, hv, rfl⟩ := ob.dictX r1.le
  rw [items_zip] at ok k
  refine ⟨a, o, l, rfl, at1, fun p np => ?_⟩
  obtain ⟨r2, n1, n2, n3, l2⟩ := r1.freshN (ViewO p a) np
  have up : Le H1 (upd H1 p (ViewO p a)) := fun b u e => by rw [upd_ne (ne_of_none e np)]; exact e
  refine ⟨p, a, o, l, vd, rfl, upd_same, ⟨up _ _ at1.at', at1.nest, fun x hx => (at1.keys x hx).mono up.fle⟩, hv.mono r2.le.fle, ok, fun ts nd hn ys lst nl hr => ?_⟩
  have ex := ex_updM (F := F1) nd hn
  obtain ⟨r3, l3⟩ := r2.ex ex
  obtain ⟨r4, m1, m2, m3, l4⟩ := r3.freshN (.lst ys) nl
  refine k lst (updM F1 ts) ow1 _ r4 (l1.trans (l2.trans (l3.trans l4))) ((l1.trans (l2.trans l3)).no nl) m1 m2 m3 ⟨_, upd_same⟩ (.lst upd_same (each_dats (each_imp hr fun v dd ⟨i, y, T, h1, h2, h3, h4⟩ => ?_)))
  subst h3
  obtain ⟨ka, va, f1, f2, rfl⟩ := zipT_get h2
  obtain ⟨ob, h4, h5⟩ := h4
  exact .tup ⟨ob, updM_in nd h4, h5⟩ (.cons ((dats_at hk (by rw [List.getElem?_map, h1]; rfl) f1).mono l3.le) (.cons ((dats_at hv (by rw [List.getElem?_map, h1]; rfl) f2).mono l3.le) .nil))
end
/-! ### comprehensions with two walks -/
def innF (vs : List Nat) (g : GF) (t : TF) (e : EF) : List DT → DS → List DT → Option (List DT × DS)
  | [], δ, acc => some (acc, δ)
  | d :: r, δ, acc => (g d (wipeD δ vs)).bind fun δ2 => (t δ2).bind fun p => if p.1 = true then (e p.2).bind fun q => (frzV q.2 q.1).bind fun y => if acc.length < sizeLine then innF vs g t e r (putB δ y.2 vs) (acc ++ [y.1]) else none
    else innF vs g t e r (putB δ p.2 vs) acc
def compF2 (vs : List Nat) (g : GF) (t : TF) (it1 : IF) (vs1 : List Nat) (g1 : GF) (t1 : TF) (e : EF) : List DT → DS → List DT → Option (DT × DS)
  | [], δ, acc => some (.list acc, δ)
  | d :: r, δ, acc => (g d (wipeD δ vs)).bind fun δ2 => (t δ2).bind fun p => if p.1 = true then (it1 p.2).bind fun q => (innF vs1 g1 t1 e q.1 q.2 acc).bind fun y => compF2 vs g t it1 vs1 g1 t1 e r (putB δ y.2 vs) y.1
    else compF2 vs g t it1 vs1 g1 t1 e r (putB δ p.2 vs) acc
def oLc2 (it : IF) (vs : List Nat) (g : GF) (t : TF) (it1 : IF) (vs1 : List Nat) (g1 : GF) (t1 : TF) (e : EF) : OF := fun δ => (it δ).bind fun p => compF2 vs g t it1 vs1 g1 t1 e p.1 p.2 []
section
variable {P : Program} {w : World} {K : PySem.W.Frag}
theorem lo_lc2 {wi wi1 : L2.TI} {g g1 : TG} {tt tt1 : TT} {te : TE} {vs vs1 ts ts1 : List Nat} {it it1 : IF} {gf gf1 : GF} {tf tf1 : TF} {ef : EF} (hi : LI P w K wi it) (hg : LG P w K g gf ts) (ht : LT P w K tt tf) (hi1 : LI P w K wi1 it1) (hg1 : LG P w K g1 gf1 ts1) (ht1 : LT P w K tt1 tf1) (he : LE P w K te ef) (hv : ts.all (fun i => vs.contains i) = true) (hv1 : ts1.all (fun i => vs1.contains i) = true) (hv2 : vs1.all (fun i => vs.contains i) = true) : LO P w K (tLc2 wi g tt wi1 g1 tt1 te vs vs1) (oLc2 it vs gf tf it1 vs1 gf1 tf1 ef) := by
  intro C F ow δ σ H r0 res δf e Q k
  obtain ⟨⟨ds, δ1⟩, e1, e⟩ := Option.bind_eq_some_iff.mp e
  have sub : ∀ {a b : List Nat}, a.all (fun i => b.contains i) = true → ∀ i, i ∉ b → i ∉ a := fun {a b} h i n z => n (by
    have := List.all_eq_true.mp h i z
    exact List.elem_iff.mp this)
  have hv' := sub hv
  have hv1' := sub hv1
  have hv2' := sub hv2
  refine hi C F ow δ σ H r0 _ _ e1 _ fun J F1 ow1 H1 r1 l1 vw D nD => ?_
  obtain ⟨rD, nF, nw, n0⟩ := r1.fresh (.lst []) nD
  have lD : Nx C F1 ow1 H1 F1 ow1 (upd H1 D (.lst [])) := ⟨Fle.refl _, fun b u h f g _ => ⟨by rw [upd_ne (ne_of_none h nD)]; exact h, f, g⟩, fun b u h => ⟨u, (upd_ne (ne_of_none h nD)).trans h⟩⟩
  refine ⟨fun i m H => m = ds.length - i ∧ i ≤ ds.length ∧ ∃ F2 ow2 δ2 acc accd, R P w K C F2 ow2 δ2 σ H ∧ Nx C F1 ow1 H1 F2 ow2 H ∧ F2 D = none ∧ ow2 D = none ∧ H D = some (.lst acc) ∧ Dats P w K F2 acc accd ∧ compF2 vs gf tf it1 vs1 gf1 tf1 ef (ds.drop i) δ2 accd = some (res, δf), ⟨ds.length, rfl, Nat.zero_le _, F1, ow1, δ1, [], [], rD, lD, nF, nw, upd_same, .nil, e⟩, ?_⟩
  rintro i m H2 ⟨rfl, hi, F2, ow2, δ2, acc, accd, r2, l2, nF2, nw2, eD, hacc, e2⟩
  by_cases hlt : i < ds.length
  · refine .inr ⟨vw.goes i H2 F2 l2.le r2.le hlt, fun H3 => ∃ F3 ow3 δ3 acc accd, R P w K C F3 ow3 δ3 σ H3 ∧ Nx C F1 ow1 H1 F3 ow3 H3 ∧ F3 D = none ∧ ow3 D = none ∧ H3 D = some (.lst acc) ∧ Dats P w K F3 acc accd ∧ compF2 vs gf tf it1 vs1 gf1 tf1 ef (ds.drop (i + 1)) δ3 accd = some (res, δf), fun H3 h => ⟨_, by omega, rfl, hlt, h⟩, fun x H3 y => ?_⟩
    obtain ⟨F3, d, ex, hd, dx⟩ := vw.yields i H2 x H3 F2 l2.le r2.le hlt y
    obtain ⟨r3, l3⟩ := r2.ex ex
    obtain ⟨eD3, nF3, nw3⟩ := l3.fr D _ eD nF2 nw2 n0
    have hdr : ds.drop i = d :: ds.drop (i + 1) := by
      rw [List.drop_eq_getElem_cons hlt]
      rw [List.getElem?_eq_getElem hlt] at hd
      rw [Option.some.inj hd]
    rw [hdr] at e2
    obtain ⟨δ4, e4, e2⟩ := Option.bind_eq_some_iff.mp e2
    obtain ⟨⟨b, δ5⟩, e5, e2⟩ := Option.bind_eq_some_iff.mp e2
    have rw3 : R P w K C F3 ow2 (wipeD δ2 vs) (wipe σ vs) H3 := r3.resl (by rw [wipe_length, wipeD_length]; exact r3.len) fun j s q => by
      rcases wipeD_at q with q | ⟨q, n⟩
      · exact .inl q
      · exact .inr (.inr ⟨q, wipe_out n⟩)
    have back : ∀ {F5 ow5 δ5 σ5 H5}, R P w K C F5 ow5 δ5 σ5 H5 → Fle F3 F5 → δ5.length = δ2.length → (∀ i, i ∉ vs → σ5[i]? = (wipe σ vs)[i]?) → R P w K C F5 ow5 (putB δ2 δ5 vs) σ H5 := fun {F5 ow5 δ5 σ5 H5} r5 l5 hl h5 => by
      refine r5.resl (by rw [putB_length, hl]; exact r3.len) fun j s q => ?_
      rcases putB_at q with q | ⟨d, rfl, q'⟩ | ⟨q, n⟩
      · exact .inl q
      · have z := r3.sl j _ q'
        generalize hy : σ[j]? = yy at z
        cases z with
        | @dat v _ hd => exact .inr (.inl ⟨v, d, rfl, rfl, hd.mono l5⟩)
      · exact .inr (.inr ⟨q, ((h5 j n).trans (wipe_out n)).symm⟩)
    refine hg C F3 ow2 _ _ H3 rw3 d δ4 e4 x dx _ fun ow4 σ4 r4 z4 y4 => ?_
    have nw4 := z4 D nw2
    refine ⟨(wipe_eq y4.1 fun j n => y4.2 j (hv' j n)).trans (wipe_eq (wipe_length ..) fun j n => wipe_out n), ?_⟩
    have len4 : σ4.length = δ2.length := by rw [y4.1, wipe_length, r3.len]
    have l4 : Nx C F3 ow2 H3 F3 ow4 H3 := ⟨Fle.refl _, fun a o h f g _ => ⟨h, f, z4 a g⟩, fun a o h => ⟨o, h⟩⟩
    refine ht C F3 ow4 δ4 σ4 H3 r4 b δ5 e5 _ fun F5 ow5 H5 r5 l5 => ?_
    obtain ⟨eD5, nF5, nw5⟩ := l5.fr D _ eD3 nF3 nw4 n0
    have lA5 : Nx C F1 ow1 H1 F5 ow5 H5 := l2.trans (l3.trans (l4.trans l5))
    cases b with
    | true =>
      obtain ⟨⟨ds1, δ6⟩, e6, e2⟩ := Option.bind_eq_some_iff.mp e2
      obtain ⟨⟨accf, δ7⟩, e7, e2⟩ := Option.bind_eq_some_iff.mp e2
      refine iteT (hi1 C F5 ow5 δ5 σ4 H5 r5 _ _ e6 _ fun J1 F6 ow6 H6 r6 l6 vw1 => ?_)
      obtain ⟨eD6, nF6, nw6⟩ := l6.fr D _ eD5 nF5 nw5 n0
      refine ⟨fun j m H => m = ds1.length - j ∧ j ≤ ds1.length ∧ ∃ F7 ow7 δ7' acc accd, R P w K C F7 ow7 δ7' σ4 H ∧ Nx C F1 ow1 H1 F7 ow7 H ∧ Fle F6 F7 ∧ F7 D = none ∧ ow7 D = none ∧ H D = some (.lst acc) ∧ Dats P w K F7 acc accd ∧ innF vs1 gf1 tf1 ef (ds1.drop j) δ7' accd = some (accf, δ7), ⟨ds1.length, rfl, Nat.zero_le _, F6, ow6, δ6, acc, accd, r6, lA5.trans l6, Fle.refl _, nF6, nw6, eD6, hacc.mono (l3.trans (l4.trans (l5.trans l6))).le, e7⟩, ?_⟩
      rintro j m H7 ⟨rfl, hj, F7, ow7, δ7', acc7, accd7, r7, l7, g7, nF7, nw7, eD7, hacc7, e8⟩
      by_cases hlt1 : j < ds1.length
      · refine .inr ⟨vw1.goes j H7 F7 g7 r7.le hlt1, fun H => ∃ F8 ow8 δ8 acc accd, R P w K C F8 ow8 δ8 σ4 H ∧ Nx C F1 ow1 H1 F8 ow8 H ∧ Fle F6 F8 ∧ F8 D = none ∧ ow8 D = none ∧ H D = some (.lst acc) ∧ Dats P w K F8 acc accd ∧ innF vs1 gf1 tf1 ef (ds1.drop (j + 1)) δ8 accd = some (accf, δ7), fun H8 h => ⟨_, by omega, rfl, hlt1, h⟩, fun x8 H8 y8 => ?_⟩
        obtain ⟨F8, d8, ex8, hd8, dx8⟩ := vw1.yields j H7 x8 H8 F7 g7 r7.le hlt1 y8
        obtain ⟨r8, l8⟩ := r7.ex ex8
        obtain ⟨eD8, nF8, nw8⟩ := l8.fr D _ eD7 nF7 nw7 n0
        have hdr8 : ds1.drop j = d8 :: ds1.drop (j + 1) := by
          rw [List.drop_eq_getElem_cons hlt1]
          rw [List.getElem?_eq_getElem hlt1] at hd8
          rw [Option.some.inj hd8]
        rw [hdr8] at e8
        obtain ⟨δ9, e9, e8⟩ := Option.bind_eq_some_iff.mp e8
        obtain ⟨⟨b1, δ10⟩, e10, e8⟩ := Option.bind_eq_some_iff.mp e8
        have rw8 : R P w K C F8 ow7 (wipeD δ7' vs1) (wipe σ4 vs1) H8 := r8.resl (by rw [wipe_length, wipeD_length]; exact r8.len) fun j s q => by
          rcases wipeD_at q with q | ⟨q, n⟩
          · exact .inl q
          · exact .inr (.inr ⟨q, wipe_out n⟩)
        have back8 : ∀ {F5 ow5 δ5 σ5 H5}, R P w K C F5 ow5 δ5 σ5 H5 → Fle F8 F5 → δ5.length = δ7'.length → (∀ i, i ∉ ts1 → σ5[i]? = (wipe σ4 vs1)[i]?) → R P w K C F5 ow5 (putB δ7' δ5 vs1) σ4 H5 := fun {F5 ow5 δ5 σ5 H5} r5 l5 hl h5 => by
          refine r5.resl (by rw [putB_length, hl]; exact r8.len) fun j s q => ?_
          rcases putB_at q with q | ⟨d, rfl, q'⟩ | ⟨q, n⟩
          · exact .inl q
          · have z := r8.sl j _ q'
            generalize hy : σ4[j]? = yy at z
            cases z with
            | @dat v _ hd => exact .inr (.inl ⟨v, d, rfl, rfl, hd.mono l5⟩)
          · exact .inr (.inr ⟨q, ((h5 j (hv1' j n)).trans (wipe_out n)).symm⟩)
        refine hg1 C F8 ow7 _ _ H8 rw8 d8 δ9 e9 x8 dx8 _ fun ow9 σ9 r9 z9 y9 => ?_
        have nw9 := z9 D nw8
        refine ⟨(wipe_eq y9.1 fun j n => y9.2 j (hv1' j n)).trans (wipe_eq (wipe_length ..) fun j n => wipe_out n), ?_⟩
        have len9 : σ9.length = δ7'.length := by rw [y9.1, wipe_length, r8.len]
        have l9 : Nx C F8 ow7 H8 F8 ow9 H8 := ⟨Fle.refl _, fun a o h f g _ => ⟨h, f, z9 a g⟩, fun a o h => ⟨o, h⟩⟩
        refine ht1 C F8 ow9 δ9 σ9 H8 r9 b1 δ10 e10 _ fun F10 ow10 H10 r10 l10 => ?_
        obtain ⟨eD10, nF10, nw10⟩ := l10.fr D _ eD8 nF8 nw9 n0
        cases b1 with
        | true =>
          obtain ⟨⟨x11, δ11⟩, e11, e8⟩ := Option.bind_eq_some_iff.mp e8
          obtain ⟨⟨d12, δ12⟩, e12, e8⟩ := Option.bind_eq_some_iff.mp e8
          dsimp only at e8
          split at e8
          · next hacl =>
            refine iteT (he C F10 ow10 δ10 σ9 H10 r10 x11 δ11 e11 _ fun v11 F11 ow11 H11 r11 l11 h11 => ?_)
            obtain ⟨eD11, nF11, nw11⟩ := l11.fr D _ eD10 nF10 nw10 n0
            obtain ⟨F12, ow12, l12, r12, d12'⟩ := r11.freezeN h11 e12
            obtain ⟨eD12, nF12, nw12⟩ := l12.fr D _ eD11 nF11 nw11 n0
            have lB := l8.trans (l9.trans (l10.trans (l11.trans l12)))
            have lA : Nx C F1 ow1 H1 F12 ow12 H11 := l7.trans lB
            have rB := back8 r12 (l10.trans (l11.trans l12)).le (by rw [← r12.len]; exact len9) (fun j n => y9.2 j n)
            refine ⟨acc7, eD12, by rw [hacc7.len]; exact hacl, F12, ow12, _, acc7 ++ [v11], _, rB.touch _ nF12 nw12 n0, ⟨lA.le, fun a o h f g q => ?_, fun a o h => ?_⟩, g7.trans lB.le, nF12, nw12, upd_same, (hacc7.mono lB.le).snoc d12', e8⟩
            · obtain ⟨h1, f1, g1⟩ := lA.fr a o h f g q
              exact ⟨by rw [upd_ne (ne_of_none h nD)]; exact h1, f1, g1⟩
            · rw [upd_ne (ne_of_none h nD)]
              exact lA.dm a o h
          · cases e8
        | false =>
          have lB := l8.trans (l9.trans l10)
          have rB := back8 r10 l10.le (by rw [← r10.len]; exact len9) (fun j n => y9.2 j n)
          exact iteF ⟨F10, ow10, _, acc7, _, rB, l7.trans lB, g7.trans lB.le, nF10, nw10, eD10, hacc7.mono lB.le, e8⟩
      · have ej : j = ds1.length := by omega
        subst ej
        rw [List.drop_length] at e8
        cases Option.some.inj e8
        refine .inl ⟨vw1.stops H7 F7 g7 r7.le, F7, ow7, _, acc7, _, back r7 ((l4.trans (l5.trans l6)).le.trans g7) (by rw [← r7.len]; exact len4) (fun j n => y4.2 j (hv' j n)), l7, nF7, nw7, eD7, hacc7, e2⟩
    | false =>
      have rB := back r5 l5.le (by rw [← r5.len]; exact len4) (fun j n => y4.2 j (hv' j n))
      exact iteF ⟨F5, ow5, _, acc, _, rB, lA5, nF5, nw5, eD5, hacc.mono (l3.trans (l4.trans l5)).le, e2⟩
  · have ei : i = ds.length := by omega
    subst ei
    rw [List.drop_length] at e2
    cases Option.some.inj e2
    exact .inl ⟨vw.stops H2 F2 l2.le r2.le, k D F2 ow2 H2 r2 (l1.trans l2) (l1.no nD) nF2 nw2 n0 ⟨_, eD⟩ (.lst eD hacc)⟩
/-- int("1" + "0" * 900) -/
theorem le_big : LE P w K (tCB (fun xs H Q => xs = [.str bigT] ∧ Q (.int (10 ^ 900)) H) (tCons (tOp (fun x y H Q => ∃ i j, x = .str i ∧ y = .str j ∧ i.length + j.length ≤ sizeLine ∧ Q (.str (i ++ j)) H) (tC (.str "1")) (tOp (fun x y H Q => ∃ (z : Str) (k : Int), x = .str z ∧ y = .int k ∧ z.length ≤ 16 ∧ 0 ≤ k ∧ k ≤ 1048576 ∧ Q (.str (PySem.Txt.mul z k)) H) (tC (.str "0")) (tC (.int 900)))) tNil)) (eC (.int (10 ^ 900))) := by
  intro C F ow δ σ H r x δ' e Q k
  cases Option.some.inj e
  exact ⟨_, _, rfl, rfl, by decide, by decide, by decide, _, _, rfl, rfl, by decide +kernel, rfl, k _ F ow H r Nx.refl (.int _)⟩
end
/-! ### rules whose written part is named -/
section
variable {X : Cx} {K : PySem.W.Frag}
theorem kOp {f : Value → Value → Sem Value} (r : PySem.W.Frag → R2) (h : OpR X f (r X.K)) (e : X.K = K) : OpR X f (r K) := e ▸ h
theorem kIx (r : PySem.W.Frag → R2) (h : IxR X (r X.K)) (e : X.K = K) : IxR X (r K) := e ▸ h
theorem kCl {f : Value} (r : PySem.W.Frag → List V → Hp → VK → Prop) (h : CallR X f (r X.K)) (e : X.K = K) : CallR X f (r K) := e ▸ h
theorem kSl (r : PySem.W.Frag → V → Option Int → Option Int → Hp → VK → Prop) (h : SlR X (r X.K)) (e : X.K = K) : SlR X (r K) := e ▸ h
theorem kPE {e : Expr} (t : PySem.W.Frag → TE) (h : PE X e (t X.K)) (q : X.K = K) : PE X e (t K) := q ▸ h
theorem xOp {P : Program} {w : World} {f : Value → Value → Sem Value} (r : Program → World → PySem.W.Frag → R2) (h : OpR X f (r X.prog X.w X.K)) (e1 : X.prog = P) (e2 : X.w = w) (e3 : X.K = K) : OpR X f (r P w K) := by
  subst e1 e2 e3
  exact h
theorem xIx {P : Program} {w : World} (r : Program → World → PySem.W.Frag → R2) (h : IxR X (r X.prog X.w X.K)) (e1 : X.prog = P) (e2 : X.w = w) (e3 : X.K = K) : IxR X (r P w K) := by
  subst e1 e2 e3
  exact h
theorem xCl {P : Program} {w : World} {f : Value} (r : Program → World → PySem.W.Frag → List V → Hp → VK → Prop) (h : CallR X f (r X.prog X.w X.K)) (e1 : X.prog = P) (e2 : X.w = w) (e3 : X.K = K) : CallR X f (r P w K) := by
  subst e1 e2 e3
  exact h
def rLen (K : PySem.W.Frag) : List V → Hp → VK → Prop := fun xs H Q => ∃ x n, xs = [x] ∧ LenV K x H n ∧ Q (.int n) H
theorem call_lenK : CallR X (.builtin "len") (rLen X.K) := call_len
def rListOf (K : PySem.W.Frag) : List V → Hp → VK → Prop := fun xs H Q => ∃ p ys, xs = [.ref p] ∧ (SqL K H p ys ∨ SqT K H p ys) ∧ ∀ l, H l = none → Q (.ref l) (upd H l (.lst ys))
theorem call_listK : CallR X (.type "list") (rListOf X.K) := call_list_of
def rSumT (K : PySem.W.Frag) : List V → Hp → VK → Prop := fun vs H Q => ∃ (a : Addr) (ns : List Int), vs = [V.ref a] ∧ SqT K H a (ns.map V.int) ∧ Q (.int ns.sum) H
end
/-! ### isinstance -/
def typeD : DT → String
  | .none => "NoneType"
  | .bool _ => "bool"
  | .int _ => "int"
  | .str _ => "str"
  | .list _ => "list"
  | .tuple _ => "tuple"
  | .dict _ => "dict"
def isaD (T : String) (d : DT) : Bool := typeD d == T || (T == "int" && typeD d == "bool")
def isDct : DT → Bool
  | .dict _ => true
  | _ => false
def eIsi (T : String) (e : EF) : EF := fun δ => (e δ).bind fun p => (val p.2 p.1).bind fun d => if isDct d = true then none else some (.d (.bool (isaD T d)), p.2)
section
variable {P : Program} {w : World} {K : PySem.W.Frag}
theorem ob_ty {F H : Hp} (le : Le F H) {v : V} {d : DT} (x : Ob P w K F H v d) (n : isDct d ≠ true) : TyX K H v (.type (typeD d)) := by
  cases x with
  | non => exact .base .non
  | bl b => exact .base (.bl b)
  | int i => exact .base (.int i)
  | str z => exact .base (.str z)
  | scr e => exact absurd rfl n
  | lst e t => exact .base (.lst e)
  | tup e t =>
    obtain ⟨o, e, _⟩ := e.le le
    exact .fTuple e
  | pr _ _ _ => exact absurd rfl n
  | dK e f t g => exact absurd rfl n
  | dX e n' f g k s t q => exact absurd rfl n
theorem le_isi {T : String} {t : TE} {e : EF} (hT : ["NoneType", "bool", "int", "str", "list", "tuple"].all (fun a => decide (kitB a T = some (a == T || (T == "int" && a == "bool")))) = true) (h : LE P w K t e) : LE P w K (tCB (rIsi K) (tCons t (tCons (tC (.ty T)) tNil))) (eIsi T e) := by
  intro C F ow δ σ H r x δ' eq Q k
  obtain ⟨⟨x1, δ1⟩, e1, eq⟩ := Option.bind_eq_some_iff.mp eq
  obtain ⟨d, v1, eq⟩ := Option.bind_eq_some_iff.mp eq
  dsimp only at eq
  split at eq
  case isTrue => cases eq
  next nd =>
  cases Option.some.inj eq
  refine h C F ow δ σ H r _ _ e1 _ fun v F1 ow1 H1 r1 l1 h1 => ?_
  refine ⟨v, .ty T, .type (typeD d), .type T, isaD T d, rfl, .ty T, ob_ty r1.le (r1.ob h1 v1) nd, kit_ty ?_, k _ F1 ow1 H1 r1 l1 (.bl _)⟩
  have := List.all_eq_true.mp hT (typeD d) (by cases d <;> first | (exact absurd rfl nd) | simp [typeD])
  exact of_decide_eq_true this
end
def fSumT : List DT → Option DT
  | [.tuple ds] => (intsD ds).map fun ns => .int ns.sum
  | _ => none
section
variable {P : Program} {w : World} {K : PySem.W.Frag}
theorem cbl_sumT : CbL P w K (rSumT K) fSumT := by
  intro F H vs ds dz le hv e Q k
  unfold fSumT at e
  split at e
  · obtain ⟨ns, h1, h2⟩ := Option.map_eq_some_iff.mp e
    subst h2
    obtain ⟨v, rfl, hx⟩ := one_ob hv
    obtain ⟨a, us, rfl, _, ha, hd⟩ := hx.tupE le
    rw [intsD_eq h1] at hd
    rw [hd.ints] at ha
    exact ⟨a, ns, rfl, ha, k _ F H .refl (.int _)⟩
  · cases e
end
/-! ### t.count(x) of numbers -/
section
variable {X : Cx}
def tCntT (to te : TE) : TE := fun σ H Q => to σ H fun x H1 => ∃ (a : Addr) (ns : List Int), x = .ref a ∧ TupF H1 a (ns.map V.int) ∧ te σ H1 fun y H2 => ∃ k : Int, y = .int k ∧ TupF H2 a (ns.map V.int) ∧ Q (.int (ns.count k : Nat)) H2
theorem frz_obj {pins : List (Addr × Obj)} {σ : L2.St} {H : Hp} {s : Shared} (I : L2.Inv X pins σ H s) {a : Addr} {vs : List V} (h : TupF H a vs) : ∃ (o : Obj) (its : List Value) (n : Nat), s.heap.get? a = some o ∧ BareO o ∧ o.cls = .type "tuple" ∧ o.data = .seq its.toArray n ∧ Vals vs its := by
  obtain ⟨o, e, nd⟩ := h
  obtain ⟨h0, _, its, v, o', h1, h2, n, h3⟩ := (show _ ∧ _ ∧ ∃ its, _ from I.hok a _ e)
  rw [h0] at h1
  cases Option.some.inj h1
  exact ⟨o, its, n, h0, nd, h2, h3, v⟩
theorem vals_int : ∀ {ns : List Int} {us : List Value}, Vals (ns.map V.int) us → (∀ u ∈ us, ∃ i t, u = Value.int i t) ∧ ∀ (k : Int), us.countP (fun u => match u with | .int i _ => i == k | _ => false) = ns.count k
  | [], us, h => by
    cases h
    exact ⟨fun u h => (by cases h), fun k => rfl⟩
  | n :: r, us, h => by
    cases h with
    | cons a b =>
      obtain ⟨t, rfl⟩ := a
      obtain ⟨h1, h2⟩ := vals_int b
      refine ⟨fun u h => ?_, fun k => ?_⟩
      · rcases List.mem_cons.mp h with rfl | h
        · exact ⟨n, t, rfl⟩
        · exact h1 u h
      · rw [List.countP_cons, List.count_cons, h2 k]
theorem pe_tcnt {o e : Expr} {apos cpos : Pos} {to te : TE} (ho : PE X o to) (he : PE X e te) (m : M1 X o "count" apos e cpos) : PE X (.Call (.Attribute o "count" apos) [e] [] cpos) (tCntT to te) := by
  refine ⟨fun pins s σ H Q I h => ?_⟩
  refine wpAny_Call_method (T := "tuple") (id := "tuple.count") m.base m.few m.line F.plainAttrs_tuple F.slot_tuple_count F.type_tuple_count (thn (ho.run pins s σ H _ I h) fun u s1 ⟨x, H1, I1, rx, a, ns, ex, hT, q⟩ => ?_)
  subst ex
  obtain rfl : u = Value.ref a := rx
  obtain ⟨ob, its, n, h0, nd, hc, hd, v⟩ := frz_obj I1 hT
  refine ⟨⟨ob, h0, hc⟩, fun b e => by cases e; exact ⟨ob, h0, nd.1⟩, ?_⟩
  rw [m.trees]
  refine P.count_tuple (thn (he.run pins s1 σ H1 _ I1 q) fun w2 s2 ⟨y, H2, I2, ry, k, ey, hT2, q2⟩ => ?_)
  subst ey
  obtain ⟨t, rfl⟩ := ry
  obtain ⟨ob2, its2, n2, g0, nd2, gc, gd, v2⟩ := frz_obj I2 hT2
  obtain ⟨h1, h2⟩ := vals_int v2
  refine ⟨its2.toArray, n2, fun u => match u with | .int i _ => i == k | _ => false, ?_, fun y hy => ?_, ?_⟩
  · obtain ⟨cls, dd, data, sl⟩ := ob2
    obtain ⟨n1, n3⟩ := nd2
    simp only at gc gd n1 n3
    subst gc gd n1 n3
    exact g0
  · obtain ⟨i, t', rfl⟩ := h1 y (by simpa using hy)
    exact MeetsSeq.EqGives.int i k t' t
  · have e3 : List.countP (fun u => match u with | Value.int i _ => i == k | _ => false) its2.toArray.toList = ns.count k := h2 k
    rw [e3]
    exact ⟨.int (ns.count k : Nat), H2, I2.tok _, ⟨_, rfl⟩, q2⟩
end
def eCntT (eo ex : EF) : EF := fun δ => (eo δ).bind fun p => (val p.2 p.1).bind fun d0 => match d0 with
  | .tuple ds => (intsD ds).bind fun ns => (ex p.2).bind fun q => (val q.2 q.1).bind fun k => match k with
    | .int i => some (.d (.int (ns.count i : Nat)), q.2)
    | _ => none
  | _ => none
section
variable {P : Program} {w : World} {K : PySem.W.Frag}
theorem le_cntT {to te : TE} {eo ex : EF} (ho : LE P w K to eo) (hx : LE P w K te ex) : LE P w K (tCntT to te) (eCntT eo ex) := by
  intro C F ow δ σ H r x δ' eq Q k
  obtain ⟨⟨x1, δ1⟩, e1, eq⟩ := Option.bind_eq_some_iff.mp eq
  obtain ⟨d0, v0, eq⟩ := Option.bind_eq_some_iff.mp eq
  cases d0 with
  | tuple ds =>
    obtain ⟨ns, e2, eq⟩ := Option.bind_eq_some_iff.mp eq
    obtain ⟨⟨x2, δ2⟩, e3, eq⟩ := Option.bind_eq_some_iff.mp eq
    obtain ⟨kd, v3, eq⟩ := Option.bind_eq_some_iff.mp eq
    refine ho C F ow δ σ H r _ _ e1 _ fun v F1 ow1 H1 r1 l1 h1 => ?_
    obtain ⟨a, us, rfl, f1, ha, hd⟩ := (r1.ob h1 v0).tupE r1.le
    rw [intsD_eq e2] at hd
    rw [hd.ints] at ha f1
    refine ⟨a, ns, rfl, f1.le r1.le, hx C F1 ow1 δ1 σ H1 r1 _ _ e3 _ fun u F2 ow2 H2 r2 l2 h2 => ?_⟩
    have obk := r2.ob h2 v3
    cases kd with
    | int i =>
      cases Option.some.inj eq
      cases obk
      exact ⟨i, rfl, (f1.mono l2.le).le r2.le, k _ F2 ow2 H2 r2 (l1.trans l2) (.int _)⟩
    | _ => cases eq
  | _ => cases eq
end
/-! ### a dict with nested keys beside an empty one -/
section
variable {prog : Program} {w : World} {A : Around} {E : Value → Shared → Prop} {s : Shared} {a b : Addr} {oa ob : Obj} {es : Array DictEntry} {ep ep' : Nat}
theorem pairs_nil {M : Model} {nm : String} {Q : Bool → Shared → Prop} (na : (a == sysModules) = false) (nb : (b == sysModules) = false) (ga : s.heap.get? a = some oa) (da : oa.data = .dict es ep) (gb : s.heap.get? b = some ob) (db : ob.data = .dict #[] ep') (q : Q (es.size == 0) s) : wpAny M A (Builtin.Dict.samePairs nm a b) Q E s := by
  unfold Builtin.Dict.samePairs Builtin.Dict.showsAll
  rw [if_neg (by rw [na]; decide), if_neg (by rw [nb]; decide)]
  refine wpAny_bind (wpAny_pure (wpAny_bind (wpAny_pure (wpAny_bind (wpAny_dictEntries ga da (wpAny_bind (wpAny_dictEntries gb db ?_)))))))
  by_cases h : es.size = 0
  · rw [if_neg (by rw [h]; decide)]
    refine wpAny_bind (wpAny_dictEpoch ga da ?_)
    rw [h] at q ⊢
    have q : Q true s := q
    refine wpAny_bind ?_
    rw [Std.Legacy.Range.forIn_eq_forIn_range']
    exact wpAny_pure (wpAny_pure q)
  · rw [if_pos (by simpa using h)]
    have q : Q false s := by
      have e : (es.size == 0) = false := by simpa using h
      rw [e] at q
      exact q
    exact wpAny_bind (wpAny_rule (wpAny_pure q))
theorem eq_call {Q : Value → Shared → Prop} (na : (a == sysModules) = false) (nb : (b == sysModules) = false) (ta : s.TypeIs (.ref a) "dict") (tb : s.TypeIs (.ref b) "dict") (ga : s.heap.get? a = some oa) (da : oa.data = .dict es ep) (gb : s.heap.get? b = some ob) (db : ob.data = .dict #[] ep') (hu : A.units < cLine) (q : Q (.bool (es.size == 0)) s) : wpAny (model prog w) A (compareOp .Eq (.ref a) (.ref b)) Q E s := by
  show wpAny _ _ (richCompare .Eq _ _) _ _ _
  refine wpAny_richCompare_same_room ta tb F.slot_dict_eq ?_ hu
  refine wpAny_call_entry (b := Builtin.«dict.__eq__») F.slot_dict_eq ta F.entry_dict_eq ?_ (F.args_dict_eq_2 _ _)
  refine wpAny_bind ?_
  unfold Builtin.Dict.dictSlotArgs
  refine wpAny_bind (wpAny_notOrdered_dict ta (wpAny_bind ?_))
  show wpAny _ _ (pure (Value.ref a, [Value.ref b])) _ _ _
  refine wpAny_pure (wpAny_pure ?_)
  dsimp only
  refine wpAny_bind (wpAny_isInstance tb F.sub_dict_dict ?_)
  rw [if_neg (by decide)]
  refine wpAny_bind (wpAny_pure (wpAny_bind (wpAny_pure (wpAny_bind (pairs_nil na nb ga da gb db ?_)))))
  refine wpAny_pure ⟨_, rfl, by simp, ?_⟩
  rw [beq_true]
  exact q
theorem ne_call {Q : Value → Shared → Prop} (na : (a == sysModules) = false) (nb : (b == sysModules) = false) (ta : s.TypeIs (.ref a) "dict") (tb : s.TypeIs (.ref b) "dict") (ga : s.heap.get? a = some oa) (da : oa.data = .dict es ep) (gb : s.heap.get? b = some ob) (db : ob.data = .dict #[] ep') (hu : A.units < cLine) (q : Q (.bool !(es.size == 0)) s) : wpAny (model prog w) A (compareOp .NotEq (.ref a) (.ref b)) Q E s := by
  show wpAny _ _ (richCompare .NotEq _ _) _ _ _
  refine wpAny_richCompare_same_room ta tb F.slot_dict_ne ?_ hu
  refine wpAny_call_entry (b := Builtin.«dict.__ne__») F.slot_dict_ne ta F.entry_dict_ne ?_ (F.args_dict_ne_2 _ _)
  refine wpAny_bind ?_
  unfold Builtin.Dict.dictSlotArgs
  refine wpAny_bind (wpAny_notOrdered_dict ta (wpAny_bind ?_))
  show wpAny _ _ (pure (Value.ref a, [Value.ref b])) _ _ _
  refine wpAny_pure (wpAny_pure ?_)
  dsimp only
  refine wpAny_bind (wpAny_isInstance tb F.sub_dict_dict ?_)
  rw [if_neg (by decide)]
  refine wpAny_bind (wpAny_pure (wpAny_bind (wpAny_pure (wpAny_bind (pairs_nil na nb ga da gb db ?_)))))
  refine wpAny_pure ⟨_, rfl, by simp, ?_⟩
  rw [beq_false]
  exact q
end
section
variable {X : Cx}
def rEqXE (P : Program) (w : World) (K : PySem.W.Frag) (c : Bool) : R2 := fun x y H Q => ∃ a o l b o', x = .ref a ∧ y = .ref b ∧ AtX P w K H a o l ∧ AtX P w K H b o' [] ∧ Q (.bl (if c = true then l.isEmpty else !l.isEmpty)) H
theorem op_eqXE (hu : X.A.units + 64 < cLine) : OpR X (compareOp .Eq) (rEqXE X.prog X.w X.K true) := by
  intro pins s σ H x y v u Q I rx ry h
  obtain ⟨a, o, l, b, o', rfl, rfl, d, d', q⟩ := h
  cases rx
  cases ry
  obtain ⟨xs, es, ep, _, e2, e3, e4, raw⟩ := rawX I.hok d
  obtain ⟨ys, es', ep', _, f2, f3, f4, raw'⟩ := rawX I.hok d'
  obtain ⟨_, dof, _, _⟩ := dofX I.hok d.at' d.nest d.keys
  obtain ⟨_, dof', _, _⟩ := dofX I.hok d'.at' d'.nest d'.keys
  obtain ⟨ob, g1, _, g3⟩ := raw
  obtain ⟨ob', g1', _, g3'⟩ := raw'
  have hs : es.size = l.length := by rw [size_of_entries e3, Paired.length e4]
  have hs' : es'.size = 0 := by rw [size_of_entries f3, ← Paired.length f4]; rfl
  have hz : es' = #[] := Array.eq_empty_of_size_eq_zero hs'
  rw [hz] at g3'
  refine eq_call d.nest.1 d'.nest.1 dof.typeIs dof'.typeIs g1 g3 g1' g3' (by omega) ⟨.bl l.isEmpty, H, I, ?_, q⟩
  rw [hs]
  cases l <;> rfl
theorem op_neXE (hu : X.A.units + 64 < cLine) : OpR X (compareOp .NotEq) (rEqXE X.prog X.w X.K false) := by
  intro pins s σ H x y v u Q I rx ry h
  obtain ⟨a, o, l, b, o', rfl, rfl, d, d', q⟩ := h
  cases rx
  cases ry
  obtain ⟨xs, es, ep, _, e2, e3, e4, raw⟩ := rawX I.hok d
  obtain ⟨ys, es', ep', _, f2, f3, f4, raw'⟩ := rawX I.hok d'
  obtain ⟨_, dof, _, _⟩ := dofX I.hok d.at' d.nest d.keys
  obtain ⟨_, dof', _, _⟩ := dofX I.hok d'.at' d'.nest d'.keys
  obtain ⟨ob, g1, _, g3⟩ := raw
  obtain ⟨ob', g1', _, g3'⟩ := raw'
  have hs : es.size = l.length := by rw [size_of_entries e3, Paired.length e4]
  have hs' : es'.size = 0 := by rw [size_of_entries f3, ← Paired.length f4]; rfl
  have hz : es' = #[] := Array.eq_empty_of_size_eq_zero hs'
  rw [hz] at g3'
  refine ne_call d.nest.1 d'.nest.1 dof.typeIs dof'.typeIs g1 g3 g1' g3' (by omega) ⟨.bl !l.isEmpty, H, I, ?_, q⟩
  rw [hs]
  cases l <;> rfl
end
def fEqXE (c : Bool) (x y : DT) : Option DT := (dX x).bind fun kvs => (dX y).bind fun e => match e with
  | [] => some (.bool (if c = true then kvs.isEmpty else !kvs.isEmpty))
  | _ => none
section
variable {P : Program} {w : World} {K : PySem.W.Frag}
theorem opl_eqXE (c : Bool) : OpL P w K (rEqXE P w K c) (fEqXE c) := by
  intro F H x y dx dy dz le hx hy e Q k
  obtain ⟨kvs, h1, e⟩ := Option.bind_eq_some_iff.mp e
  obtain ⟨kv2, h2, e⟩ := Option.bind_eq_some_iff.mp e
  have hkv2 : kv2 = [] ∧ dz = .bool (if c = true then kvs.isEmpty else !kvs.isEmpty) := by
    cases kv2 with
    | nil => exact ⟨rfl, (Option.some.inj e).symm⟩
    | cons _ _ => cases e
  obtain ⟨rfl, rfl⟩ := hkv2
  rw [dX_at h1] at hx
  rw [dX_at h2] at hy
  obtain ⟨a, o, l, vd, rfl, d, hk, hv, rfl⟩ := hx.dictX le
  obtain ⟨b, o', l', vd', rfl, d', hk', hv', hz⟩ := hy.dictX le
  have hl' : l' = [] := by
    have := congrArg List.length hz
    rw [zip_len hv'] at this
    exact List.eq_nil_of_length_eq_zero this.symm
  subst hl'
  have he : (List.zip (l.map (·.1.data)) vd).isEmpty = l.isEmpty := by
    have := zip_len hv
    generalize List.zip (l.map (·.1.data)) vd = z at this
    cases z <;> cases l <;> first | rfl | cases this
  refine ⟨a, o, l, b, o', rfl, rfl, d, d', ?_⟩
  rw [← he]
  exact k _ F H .refl (.bl _)
end
section
variable {X : Cx} {P : Program} {w : World} {K : PySem.W.Frag}
theorem pe_itemsP {e : Expr} {td : TE} {apos cpos : Pos} (e1 : X.prog = P) (e2 : X.w = w) (e3 : X.K = K) (he : PE X e td) (hbase : attributeBase e "items" X.env (eval e X.env) = eval e X.env := by rfl) (hline : (apos.endLine == cpos.line) = true := by rfl) : PE X (.Call (.Attribute e "items" apos) [] [] cpos) (tItemsX P w K td) := by
  subst e1 e2 e3
  exact pe_itemsX he hbase hline
end
/-! ### {k: v} -/
section
variable {X : Cx}
def tD1X (P : Program) (w : World) (K : PySem.W.Frag) (tk tv : TE) : TE := fun σ H Q => ∀ p o, H p = none → NestAt P w p o [] → tk σ (upd H p (DX p o)) fun x H1 => tv σ H1 fun y H2 => rSetX P w K (.ref p) x y H2 fun H3 => Q (.ref p) H3
theorem pe_d1X {ek ev : Expr} {pos : Pos} {tk tv : TE} (hu : X.A.units + 64 < cLine) (hk : PE X ek tk) (hv : PE X ev tv) : PE X (.Dict [some ek] [ev] pos) (tD1X X.prog X.w X.K tk tv) := by
  refine ⟨fun pins s σ H Q I h => wpAny_Dict_any rfl rfl (by simp) (by show 1 ≤ 15; decide) ?_⟩
  have dof : (s.heap.push { cls := Value.type "dict", data := Data.dict #[] }).DictOfH (nestedKind X.prog X.w) s.heap.objs.size [] := .new _
  have ho : (s.heap.push { cls := Value.type "dict", data := Data.dict #[] }).get? s.heap.objs.size = some { cls := Value.type "dict", data := Data.dict #[] } := Heap.get?_push_size _ rfl
  have hs : (s.heap.objs.size == sysModules) = false := by
    have := I.big
    rw [beq_eq_false_iff_ne]
    exact Nat.ne_of_gt this
  have I1 := I.laid (t' := s.toks) (fun b u e => Heap.get?_push_of_some _ e) (Nat.le_refl _) (show ObjOk X.prog X.w _ _ _ (DX s.heap.objs.size { cls := Value.type "dict", data := Data.dict #[] }) from ⟨ho, ⟨_, ho⟩, fun h1 h2 e f => f _ e⟩)
  have n0 : NestAt X.prog X.w s.heap.objs.size { cls := Value.type "dict", data := Data.dict #[] } [] := nest_of dof ho .nil hs (by rw [sizeLine_eq]; exact Nat.zero_le _) fun x h => by cases h
  simp only [pairTrees, evalPairs]
  refine wpAny_bind (thn (hk.run pins _ σ _ _ I1 (h _ _ I.fresh n0)) fun u s1 ⟨x, H1, J1, rx, q1⟩ => ?_)
  refine wpAny_bind (wpAny_holding (wpAny_bind (thn (hv.run pins s1 σ H1 _ J1 q1) fun u2 s2 ⟨y, H2, J2, ry, q2⟩ => wpAny_bind (wpAny_standAt (wpAny_pure ?_)))))
  refine wpAny_bind (wpAny_holding (wpAny_pure (wpAny_pure ?_)))
  obtain ⟨a, o, l, k, b, ea, rfl, d, kx, hl, q⟩ := q2
  cases ea
  cases rx
  obtain ⟨xs, dof2, rel, hn⟩ := dofX J2.hok d.at' d.nest d.keys
  simp only [storeAll, List.forIn_cons, List.forIn_nil]
  refine wpAny_bind (wpAny_bind (wpAny_dictSet_heap (knd := nestedKind X.prog X.w) (show X.A.units + 8 < cLine by omega) (kx.is J2.hok) dof2 (fun h' dof' hs' => wpAny_pure ?_) (by rw [← hn]; exact Nat.le_of_lt hl)))
  obtain ⟨o', es, ep, ho', _⟩ := id dof'
  have rel' : Paired RelX (storedX l k b y) (PySem.storedH xs k b u2) := relX_stored rel ry
  have n' : NestAt X.prog X.w s.heap.objs.size o' (storedX l k b y) := nest_of dof' ho' rel' d.nest.1 (Nat.le_trans (storedX_len l k b y) hl) (storedX_depth d.nest.2.2.2.1 kx.depth)
  refine wpAny_pure ⟨.ref _, _, d_write J2 (by rw [d.at']; exact True.intro) hs' ⟨o', ho'⟩ ?_, rfl, q o' n'⟩
  exact ⟨ho', ⟨o', ho'⟩, fun h1 h2 e f => f _ e⟩
end
section
variable {P : Program} {w : World} {K : PySem.W.Frag}
/-- an object that no name has is written -/
theorem R.over {C : Cn} {F H : Hp} {ow : Addr → Option Nat} {δ : DS} {σ : L2.St} (r : R P w K C F ow δ σ H) {a : Addr} (o : HO) (nF : F a = none) (nw : ow a = none) (n0 : C.H0 a = none) : R P w K C F ow δ σ (upd H a o) := by
  have nw' : ∀ b i, ow b = some i → b ≠ a := fun b i e z => by
    rw [z, nw] at e
    cases e
  refine ⟨r.grow, r.new, fun b u e => ?_, fun b u e f g => ?_, fun b u e => ?_, fun b i e => ?_, r.ins, r.len, fun i s e => ?_⟩
  · rw [upd_ne (ne_of_none e nF)]
    exact r.le b u e
  · rw [upd_ne (ne_of_none e n0)]
    exact r.keep b u e f g
  · rw [upd_ne (ne_of_none e n0)]
    exact r.dom b u e
  · rw [upd_ne (nw' b i e)]
    exact r.own b i e
  · have h := r.sl i s e
    generalize σ[i]? = v at h ⊢
    cases h with
    | no => exact .no
    | dat d => exact .dat d
    | own e1 e2 d => exact .own e1 e2 (d.keep (Fle.refl F) (upd_ne (nw' _ _ e1)))
    | bor e1 e2 e3 d => exact .bor e1 e2 e3 (d.keep (Fle.refl F) (upd_ne (nw' _ _ e1)))
def oD1X (ek ev : EF) : OF := fun δ => (ek δ).bind fun p => (frzV p.2 p.1).bind fun y => (ev y.2).bind fun q => (frzV q.2 q.1).bind fun z => (keyX y.1).map fun _ => (mkX [(y.1, z.1)], z.2)
theorem lo_d1X {tk tv : TE} {ek ev : EF} (hk : LE P w K tk ek) (hv : LE P w K tv ev) : LO P w K (tD1X P w K tk tv) (oD1X ek ev) := by
  intro C F ow δ σ H r d δ' e Q k
  obtain ⟨⟨x1, δ1⟩, e1, e⟩ := Option.bind_eq_some_iff.mp e
  obtain ⟨⟨d1, δ2⟩, e2, e⟩ := Option.bind_eq_some_iff.mp e
  obtain ⟨⟨x2, δ3⟩, e3, e⟩ := Option.bind_eq_some_iff.mp e
  obtain ⟨⟨d2, δ4⟩, e4, e⟩ := Option.bind_eq_some_iff.mp e
  obtain ⟨nk, e5, e⟩ := Option.map_eq_some_iff.mp e
  cases e
  intro p o n na
  obtain ⟨r2, n1, n2, n3, l2⟩ := r.freshN (DX p o) n
  refine hk C F ow δ σ _ r2 _ _ e1 _ fun v F1 ow1 H1 r3 l3 h3 => ?_
  obtain ⟨F2, ow2, l4, r4, d4⟩ := r3.freezeN h3 e2
  refine hv C F2 ow2 δ2 σ H1 r4 _ _ e3 _ fun u F3 ow3 H3 r5 l5 h5 => ?_
  obtain ⟨F4, ow4, l6, r6, d6⟩ := r5.freezeN h5 e4
  obtain ⟨p1, p2, p3⟩ := l3.fr p _ upd_same n1 n2 n3
  obtain ⟨p1, p2, p3⟩ := l4.fr p _ p1 p2 p3 n3
  obtain ⟨p1, p2, p3⟩ := l5.fr p _ p1 p2 p3 n3
  obtain ⟨p1, p2, p3⟩ := l6.fr p _ p1 p2 p3 n3
  have N : Nx C F ow H F4 ow4 H3 := l2.trans (l3.trans (l4.trans (l5.trans l6)))
  have dk : Dat P w K F4 v d1 := d4.mono (l5.trans l6).le
  have kx := keyOb r6.le (Dat.ob r6.le dk) e5
  obtain ⟨h8, _⟩ := keyX_at e5
  obtain ⟨b, rfl⟩ := kx.ref
  have es : storedX [] nk b u = [(nk, b, u)] := by simp [storedX]
  refine ⟨p, o, [], nk, b, rfl, rfl, ⟨p1, na, fun x hx => by cases hx⟩, kx, by rw [sizeLine_eq]; decide, fun o' n' => ?_⟩
  refine k p F4 ow4 _ (r6.over (DX p o') p2 p3 n3) ⟨N.le, fun a z e f g h => ?_, fun a z e => ?_⟩ n p2 p3 n3 ⟨_, upd_same⟩ ?_
  · obtain ⟨q1, q2⟩ := N.fr a z e f g h
    exact ⟨by rw [upd_ne (ne_of_none e n)]; exact q1, q2⟩
  · rw [upd_ne (ne_of_none e n)]
    exact N.dm a z e
  · rw [es] at n'
    subst h8
    exact .dX upd_same n' rfl rfl rfl (.cons dk .nil) (.cons d6 .nil) rfl
end
section
variable {X : Cx} {P : Program} {w : World} {K : PySem.W.Frag}
theorem pe_d1P {ek ev : Expr} {pos : Pos} {tk tv : TE} (e1 : X.prog = P) (e2 : X.w = w) (e3 : X.K = K) (hu : X.A.units + 64 < cLine) (hk : PE X ek tk) (hv : PE X ev tv) : PE X (.Dict [some ek] [ev] pos) (tD1X P w K tk tv) := by
  subst e1 e2 e3
  exact pe_d1X hu hk hv
end
/-! ### reckoning with what a def tells -/
def isFr : Sl → Bool
  | .bor _ => false
  | _ => true
theorem free_eq (δ : DS) (i : Nat) : free δ i = (δ[i]?).any isFr := by
  unfold free
  cases δ[i]? with
  | none => rfl
  | some s => cases s <;> rfl
theorem bind_ite {α β : Type} (c : Prop) [Decidable c] (a b : Option α) (f : α → Option β) : (if c then a else b).bind f = if c then a.bind f else b.bind f := by
  split <;> rfl
/-- what a turn of a walk leads to -/
def LoopTo (I : DS → Prop) (B : DS → Prop) (R : DT → DS → Prop) : Out → Prop
  | .nx δ => I δ
  | .ct δ => I δ
  | .bk δ => B δ
  | .rt x δ => R x δ
  | .ro _ _ => False
def LoopEnd (N : DS → Prop) (R : DT → DS → Prop) : Out → Prop
  | .nx δ => N δ
  | .rt x δ => R x δ
  | _ => False
theorem loop_to {α : Type} {enc : α → DT} {g : GF} {b : SF} {B : DS → Prop} {R : DT → DS → Prop} : ∀ (xs : List α) (I : List α → DS → Prop) (δ : DS), (∀ x r δ, I (x :: r) δ → ∃ o, (g (enc x) δ).bind b = some o ∧ LoopTo (I r) B R o) → I xs δ → ∃ o, loopF g b (xs.map enc) δ = some o ∧ LoopEnd (fun δ => I [] δ ∨ B δ) R o
  | [], I, δ, _, h => ⟨.nx δ, rfl, .inl h⟩
  | x :: r, I, δ, step, h => by
    obtain ⟨o, e, h1⟩ := step x r δ h
    rw [List.map_cons]
    obtain ⟨δ1, e1, e2⟩ := Option.bind_eq_some_iff.mp e
    show ∃ o, (g (enc x) δ).bind _ = some o ∧ _
    rw [e1]
    show ∃ o, (b δ1).bind _ = some o ∧ _
    rw [e2]
    cases o with
    | nx δ2 => exact loop_to r I δ2 step h1
    | ct δ2 => exact loop_to r I δ2 step h1
    | bk δ2 => exact ⟨.nx δ2, rfl, .inr h1⟩
    | rt x δ2 => exact ⟨.rt x δ2, rfl, h1⟩
    | ro x δ2 => exact h1.elim
/-- a walk that goes to its end -/
theorem loop_all {α : Type} {enc : α → DT} {g : GF} {b : SF} : ∀ (xs : List α) (I : List α → DS → Prop) (δ : DS), (∀ x r δ, I (x :: r) δ → ∃ δ', (g (enc x) δ).bind b = some (.nx δ') ∧ I r δ') → I xs δ → ∃ δ', loopF g b (xs.map enc) δ = some (.nx δ') ∧ I [] δ'
  | [], I, δ, _, h => ⟨δ, rfl, h⟩
  | x :: r, I, δ, step, h => by
    obtain ⟨δ2, e, h1⟩ := step x r δ h
    rw [List.map_cons]
    obtain ⟨δ1, e1, e2⟩ := Option.bind_eq_some_iff.mp e
    show ∃ δ', (g (enc x) δ).bind _ = some (Out.nx δ') ∧ _
    rw [e1]
    show ∃ δ', (b δ1).bind _ = some (Out.nx δ') ∧ _
    rw [e2]
    exact loop_all r I δ2 step h1
theorem while_all {c : TF} {b : SF} (I : Nat → DS → Prop) (E : DS → Prop) (step : ∀ n δ, I n δ → (∃ δ1, c δ = some (false, δ1) ∧ E δ1) ∨ ∃ δ1 δ2 m, c δ = some (true, δ1) ∧ b δ1 = some (.nx δ2) ∧ m < n ∧ I m δ2) : ∀ n δ, I n δ → ∃ δ', sWhile c b δ = some (.nx δ') ∧ E δ' := by
  have key : ∀ n δ, I n δ → ∃ k δ', whileN c b k δ = some (.nx δ') ∧ E δ' := by
    intro n
    induction n using Nat.strongRecOn with
    | _ n ih =>
      intro δ h
      rcases step n δ h with ⟨δ1, e1, h1⟩ | ⟨δ1, δ2, m, e1, e2, l, h1⟩
      · exact ⟨1, δ1, by simp [whileN, e1], h1⟩
      · obtain ⟨k, δ', e3, h3⟩ := ih m l δ2 h1
        exact ⟨k + 1, δ', by simp [whileN, e1, e2, e3], h3⟩
  intro n δ h
  obtain ⟨k, δ', e, h1⟩ := key n δ h
  exact ⟨δ', while_of e, h1⟩
/-- one turn of a comprehension -/
def compStep (vs : List Nat) (g : GF) (t : TF) (e : EF) (δ : DS) (d : DT) : Option (Option DT × DS) := (g d (wipeD δ vs)).bind fun δ2 => (t δ2).bind fun p => if p.1 = true then (e p.2).bind fun q => (frzV q.2 q.1).map fun y => (some y.1, putB δ y.2 vs) else some (none, putB δ p.2 vs)
theorem comp_step {vs : List Nat} {g : GF} {t : TF} {e : EF} {d : DT} {r : List DT} {δ δ' : DS} {acc : List DT} {o : Option DT} (h : compStep vs g t e δ d = some (o, δ')) (hl : acc.length < sizeLine) : compF vs g t e (d :: r) δ acc = compF vs g t e r δ' (acc ++ o.toList) := by
  rw [compF]
  unfold compStep at h
  obtain ⟨δ2, e1, h⟩ := Option.bind_eq_some_iff.mp h
  obtain ⟨⟨b, δ3⟩, e2, h⟩ := Option.bind_eq_some_iff.mp h
  rw [e1]
  show (t δ2).bind _ = _
  rw [e2]
  cases b with
  | true =>
    have h : ((e δ3).bind fun q => (frzV q.2 q.1).map fun y => (some y.1, putB δ y.2 vs)) = some (o, δ') := h
    obtain ⟨⟨x, δ4⟩, e3, h⟩ := Option.bind_eq_some_iff.mp h
    obtain ⟨⟨y, δ5⟩, e4, h⟩ := Option.map_eq_some_iff.mp h
    cases h
    show (e δ3).bind _ = _
    rw [e3]
    show (frzV δ4 x).bind _ = _
    rw [e4]
    show (if acc.length < sizeLine then _ else none) = _
    rw [if_pos hl]
    rfl
  | false =>
    cases h
    show compF vs g t e r (putB δ δ3 vs) acc = _
    rw [show acc ++ (none : Option DT).toList = acc from List.append_nil acc]
/-- a comprehension whose slots come back -/
theorem comp_fm {α : Type} {enc : α → DT} {vs : List Nat} {g : GF} {t : TF} {e : EF} {δ : DS} (f : α → Option DT) : ∀ (xs : List α) (acc : List DT), (∀ x ∈ xs, compStep vs g t e δ (enc x) = some (f x, δ)) → acc.length + xs.length ≤ sizeLine → compF vs g t e (xs.map enc) δ acc = some (.list (acc ++ xs.filterMap f), δ)
  | [], acc, _, _ => by simp [compF]
  | x :: r, acc, h, hl => by
    rw [List.length_cons] at hl
    rw [List.map_cons, comp_step (h x List.mem_cons_self) (by omega), comp_fm f r _ (fun y m => h y (List.mem_cons_of_mem _ m)) ?_]
    · cases hf : f x <;> simp [List.filterMap_cons, hf]
    · rw [List.length_append]
      have : (f x).toList.length ≤ 1 := by cases f x <;> simp
      omega
theorem comp_map {α : Type} {enc : α → DT} {vs : List Nat} {g : GF} {t : TF} {e : EF} {δ : DS} (f : α → DT) (xs : List α) (h : ∀ x ∈ xs, compStep vs g t e δ (enc x) = some (some (f x), δ)) (hl : xs.length ≤ sizeLine) : compF vs g t e (xs.map enc) δ [] = some (.list (xs.map f), δ) := by
  rw [comp_fm (fun x => some (f x)) xs [] h (by simpa using hl)]
  simp
/-- .. the slots of which change along -/
theorem comp_inv {α : Type} {enc : α → DT} {vs : List Nat} {g : GF} {t : TF} {e : EF} {I : List α → List DT → DS → Prop} : ∀ (xs : List α) (acc : List DT) (δ : DS), (∀ x r acc δ, I (x :: r) acc δ → ∃ o δ', compStep vs g t e δ (enc x) = some (o, δ') ∧ I r (acc ++ o.toList) δ') → I xs acc δ → acc.length + xs.length ≤ sizeLine → ∃ acc' δ', compF vs g t e (xs.map enc) δ acc = some (.list acc', δ') ∧ I [] acc' δ'
  | [], acc, δ, _, h, _ => ⟨acc, δ, rfl, h⟩
  | x :: r, acc, δ, step, h, hl => by
    rw [List.length_cons] at hl
    obtain ⟨o, δ', h1, h2⟩ := step x r acc δ h
    rw [List.map_cons, comp_step h1 (by omega)]
    refine comp_inv r _ δ' step h2 ?_
    rw [List.length_append]
    have : o.toList.length ≤ 1 := by cases o <;> simp
    omega
theorem inn_step {vs : List Nat} {g : GF} {t : TF} {e : EF} {d : DT} {r : List DT} {δ δ' : DS} {acc : List DT} {o : Option DT} (h : compStep vs g t e δ d = some (o, δ')) (hl : acc.length < sizeLine) : innF vs g t e (d :: r) δ acc = innF vs g t e r δ' (acc ++ o.toList) := by
  rw [innF]
  unfold compStep at h
  obtain ⟨δ2, e1, h⟩ := Option.bind_eq_some_iff.mp h
  obtain ⟨⟨b, δ3⟩, e2, h⟩ := Option.bind_eq_some_iff.mp h
  rw [e1]
  show (t δ2).bind _ = _
  rw [e2]
  cases b with
  | true =>
    have h : ((e δ3).bind fun q => (frzV q.2 q.1).map fun y => (some y.1, putB δ y.2 vs)) = some (o, δ') := h
    obtain ⟨⟨x, δ4⟩, e3, h⟩ := Option.bind_eq_some_iff.mp h
    obtain ⟨⟨y, δ5⟩, e4, h⟩ := Option.map_eq_some_iff.mp h
    cases h
    show (e δ3).bind _ = _
    rw [e3]
    show (frzV δ4 x).bind _ = _
    rw [e4]
    show (if acc.length < sizeLine then _ else none) = _
    rw [if_pos hl]
    rfl
  | false =>
    cases h
    show innF vs g t e r (putB δ δ3 vs) acc = _
    rw [show acc ++ (none : Option DT).toList = acc from List.append_nil acc]
theorem inn_fm {α : Type} {enc : α → DT} {vs : List Nat} {g : GF} {t : TF} {e : EF} {δ : DS} (f : α → Option DT) : ∀ (xs : List α) (acc : List DT), (∀ x ∈ xs, compStep vs g t e δ (enc x) = some (f x, δ)) → acc.length + xs.length ≤ sizeLine → innF vs g t e (xs.map enc) δ acc = some (acc ++ xs.filterMap f, δ)
  | [], acc, _, _ => by simp [innF]
  | x :: r, acc, h, hl => by
    rw [List.length_cons] at hl
    rw [List.map_cons, inn_step (h x List.mem_cons_self) (by omega), inn_fm f r _ (fun y m => h y (List.mem_cons_of_mem _ m)) ?_]
    · cases hf : f x <;> simp [List.filterMap_cons, hf]
    · rw [List.length_append]
      have : (f x).toList.length ≤ 1 := by cases f x <;> simp
      omega
theorem atI_0 {α : Type} (a : α) (l : List α) : atI (a :: l) 0 = some a := atI_nat (j := 0) rfl
theorem atI_1 {α : Type} (a b : α) (l : List α) : atI (a :: b :: l) 1 = some b := atI_nat (j := 1) rfl
theorem atI_2 {α : Type} (a b c : α) (l : List α) : atI (a :: b :: c :: l) 2 = some c := atI_nat (j := 2) rfl
theorem ixN_0 (n : Nat) : ixN (n + 1) 0 = some 0 := by simp [ixN]
theorem ixN_1 (n : Nat) : ixN (n + 2) 1 = some 1 := by
  unfold ixN
  rw [if_pos (by decide), if_pos (by omega)]
  rfl
theorem atI_set0 {α : Type} (a b : α) : [a, b].set 0 b = [b, b] := rfl
theorem wide_of {i j : Int} (h : i.natAbs < 2 ^ 4000) (h' : j.natAbs < 2 ^ 4000) : CMulW i j := wide_mul h h' (by decide) (by decide) (by decide)
theorem div_of {i j : Int} (h : 0 < j) (h' : j < 2 ^ 4000) : CDivW i j := by
  refine ⟨h, ?_⟩
  by_cases c : j.natAbs = 0
  · rw [c]
    decide
  · have : j.natAbs < 2 ^ 4000 := by omega
    have := (Nat.log2_lt c).mpr this
    omega
theorem rg1 : List.range 1 = [0] := rfl
theorem rg2 : List.range 2 = [0, 1] := rfl
theorem rg3 : List.range 3 = [0, 1, 2] := rfl
theorem rg4 : List.range 4 = [0, 1, 2, 3] := rfl
theorem rg5 : List.range 5 = [0, 1, 2, 3, 4] := rfl
theorem isFr_no : isFr .no = true := rfl
theorem isFr_dat (d : DT) : isFr (.dat d) = true := rfl
theorem isFr_own (d : DT) : isFr (.own d) = true := rfl
theorem isFr_bor (d : DT) : isFr (.bor d) = false := rfl
theorem okL_1 (i : Nat) : okL [some i] = true := by
  unfold okL pinv
  show (List.range 1).all _ = true
  rw [rg1]
  simp [List.idxOf?, List.findIdx?, List.findIdx?.go]
theorem okL_2 (i : Nat) : okL [some i, none] = true := by
  unfold okL pinv
  show (List.range 2).all _ = true
  rw [rg2]
  simp [List.idxOf?, List.findIdx?, List.findIdx?.go]
theorem okL_3 (i : Nat) : okL [some i, none, none] = true := by
  unfold okL pinv
  show (List.range 3).all _ = true
  rw [rg3]
  simp [List.idxOf?, List.findIdx?, List.findIdx?.go]
theorem okL_4 (i : Nat) : okL [some i, none, none, none] = true := by
  unfold okL pinv
  show (List.range 4).all _ = true
  rw [rg4]
  simp [List.idxOf?, List.findIdx?, List.findIdx?.go]
theorem intsFrom0 (n : Nat) : intsFrom 0 n = (List.range n).map fun (i : Nat) => PyData.int (i : Int) := by
  unfold intsFrom
  simp
theorem walk_range {es : AF} {δ δ' : DS} {r : Rv} {n : Int} {g : GF} {b : SF} (he : es δ = some ([r], δ')) (hv : val δ' r = some (.int n)) (h0 : -(2 ^ 62) ≤ n) (h1 : n < 2 ^ 62) : sFor (iR1 es) g b δ = loopF g b ((List.range n.toNat).map fun (i : Nat) => PyData.int (i : Int)) δ' := by
  have hr : rgOk n = true := by
    unfold rgOk
    rw [decide_eq_true h0, decide_eq_true h1]
    rfl
  unfold sFor iR1
  rw [he]
  simp [vals, hv, r1F, hr, intsFrom0]
theorem atI_m1 {α : Type} {xs : List α} {v : α} (h : xs[xs.length - 1]? = some v) : atI xs (-1) = some v := by
  have hl := (List.getElem?_eq_some_iff.mp h).1
  unfold atI ixN
  rw [if_neg (by decide), if_pos (by omega)]
  show xs[((-1 : Int) + xs.length).toNat]? = some v
  rw [show ((-1 : Int) + xs.length).toNat = xs.length - 1 by omega]
  exact h
theorem ixN_m1 {n : Nat} (h : 0 < n) : ixN n (-1) = some (n - 1) := by
  unfold ixN
  rw [if_neg (by decide), if_pos (by omega)]
  congr 1
  omega
theorem seq_to {s t : SF} {δ δ' : DS} {o : Option Out} (h : s δ = some (.nx δ')) (h' : t δ' = o) : sSeq s t δ = o := by
  unfold sSeq
  rw [h]
  exact h'
theorem seq_rt {s t : SF} {δ δ' : DS} {d : DT} (h : s δ = some (.rt d δ')) : sSeq s t δ = some (.rt d δ') := by
  unfold sSeq
  rw [h]
  rfl
theorem mB_rt {bor : List Bool} {n : Nat} {s : SF} {ds os : List DT} {d : DT} {δ : DS} (hl : ds.length = bor.length) (h : s (startS bor ds ++ List.replicate n .no) = some (.rt d δ)) (ho : outsD bor δ = some os) : mBody bor n s ds = some (d, os) := by
  unfold mBody
  rw [if_pos hl, h]
  show (outsD bor δ).map _ = _
  rw [ho]
  rfl
theorem mBO_ro {bor : List Bool} {n : Nat} {s : SF} {ds os : List DT} {d : DT} {δ : DS} (hl : ds.length = bor.length) (h : s (startS bor ds ++ List.replicate n .no) = some (.ro d δ)) (ho : outsD bor δ = some os) : mBodyO bor n s ds = some (d, os) := by
  unfold mBodyO
  rw [if_pos hl, h]
  show (outsD bor δ).map _ = _
  rw [ho]
  rfl
theorem lc_map {α : Type} {enc : α → DT} {it : IF} {vs : List Nat} {g : GF} {t : TF} {e : EF} {δ δ' : DS} (f : α → DT) (xs : List α) (hi : it δ = some (xs.map enc, δ')) (h : ∀ x ∈ xs, compStep vs g t e δ' (enc x) = some (some (f x), δ')) (hl : xs.length ≤ sizeLine) : oLc it vs g t e δ = some (.list (xs.map f), δ') := by
  unfold oLc
  rw [hi]
  exact comp_map f xs h hl
theorem lc_fm {α : Type} {enc : α → DT} {it : IF} {vs : List Nat} {g : GF} {t : TF} {e : EF} {δ δ' : DS} (f : α → Option DT) (xs : List α) (hi : it δ = some (xs.map enc, δ')) (h : ∀ x ∈ xs, compStep vs g t e δ' (enc x) = some (f x, δ')) (hl : xs.length ≤ sizeLine) : oLc it vs g t e δ = some (.list (xs.filterMap f), δ') := by
  unfold oLc
  rw [hi]
  have := comp_fm f xs [] h (by simpa using hl)
  simpa using this
theorem ret_of {e : EF} {δ δ' : DS} {d : DT} (h : e δ = some (.d d, δ')) : sRet e δ = some (.rt d δ') := by
  unfold sRet
  rw [h]
  rfl
/-- a def that gives an expression back -/
theorem m_ret {bor : List Bool} {n : Nat} {e : EF} {ds os : List DT} {d : DT} {δ : DS} (hl : ds.length = bor.length) (h : e (startS bor ds ++ List.replicate n .no) = some (.d d, δ)) (ho : outsD bor δ = some os) : mBody bor n (sRet e) ds = some (d, os) := mB_rt hl (ret_of h) ho
/-- one turn of a comprehension with two walks -/
def step2 (vs : List Nat) (g : GF) (t : TF) (it1 : IF) (vs1 : List Nat) (g1 : GF) (t1 : TF) (e : EF) (δ : DS) (d : DT) (acc : List DT) : Option (List DT × DS) := (g d (wipeD δ vs)).bind fun δ2 => (t δ2).bind fun p => if p.1 = true then (it1 p.2).bind fun q => (innF vs1 g1 t1 e q.1 q.2 acc).map fun y => (y.1, putB δ y.2 vs) else some (acc, putB δ p.2 vs)
theorem comp2_cons {vs vs1 : List Nat} {g g1 : GF} {t t1 : TF} {it1 : IF} {e : EF} {d : DT} {r acc acc' : List DT} {δ δ' : DS} (h : step2 vs g t it1 vs1 g1 t1 e δ d acc = some (acc', δ')) : compF2 vs g t it1 vs1 g1 t1 e (d :: r) δ acc = compF2 vs g t it1 vs1 g1 t1 e r δ' acc' := by
  rw [compF2]
  unfold step2 at h
  obtain ⟨δ2, e1, h⟩ := Option.bind_eq_some_iff.mp h
  obtain ⟨⟨b, δ3⟩, e2, h⟩ := Option.bind_eq_some_iff.mp h
  rw [e1]
  show (t δ2).bind _ = _
  rw [e2]
  cases b with
  | true =>
    have h : ((it1 δ3).bind fun q => (innF vs1 g1 t1 e q.1 q.2 acc).map fun y => (y.1, putB δ y.2 vs)) = some (acc', δ') := h
    obtain ⟨⟨q, δ4⟩, e3, h⟩ := Option.bind_eq_some_iff.mp h
    obtain ⟨⟨y, δ5⟩, e4, h⟩ := Option.map_eq_some_iff.mp h
    cases h
    show (it1 δ3).bind _ = _
    rw [e3]
    show (innF vs1 g1 t1 e q δ4 acc).bind _ = _
    rw [e4]
    rfl
  | false =>
    cases h
    rfl
theorem comp2_flat {α : Type} {enc : α → DT} {vs vs1 : List Nat} {g g1 : GF} {t t1 : TF} {it1 : IF} {e : EF} {δ : DS} (f : α → List DT) : ∀ (xs : List α) (acc : List DT), (∀ x ∈ xs, ∀ acc : List DT, acc.length + (f x).length ≤ sizeLine → step2 vs g t it1 vs1 g1 t1 e δ (enc x) acc = some (acc ++ f x, δ)) → acc.length + (xs.flatMap f).length ≤ sizeLine → compF2 vs g t it1 vs1 g1 t1 e (xs.map enc) δ acc = some (.list (acc ++ xs.flatMap f), δ)
  | [], acc, _, _ => by simp [compF2]
  | x :: r, acc, h, hl => by
    rw [List.flatMap_cons, List.length_append] at hl
    rw [List.map_cons, comp2_cons (h x List.mem_cons_self acc (by omega)), comp2_flat f r _ (fun y m => h y (List.mem_cons_of_mem _ m)) (by rw [List.length_append]; omega)]
    rw [List.flatMap_cons, List.append_assoc]
theorem lc2_flat {α : Type} {enc : α → DT} {it it1 : IF} {vs vs1 : List Nat} {g g1 : GF} {t t1 : TF} {e : EF} {δ δ' : DS} (f : α → List DT) (xs : List α) (hi : it δ = some (xs.map enc, δ')) (h : ∀ x ∈ xs, ∀ acc : List DT, acc.length + (f x).length ≤ sizeLine → step2 vs g t it1 vs1 g1 t1 e δ' (enc x) acc = some (acc ++ f x, δ')) (hl : (xs.flatMap f).length ≤ sizeLine) : oLc2 it vs g t it1 vs1 g1 t1 e δ = some (.list (xs.flatMap f), δ') := by
  unfold oLc2
  rw [hi]
  exact comp2_flat f xs [] h (by simpa using hl)
theorem range_of {es : AF} {δ δ' : DS} {r : Rv} {n : Int} (he : es δ = some ([r], δ')) (hv : val δ' r = some (.int n)) (h0 : -(2 ^ 62) ≤ n) (h1 : n < 2 ^ 62) : iR1 es δ = some ((List.range n.toNat).map fun (i : Nat) => PyData.int (i : Int), δ') := by
  have hr : rgOk n = true := by
    unfold rgOk
    rw [decide_eq_true h0, decide_eq_true h1]
    rfl
  unfold iR1
  rw [he]
  simp [vals, hv, r1F, hr, intsFrom0]
/-! ### sorted data -/
mutual
theorem toks_inj : ∀ {d d' : DT} {k k' : NestedKey} {r r' : List (Int ⊕ List Nat)}, nkOf d = some k → nkOf d' = some k' → PySem.W.alike d d' = true → PySem.W.keyToks d ++ r = PySem.W.keyToks d' ++ r' → d = d' ∧ r = r'
  | .none, .none, _, _, _, _, _, _, _, e => ⟨rfl, by simpa [PySem.W.keyToks] using e⟩
  | .none, .int _, _, _, _, _, _, _, a, _ => by simp [PySem.W.alike] at a
  | .none, .str _, _, _, _, _, _, _, a, _ => by simp [PySem.W.alike] at a
  | .none, .tuple _, _, _, _, _, _, _, a, _ => by simp [PySem.W.alike] at a
  | .int i, .int j, _, _, _, _, _, _, _, e => by
    simp [PySem.W.keyToks] at e
    exact ⟨by rw [e.1], e.2⟩
  | .int _, .none, _, _, _, _, _, _, a, _ => by simp [PySem.W.alike] at a
  | .int _, .str _, _, _, _, _, _, _, a, _ => by simp [PySem.W.alike] at a
  | .int _, .tuple _, _, _, _, _, _, _, a, _ => by simp [PySem.W.alike] at a
  | .str x, .str y, _, _, _, _, _, _, _, e => by
    simp only [PySem.W.keyToks, List.cons_append, List.nil_append, List.cons.injEq, Sum.inr.injEq] at e
    obtain ⟨x⟩ := x
    obtain ⟨y⟩ := y
    have : x = y := Array.toList_inj.mp e.1
    exact ⟨by rw [this], e.2⟩
  | .str _, .none, _, _, _, _, _, _, a, _ => by simp [PySem.W.alike] at a
  | .str _, .int _, _, _, _, _, _, _, a, _ => by simp [PySem.W.alike] at a
  | .str _, .tuple _, _, _, _, _, _, _, a, _ => by simp [PySem.W.alike] at a
  | .tuple ds, .tuple es, k, k', r, r', h, h', a, e => by
    rw [nkOf] at h h'
    obtain ⟨ks, h1, _⟩ := Option.map_eq_some_iff.mp h
    obtain ⟨ks', h2, _⟩ := Option.map_eq_some_iff.mp h'
    have a' : PySem.W.alikeAll ds es = true := by simpa [PySem.W.alike] using a
    have e' : PySem.W.keyToksAll ds ++ r = PySem.W.keyToksAll es ++ r' := by simpa [PySem.W.keyToks] using e
    obtain ⟨q1, q2⟩ := toksAll_inj h1 h2 a' e'
    exact ⟨by rw [q1], q2⟩
  | .tuple _, .none, _, _, _, _, _, _, a, _ => by simp [PySem.W.alike] at a
  | .tuple _, .int _, _, _, _, _, _, _, a, _ => by simp [PySem.W.alike] at a
  | .tuple _, .str _, _, _, _, _, _, _, a, _ => by simp [PySem.W.alike] at a
  | .bool _, _, _, _, _, _, h, _, _, _ => by simp [nkOf] at h
  | .list _, _, _, _, _, _, h, _, _, _ => by simp [nkOf] at h
  | .dict _, _, _, _, _, _, h, _, _, _ => by simp [nkOf] at h
  | .none, .bool _, _, _, _, _, _, h, _, _ => by simp [nkOf] at h
  | .none, .list _, _, _, _, _, _, h, _, _ => by simp [nkOf] at h
  | .none, .dict _, _, _, _, _, _, h, _, _ => by simp [nkOf] at h
  | .int _, .bool _, _, _, _, _, _, h, _, _ => by simp [nkOf] at h
  | .int _, .list _, _, _, _, _, _, h, _, _ => by simp [nkOf] at h
  | .int _, .dict _, _, _, _, _, _, h, _, _ => by simp [nkOf] at h
  | .str _, .bool _, _, _, _, _, _, h, _, _ => by simp [nkOf] at h
  | .str _, .list _, _, _, _, _, _, h, _, _ => by simp [nkOf] at h
  | .str _, .dict _, _, _, _, _, _, h, _, _ => by simp [nkOf] at h
  | .tuple _, .bool _, _, _, _, _, _, h, _, _ => by simp [nkOf] at h
  | .tuple _, .list _, _, _, _, _, _, h, _, _ => by simp [nkOf] at h
  | .tuple _, .dict _, _, _, _, _, _, h, _, _ => by simp [nkOf] at h
theorem toksAll_inj : ∀ {ds es : List DT} {ks ks' : List NestedKey} {r r' : List (Int ⊕ List Nat)}, nksOf ds = some ks → nksOf es = some ks' → PySem.W.alikeAll ds es = true → PySem.W.keyToksAll ds ++ r = PySem.W.keyToksAll es ++ r' → ds = es ∧ r = r'
  | [], [], _, _, _, _, _, _, _, e => ⟨rfl, by simpa [PySem.W.keyToksAll] using e⟩
  | [], _ :: _, _, _, _, _, _, _, _, e => by simp [PySem.W.keyToksAll] at e
  | _ :: _, [], _, _, _, _, _, _, _, e => by simp [PySem.W.keyToksAll] at e
  | d :: ds, d' :: es, _, _, r, r', h, h', a, e => by
    rw [nksOf] at h h'
    obtain ⟨k, h1, h⟩ := Option.bind_eq_some_iff.mp h
    obtain ⟨ks, h2, _⟩ := Option.map_eq_some_iff.mp h
    obtain ⟨k', h3, h'⟩ := Option.bind_eq_some_iff.mp h'
    obtain ⟨ks', h4, _⟩ := Option.map_eq_some_iff.mp h'
    have a' : PySem.W.alike d d' = true ∧ PySem.W.alikeAll ds es = true := by simpa [PySem.W.alikeAll] using a
    have e' : PySem.W.keyToks d ++ (PySem.W.keyToksAll ds ++ r) = PySem.W.keyToks d' ++ (PySem.W.keyToksAll es ++ r') := by simpa [PySem.W.keyToksAll] using e
    obtain ⟨q1, q2⟩ := toks_inj h1 h3 a'.1 e'
    obtain ⟨q3, q4⟩ := toksAll_inj h2 h4 a'.2 q2
    exact ⟨by rw [q1, q3], q4⟩
end
theorem le_total : PySem.W.TotalLe (PySem.W.dataLe false (id : DT → DT)) := PySem.W.sortLe_total _ _ _
theorem sort_perm (l : List DT) : (sortD l).Perm l := List.mergeSort_perm l _
theorem le_anti {d d' : DT} {k k' : NestedKey} (h : nkOf d = some k) (h' : nkOf d' = some k') (a : PySem.W.alike d d' = true) (e : PySem.W.dataLe false id d d' = true) (e' : PySem.W.dataLe false id d' d = true) : d = d' := by
  have h1 : (PyProof.Rows.listOrd PyProof.Rows.itemOrd).blt (PySem.W.keyToks d') (PySem.W.keyToks d) = false := by simpa [PySem.W.dataLe, PySem.W.sortLe] using e
  have h2 : (PyProof.Rows.listOrd PyProof.Rows.itemOrd).blt (PySem.W.keyToks d) (PySem.W.keyToks d') = false := by simpa [PySem.W.dataLe, PySem.W.sortLe] using e'
  have h3 := (PyProof.Rows.listOrd PyProof.Rows.itemOrd).total _ _ h2 h1
  exact (toks_inj (r := []) (r' := []) h h' a (by rw [h3])).1
/-- the same things in any order are sorted alike -/
theorem sort_eq {l m : List DT} (h : ∀ d ∈ l, ∃ k, nkOf d = some k) (al : PySem.W.AllAlike l) (p : l.Perm m) : sortD l = sortD m := by
  have pw := fun l => PySem.W.sort_pairwise le_total l
  refine List.Perm.eq_of_pairwise (le := fun a b => PySem.W.dataLe false id a b = true) (fun a b ha hb e e' => ?_) (pw l) (pw m) ((sort_perm l).trans (p.trans (sort_perm m).symm))
  have ha' : a ∈ l := (sort_perm l).mem_iff.mp ha
  have hb' : b ∈ l := p.mem_iff.mpr ((sort_perm m).mem_iff.mp hb)
  obtain ⟨k, hk⟩ := h a ha'
  obtain ⟨k', hk'⟩ := h b hb'
  exact le_anti hk hk' (al a ha' b hb') e e'
/-! ### the text -/
def topS (i : Nat) : Stmt := PySem.Challenge.pw_evenstrand_k43_levels_by_steps.main.body.getD i (.Pass ⟨0, 0, 0, 0⟩)
abbrev s_length_of : Stmt := topS 1
abbrev N_length_of : List Str := ["wisp", "thickness", "long"]
abbrev P_length_of : List Str := ["wisp"]
theorem sc_length_of : FnScope N_length_of P_length_of (defScope s_length_of) := ⟨rfl, rfl, rfl, by decide +kernel, rfl, by decide +kernel, by decide +kernel⟩
abbrev s_thick_at : Stmt := topS 2
abbrev N_thick_at : List Str := ["wisp", "k", "thickness", "long"]
abbrev P_thick_at : List Str := ["wisp", "k"]
theorem sc_thick_at : FnScope N_thick_at P_thick_at (defScope s_thick_at) := ⟨rfl, rfl, rfl, by decide +kernel, rfl, by decide +kernel, by decide +kernel⟩
abbrev s_first_state : Stmt := topS 4
abbrev N_first_state : List Str := ["basket", "wisp", "many"]
abbrev P_first_state : List Str := ["basket"]
theorem sc_first_state : FnScope N_first_state P_first_state (defScope s_first_state) := ⟨rfl, rfl, rfl, by decide +kernel, rfl, by decide +kernel, by decide +kernel⟩
abbrev s_kept_from : Stmt := topS 5
abbrev N_kept_from : List Str := ["ages", "hand", "chosen", "pair", "some"]
abbrev P_kept_from : List Str := ["ages", "hand"]
theorem sc_kept_from : FnScope N_kept_from P_kept_from (defScope s_kept_from) := ⟨rfl, rfl, rfl, by decide +kernel, rfl, by decide +kernel, by decide +kernel⟩
abbrev s_laid_from : Stmt := topS 6
abbrev N_laid_from : List Str := ["manys", "room", "chosen", "kind", "many", "most", "some", "more"]
abbrev P_laid_from : List Str := ["manys", "room"]
theorem sc_laid_from : FnScope N_laid_from P_laid_from (defScope s_laid_from) := ⟨rfl, rfl, rfl, by decide +kernel, rfl, by decide +kernel, by decide +kernel⟩
abbrev s_thickness_of : Stmt := topS 7
abbrev N_thickness_of : List Str := ["basket", "ages", "kind", "age"]
abbrev P_thickness_of : List Str := ["basket", "ages"]
theorem sc_thickness_of : FnScope N_thickness_of P_thickness_of (defScope s_thickness_of) := ⟨rfl, rfl, rfl, by decide +kernel, rfl, by decide +kernel, by decide +kernel⟩
abbrev s_aged : Stmt := topS 8
abbrev N_aged : List Str := ["basket", "ages", "kind", "age"]
abbrev P_aged : List Str := ["basket", "ages"]
theorem sc_aged : FnScope N_aged P_aged (defScope s_aged) := ⟨rfl, rfl, rfl, by decide +kernel, rfl, by decide +kernel, by decide +kernel⟩
abbrev s_manys_behind : Stmt := topS 9
abbrev N_manys_behind : List Str := ["manys", "laid", "kind", "many"]
abbrev P_manys_behind : List Str := ["manys", "laid"]
theorem sc_manys_behind : FnScope N_manys_behind P_manys_behind (defScope s_manys_behind) := ⟨rfl, rfl, rfl, by decide +kernel, rfl, by decide +kernel, by decide +kernel⟩
abbrev s_choices_of : Stmt := topS 10
abbrev N_choices_of : List Str := ["basket", "frame", "state", "low", "high", "hand", "ages", "manys", "choices", "kept", "laid", "running", "kind"]
abbrev P_choices_of : List Str := ["basket", "frame", "state"]
theorem sc_choices_of : FnScope N_choices_of P_choices_of (defScope s_choices_of) := ⟨rfl, rfl, rfl, by decide +kernel, rfl, by decide +kernel, by decide +kernel⟩
abbrev s_steps_of : Stmt := topS 11
abbrev N_steps_of : List Str := ["basket", "frame", "state", "fewest", "kept", "laid", "coming"]
abbrev P_steps_of : List Str := ["basket", "frame", "state"]
theorem sc_steps_of : FnScope N_steps_of P_steps_of (defScope s_steps_of) := ⟨rfl, rfl, rfl, by decide +kernel, rfl, by decide +kernel, by decide +kernel⟩
abbrev s_next_level : Stmt := topS 13
abbrev N_next_level : List Str := ["basket", "frame", "level", "room", "fewest", "state", "laid", "coming", "more"]
abbrev P_next_level : List Str := ["basket", "frame", "level", "room"]
theorem sc_next_level : FnScope N_next_level P_next_level (defScope s_next_level) := ⟨rfl, rfl, rfl, by decide +kernel, rfl, by decide +kernel, by decide +kernel⟩
abbrev s_levels_of : Stmt := topS 14
abbrev N_levels_of : List Str := ["basket", "frame", "length", "most", "levels", "room", "place", "level"]
abbrev P_levels_of : List Str := ["basket", "frame", "length", "most"]
theorem sc_levels_of : FnScope N_levels_of P_levels_of (defScope s_levels_of) := ⟨rfl, rfl, rfl, by decide +kernel, rfl, by decide +kernel, by decide +kernel⟩
abbrev s__law_pot : Stmt := topS 16
abbrev N__law_pot : List Str := ["_law_script", "_law_k", "_law_cell", "_law_great"]
abbrev P__law_pot : List Str := ["_law_script", "_law_k"]
theorem sc__law_pot : FnScope N__law_pot P__law_pot (defScope s__law_pot) := ⟨rfl, rfl, rfl, by decide +kernel, rfl, by decide +kernel, by decide +kernel⟩
abbrev s__law_take : Stmt := topS 17
abbrev N__law_take : List Str := ["_law_pot_here", "_law_many", "_law_digit"]
abbrev P__law_take : List Str := ["_law_pot_here", "_law_many"]
theorem sc__law_take : FnScope N__law_take P__law_take (defScope s__law_take) := ⟨rfl, rfl, rfl, by decide +kernel, rfl, by decide +kernel, by decide +kernel⟩
abbrev s__law_wisp : Stmt := topS 18
abbrev N__law_wisp : List Str := ["_law_pot_here", "_law_most", "_law_scale", "_law_places", "_law_step", "_law_steps_here", "_law_long"]
abbrev P__law_wisp : List Str := ["_law_pot_here", "_law_most", "_law_scale"]
theorem sc__law_wisp : FnScope N__law_wisp P__law_wisp (defScope s__law_wisp) := ⟨rfl, rfl, rfl, by decide +kernel, rfl, by decide +kernel, by decide +kernel⟩
abbrev s__law_set : Stmt := topS 19
abbrev N__law_set : List Str := ["_law_pot_here", "_law_hand", "_law_scale", "_law_many_kinds", "_law_places", "_law_kinds", "_law_k", "_law_many", "_law_low", "_law_high"]
abbrev P__law_set : List Str := ["_law_pot_here"]
theorem sc__law_set : FnScope N__law_set P__law_set (defScope s__law_set) := ⟨rfl, rfl, rfl, by decide +kernel, rfl, by decide +kernel, by decide +kernel⟩
abbrev s__law_length : Stmt := topS 20
abbrev N__law_length : List Str := ["_law_wisp_here", "_law_step", "_law_long"]
abbrev P__law_length : List Str := ["_law_wisp_here"]
theorem sc__law_length : FnScope N__law_length P__law_length (defScope s__law_length) := ⟨rfl, rfl, rfl, by decide +kernel, rfl, by decide +kernel, by decide +kernel⟩
abbrev s__law_at : Stmt := topS 21
abbrev N__law_at : List Str := ["_law_wisp_here", "_law_k", "_law_step", "_law_long"]
abbrev P__law_at : List Str := ["_law_wisp_here", "_law_k"]
theorem sc__law_at : FnScope N__law_at P__law_at (defScope s__law_at) := ⟨rfl, rfl, rfl, by decide +kernel, rfl, by decide +kernel, by decide +kernel⟩
abbrev s__law_lots : Stmt := topS 22
abbrev N__law_lots : List Str := ["_law_rest", "_law_room", "_law_lots_here", "_law_many", "_law_further", "_law_lot", "_law_count"]
abbrev P__law_lots : List Str := ["_law_rest", "_law_room"]
theorem sc__law_lots : FnScope N__law_lots P__law_lots (defScope s__law_lots) := ⟨rfl, rfl, rfl, by decide +kernel, rfl, by decide +kernel, by decide +kernel⟩
abbrev s__law_steps : Stmt := topS 23
abbrev N__law_steps : List Str := ["_law_basket", "_law_frame", "_law_state", "_law_found", "_law_mask", "_law_on", "_law_lot", "_law_runs", "_law_kind", "_law_count", "_law_older", "_law_rest", "_law_further", "_law_k", "_law_age", "_law_many"]
abbrev P__law_steps : List Str := ["_law_basket", "_law_frame", "_law_state"]
theorem sc__law_steps : FnScope N__law_steps P__law_steps (defScope s__law_steps) := ⟨rfl, rfl, rfl, by decide +kernel, rfl, by decide +kernel, by decide +kernel⟩
abbrev s__law_first : Stmt := topS 24
abbrev N__law_first : List Str := ["_law_basket", "_law_wisp_here", "_law_many"]
abbrev P__law_first : List Str := ["_law_basket"]
theorem sc__law_first : FnScope N__law_first P__law_first (defScope s__law_first) := ⟨rfl, rfl, rfl, by decide +kernel, rfl, by decide +kernel, by decide +kernel⟩
abbrev s__law_same : Stmt := topS 25
abbrev N__law_same : List Str := ["_law_found", "_law_due_here", "_law_one", "_law_other"]
abbrev P__law_same : List Str := ["_law_found", "_law_due_here"]
theorem sc__law_same : FnScope N__law_same P__law_same (defScope s__law_same) := ⟨rfl, rfl, rfl, by decide +kernel, rfl, by decide +kernel, by decide +kernel⟩
abbrev s__law_levels : Stmt := topS 26
abbrev N__law_levels : List Str := ["_law_basket", "_law_frame", "_law_length_here", "_law_levels_here", "_law_many", "_law_further", "_law_state", "_law_one", "_law_more", "_law_number"]
abbrev P__law_levels : List Str := ["_law_basket", "_law_frame", "_law_length_here"]
theorem sc__law_levels : FnScope N__law_levels P__law_levels (defScope s__law_levels) := ⟨rfl, rfl, rfl, by decide +kernel, rfl, by decide +kernel, by decide +kernel⟩
abbrev s__law_due : Stmt := topS 27
abbrev N__law_due : List Str := ["_law_levels_here", "_law_many", "_law_most", "_law_level"]
abbrev P__law_due : List Str := ["_law_levels_here", "_law_many", "_law_most"]
theorem sc__law_due : FnScope N__law_due P__law_due (defScope s__law_due) := ⟨rfl, rfl, rfl, by decide +kernel, rfl, by decide +kernel, by decide +kernel⟩
abbrev s_law : Stmt := topS 28
abbrev N_law : List Str := ["_law_script", "_law_pot_here", "_law_basket", "_law_frame", "_law_length_here", "_law_levels_here", "_law_many", "_law_most"]
abbrev P_law : List Str := ["_law_script"]
theorem sc_law : FnScope N_law P_law (defScope s_law) := ⟨rfl, rfl, rfl, by decide +kernel, rfl, by decide +kernel, by decide +kernel⟩
/-! ### the names that are still the built-in ones -/
structure Bi (mg : Str → Option Value) : Prop where
  m_len : mg "len" = none
  m_sum : mg "sum" = none
  m_abs : mg "abs" = none
  m_isinstance : mg "isinstance" = none
  m_max : mg "max" = none
  m_min : mg "min" = none
  m_tuple : mg "tuple" = none
  m_list : mg "list" = none
  m_int : mg "int" = none
  m_bool : mg "bool" = none
  m_range : mg "range" = none
  m_enumerate : mg "enumerate" = none
  m_zip : mg "zip" = none
  m_repr : mg "repr" = none
  m_str : mg "str" = none
  m_sorted : mg "sorted" = none
  m_set : mg "set" = none
  m_all : mg "all" = none
  m_any : mg "any" = none
  m_dict : mg "dict" = none
/-! ### a def as its callers use it -/
structure Cal (P : Program) (w : World) (K : PySem.W.Frag) (mg : Str → Option Value) (base : Heap) (x : Str) (ps : List Str) (k : Nat) (sp : Sp) (f : Addr) (fd : FuncData) : Prop where
  G : FnOk P w K mg base CX0 k f fd ps sp
  g : mg x = some (.ref f)
  kp : PySem.W.keepIn K (.ref f) = true
  b : Binds K fd ps []
section
variable {P : Program} {w : World} {K : PySem.W.Frag} {mg : Str → Option Value} {base : Heap}
noncomputable def m__law_pot : MF := mBodyO [false, false] 2
  (sSeq (sAsg (e2 fPlus (e2 fMul (eC (.int 3)) (eVar 1)) (eB fLen (aCons (eVar 0) aNil))) (gN 2))
  (sSeq (sIf (tV (e2 fLt (eVar 1) (eB fLen (aCons (eVar 0) aNil))))
  (sAsg (e2 fIx (eVar 0) (eVar 1)) (gN 2))
  sNext)
  (sSeq (sAsg (e2 fMul (e2 fMod (eB fAbs (aCons (eVar 2) aNil)) (eC (.int (10 ^ 900)))) (eB fInt (aCons (e2 fGe (eB fAbs (aCons (eVar 2) aNil)) (e2 fPow (eC (.int 10)) (eC (.int 18)))) aNil))) (gN 3))
  (sRetO (oLst (aCons (eVar 3) (aCons (e2 fMod (e2 fMul (e2 fPlus (e2 fPlus (e2 fMod (eVar 2) (eC (.int 2305843009213693951))) (e2 fMul (e2 fMul (eC (.int 7919)) (eVar 1)) (eVar 1))) (eC (.int 11))) (eC (.int 48271))) (eC (.int 2305843009213693951))) aNil)))))))
theorem ok__law_pot {f : Addr} {fd : FuncData} (F : Fun K "_law_pot" "_law_pot" s__law_pot f fd) (bi : Bi mg) (nd : PySem.W.nsIn K cStatics "sys.int_max_str_digits" = some none) : FnOk P w K mg base CX0 1 f fd P__law_pot (spMO P w K [false, false] m__law_pot) :=
  okMO F sc__law_pot rfl rfl fun cdv A outer s0 H E hr => by
  have hu64 := hr.units
  refine ⟨_, (pss_cons (ps_set (i := 2) sc__law_pot.nd rfl (.inl rfl) (pe_op (kOp (K := K) rPlus op_plus rfl) (pe_op op_mulW pe_int (pv 1)) (pe_callB (kCl (K := K) rLen call_lenK rfl) (by rfl) bi.m_len (by decide +kernel) (pa_cons (pv 0) pa_nil))))
    (pss_cons (ps_if (pt_cmpR op_lt (pv 1) (pe_callB (kCl (K := K) rLen call_lenK rfl) (by rfl) bi.m_len (by decide +kernel) (pa_cons (pv 0) pa_nil)) (nomark _))
    (pss_one (ps_set (i := 2) sc__law_pot.nd rfl (.inl rfl) (pe_ix (kIx (K := K) rIx ix_seq rfl) (pv 0) (pv 1) (fun _ _ => rfl))))
    pss_nil)
    (pss_cons (ps_set (i := 3) sc__law_pot.nd rfl (.inl rfl) (pe_op op_mulW (pe_op op_mod (pe_callB call_abs (by rfl) bi.m_abs (by decide +kernel) (pa_cons (pv 2) pa_nil)) (pe_callTy (call_bigT nd) (by rfl) bi.m_int (by decide +kernel) (pa_cons (pe_op op_add_str pe_str (pe_op op_rep_str pe_str pe_int)) pa_nil))) (pe_callTy call_int1 (by rfl) bi.m_int (by decide +kernel) (pa_cons (pe_cmpR op_ge (pe_callB call_abs (by rfl) bi.m_abs (by decide +kernel) (pa_cons (pv 2) pa_nil)) (pe_op op_pow pe_int pe_int) (nomark _)) pa_nil))))
    (pss_one (ps_ret (pe_lst (pa_cons (pv 3) (pa_cons (pe_op op_mod (pe_op op_mulW (pe_op (kOp (K := K) rPlus op_plus rfl) (pe_op (kOp (K := K) rPlus op_plus rfl) (pe_op op_mod (pv 2) pe_int) (pe_op op_mulW (pe_op op_mulW pe_int (pv 1)) (pv 1))) pe_int) pe_int) pe_int) pa_nil)))))))), ?_⟩
  exact (ls_seq (ls_asg (le_op opl_plus (le_op opl_mul le_c (le_var 1)) (le_cb cbl_len (la_cons (le_var 0) la_nil))) (lg_name 2))
    (ls_seq (ls_if (lt_t (le_op opl_lt (le_var 1) (le_cb cbl_len (la_cons (le_var 0) la_nil))))
    (ls_asg (le_op opl_ix (le_var 0) (le_var 1)) (lg_name 2))
    ls_next)
    (ls_seq (ls_asg (le_op opl_mul (le_op opl_mod (le_cb cbl_abs (la_cons (le_var 2) la_nil)) le_big) (le_cb cbl_int (la_cons (le_op opl_ge (le_cb cbl_abs (la_cons (le_var 2) la_nil)) (le_op opl_pow le_c le_c)) la_nil))) (lg_name 3))
    (ls_retO (lo_lst (la_cons (le_var 3) (la_cons (le_op opl_mod (le_op opl_mul (le_op opl_plus (le_op opl_plus (le_op opl_mod (le_var 2) le_c) (le_op opl_mul (le_op opl_mul le_c (le_var 1)) (le_var 1))) le_c) le_c) le_c) la_nil)))))))

noncomputable def m__law_take : MF := mBody [true, false] 1
  (sSeq (sIf (tV (e2 fGt (e2 fIx (eVar 0) (eC (.int 0))) (eC (.int 0))))
  (sSeq (sAsg (e2 fMod (e2 fIx (eVar 0) (eC (.int 0))) (eVar 1)) (gN 2))
  (sSeq (sSetL 0 (eC (.int 0)) (e2 fDiv (e2 fIx (eVar 0) (eC (.int 0))) (eVar 1)))
  (sRet (eVar 2))))
  sNext)
  (sSeq (sSetL 0 (eC (.int 1)) (e2 fMod (e2 fPlus (e2 fMul (e2 fIx (eVar 0) (eC (.int 1))) (eC (.int 1181783497276652981))) (eC (.int 12345678910987))) (eC (.int 2305843009213693951))))
  (sRet (e2 fMod (e2 fDiv (e2 fMod (e2 fMul (e2 fDiv (e2 fIx (eVar 0) (eC (.int 1))) (eC (.int 65537))) (e2 fPlus (e2 fMod (e2 fIx (eVar 0) (eC (.int 1))) (eC (.int 65537))) (eC (.int 3)))) (eC (.int 2305843009213693921))) (eC (.int 97))) (eVar 1)))))
theorem ok__law_take {f : Addr} {fd : FuncData} (F : Fun K "_law_take" "_law_take" s__law_take f fd) (bi : Bi mg) : FnOk P w K mg base CX0 1 f fd P__law_take (spM P w K [true, false] m__law_take) :=
  okM F sc__law_take rfl rfl fun cdv A outer s0 H E hr => by
  have hu64 := hr.units
  refine ⟨_, (pss_cons (ps_if (pt_cmpR op_gt (pe_ix (kIx (K := K) rIx ix_seq rfl) (pv 0) pe_int (fun _ _ => rfl)) pe_int (nomark _))
    (pss_cons (ps_set (i := 2) sc__law_take.nd rfl (.inl rfl) (pe_op op_mod (pe_ix (kIx (K := K) rIx ix_seq rfl) (pv 0) pe_int (fun _ _ => rfl)) (pv 1)))
    (pss_cons (ps_asg (pe_op op_fdivW (pe_ix (kIx (K := K) rIx ix_seq rfl) (pv 0) pe_int (fun _ _ => rfl)) (pv 1)) (pg_sub (pv 0) pe_int set_list))
    (pss_one (ps_ret (pv 2)))))
    pss_nil)
    (pss_cons (ps_asg (pe_op op_mod (pe_op (kOp (K := K) rPlus op_plus rfl) (pe_op op_mulW (pe_ix (kIx (K := K) rIx ix_seq rfl) (pv 0) pe_int (fun _ _ => rfl)) pe_int) pe_int) pe_int) (pg_sub (pv 0) pe_int set_list))
    (pss_one (ps_ret (pe_op op_mod (pe_op op_fdivW (pe_op op_mod (pe_op op_mulW (pe_op op_fdivW (pe_ix (kIx (K := K) rIx ix_seq rfl) (pv 0) pe_int (fun _ _ => rfl)) pe_int) (pe_op (kOp (K := K) rPlus op_plus rfl) (pe_op op_mod (pe_ix (kIx (K := K) rIx ix_seq rfl) (pv 0) pe_int (fun _ _ => rfl)) pe_int) pe_int)) pe_int) pe_int) (pv 1)))))), ?_⟩
  exact (ls_seq (ls_if (lt_t (le_op opl_gt (le_op opl_ix (le_var 0) le_c) le_c))
    (ls_seq (ls_asg (le_op opl_mod (le_op opl_ix (le_var 0) le_c) (le_var 1)) (lg_name 2))
    (ls_seq (ls_setL 0 le_c (le_op opl_fdiv (le_op opl_ix (le_var 0) le_c) (le_var 1)))
    (ls_ret (le_var 2))))
    ls_next)
    (ls_seq (ls_setL 0 le_c (le_op opl_mod (le_op opl_plus (le_op opl_mul (le_op opl_ix (le_var 0) le_c) le_c) le_c) le_c))
    (ls_ret (le_op opl_mod (le_op opl_fdiv (le_op opl_mod (le_op opl_mul (le_op opl_fdiv (le_op opl_ix (le_var 0) le_c) le_c) (le_op opl_plus (le_op opl_mod (le_op opl_ix (le_var 0) le_c) le_c) le_c)) le_c) le_c) (le_var 1)))))

noncomputable def m__law_wisp : MF := mBody [true, false, false] 4
  (sSeq (sPar [3, 4, 5] (yCons (xE (e2 fPlus (eC (.int 1)) (eCallB [true, false] m__law_take (aCons (eVar 0) (aCons (eVar 1) aNil))))) (yCons (xE (eC (.int 0))) (yCons (xE (eTup aNil)) yNil))))
  (sSeq (sWhile (tV (e2 fGt (eVar 3) (eC (.int 0))))
  (sSeq (sAsg (e2 fPlus (eC (.int 1)) (eCallB [true, false] m__law_take (aCons (eVar 0) (aCons (eVar 3) aNil)))) (gN 6))
  (sSeq (sAsg (e2 fPlus (e2 fPlus (eVar 4) (eC (.int 1))) (eCallB [true, false] m__law_take (aCons (eVar 0) (aCons (eC (.int 3)) aNil)))) (gN 4))
  (sSeq (sAsg (e2 fPlus (eTup (aCons (eTup (aCons (e2 fMul (eVar 4) (eVar 2)) (aCons (eVar 6) aNil))) aNil)) (eVar 5)) (gN 5))
  (sAsg (e2 fSub (eVar 3) (eVar 6)) (gN 3))))))
  (sRet (eTup (aCons (eCallB [true, false] m__law_take (aCons (eVar 0) (aCons (eC (.int 2)) aNil))) (aCons (eVar 5) aNil))))))
theorem ok__law_wisp {f__law_take : Addr} {fd__law_take : FuncData} {f : Addr} {fd : FuncData} (F : Fun K "_law_wisp" "_law_wisp" s__law_wisp f fd) (bi : Bi mg) (C__law_take : Cal P w K mg base "_law_take" P__law_take 1 (spM P w K [true, false] m__law_take) f__law_take fd__law_take) : FnOk P w K mg base CX0 2 f fd P__law_wisp (spM P w K [true, false, false] m__law_wisp) :=
  okM F sc__law_wisp rfl rfl fun cdv A outer s0 H E hr => by
  have hu64 := hr.units
  refine ⟨_, (pss_cons (ps_par3 (i := 3) (j := 4) (l := 5) rfl sc__law_wisp.nd rfl rfl rfl (by decide) (by decide) (by decide) rfl rfl rfl (pa_cons (pe_op (kOp (K := K) rPlus op_plus rfl) pe_int (pe_call (C__law_take.G.mono (by decide)) hr (by rfl) C__law_take.g C__law_take.kp C__law_take.b .nil pass0 (pa_cons (pv 0) (pa_cons (pv 1) pa_nil)))) (pa_cons pe_int (pa_cons (pe_tupF pa_nil) pa_nil))) rfl)
    (pss_cons (ps_while PassesOwn.never (pt_cmpR op_gt (pv 3) pe_int (nomark _))
    (pss_cons (ps_set (i := 6) sc__law_wisp.nd rfl (.inl rfl) (pe_op (kOp (K := K) rPlus op_plus rfl) pe_int (pe_call (C__law_take.G.mono (by decide)) hr (by rfl) C__law_take.g C__law_take.kp C__law_take.b .nil pass0 (pa_cons (pv 0) (pa_cons (pv 3) pa_nil)))))
    (pss_cons (ps_set (i := 4) sc__law_wisp.nd rfl (.inl rfl) (pe_op (kOp (K := K) rPlus op_plus rfl) (pe_op (kOp (K := K) rPlus op_plus rfl) (pv 4) pe_int) (pe_call (C__law_take.G.mono (by decide)) hr (by rfl) C__law_take.g C__law_take.kp C__law_take.b .nil pass0 (pa_cons (pv 0) (pa_cons pe_int pa_nil)))))
    (pss_cons (ps_set (i := 5) sc__law_wisp.nd rfl (.inl rfl) (pe_op (kOp (K := K) rPlus op_plus rfl) (pe_tupF (pa_cons (pe_tupF (pa_cons (pe_op op_mulW (pv 4) (pv 2)) (pa_cons (pv 6) pa_nil))) pa_nil)) (pv 5)))
    (pss_one (ps_set (i := 3) sc__law_wisp.nd rfl (.inl rfl) (pe_op op_sub (pv 3) (pv 6))))))))
    (pss_one (ps_ret (pe_tupF (pa_cons (pe_call (C__law_take.G.mono (by decide)) hr (by rfl) C__law_take.g C__law_take.kp C__law_take.b .nil pass0 (pa_cons (pv 0) (pa_cons pe_int pa_nil))) (pa_cons (pv 5) pa_nil))))))), ?_⟩
  exact (ls_seq (ls_par3 (ly_cons (lx_e (le_op opl_plus le_c (le_callB (la_cons (le_var 0) (la_cons (le_var 1) la_nil))))) (ly_cons (lx_e le_c) (ly_cons (lx_e (le_tup la_nil)) ly_nil))))
    (ls_seq (ls_while (lt_t (le_op opl_gt (le_var 3) le_c))
    (ls_seq (ls_asg (le_op opl_plus le_c (le_callB (la_cons (le_var 0) (la_cons (le_var 3) la_nil)))) (lg_name 6))
    (ls_seq (ls_asg (le_op opl_plus (le_op opl_plus (le_var 4) le_c) (le_callB (la_cons (le_var 0) (la_cons le_c la_nil)))) (lg_name 4))
    (ls_seq (ls_asg (le_op opl_plus (le_tup (la_cons (le_tup (la_cons (le_op opl_mul (le_var 4) (le_var 2)) (la_cons (le_var 6) la_nil))) la_nil)) (le_var 5)) (lg_name 5))
    (ls_asg (le_op opl_sub (le_var 3) (le_var 6)) (lg_name 3))))))
    (ls_ret (le_tup (la_cons (le_callB (la_cons (le_var 0) (la_cons le_c la_nil))) (la_cons (le_var 5) la_nil))))))

noncomputable def m__law_set : MF := mBody [true] 9
  (sSeq (sPar [1, 2, 3] (yCons (xE (e2 fPlus (eC (.int 1)) (eCallB [true, false] m__law_take (aCons (eVar 0) (aCons (eC (.int 3)) aNil))))) (yCons (xE (e2 fIx (eO (oLst (aCons (eC (.int 1)) (aCons (eC (.int 1)) (aCons (e2 fPow (eC (.int 10)) (eC (.int 30))) aNil))))) (eCallB [true, false] m__law_take (aCons (eVar 0) (aCons (eC (.int 3)) aNil))))) (yCons (xE (e2 fPlus (eC (.int 1)) (eCallB [true, false] m__law_take (aCons (eVar 0) (aCons (eC (.int 4)) aNil))))) yNil))))
  (sSeq (sPar [4, 5] (yCons (xE (e2 fIx (e2 fIx (eO (oLst (aCons (eO (oLst (aCons (eC (.int 8)) (aCons (eC (.int 8)) (aCons (eC (.int 8)) (aCons (eC (.int 8)) aNil)))))) (aCons (eO (oLst (aCons (eC (.int 8)) (aCons (eC (.int 5)) (aCons (eC (.int 3)) (aCons (eC (.int 3)) aNil)))))) (aCons (eO (oLst (aCons (eC (.int 6)) (aCons (eC (.int 4)) (aCons (eC (.int 3)) (aCons (eC (.int 2)) aNil)))))) aNil))))) (e2 fSub (eVar 1) (eC (.int 1)))) (e2 fSub (eVar 3) (eC (.int 1))))) (yCons (xO (oLst aNil)) yNil)))
  (sSeq (sFor (iR1 (aCons (eVar 3) aNil)) (gN 6)
  (sSeq (sAsg (e2 fIx (eO (oLst (aCons (eC .none) (aCons (eCallB [true, false] m__law_take (aCons (eVar 0) (aCons (eC (.int 3)) aNil))) (aCons (e2 fPlus (eC (.int 1)) (eCallB [true, false] m__law_take (aCons (eVar 0) (aCons (eC (.int 9)) aNil)))) aNil))))) (eCallB [true, false] m__law_take (aCons (eVar 0) (aCons (eC (.int 3)) aNil)))) (gN 7))
  (sDrop (eMt isListD 5 fAppend (aCons (eTup (aCons (eCallB [true, false, false] m__law_wisp (aCons (eVar 0) (aCons (eVar 4) (aCons (eVar 2) aNil)))) (aCons (eVar 7) aNil))) aNil)))))
  (sSeq (sIf (tAnd' (tV (e2 fGt (eVar 3) (eC (.int 1)))) (tV (e2 fEq (eCallB [true, false] m__law_take (aCons (eVar 0) (aCons (eC (.int 6)) aNil))) (eC (.int 0)))))
  (sSetL 5 (e1 fNeg (eC (.int 1))) (eTup (aCons (e2 fIx (e2 fIx (eVar 5) (eC (.int 0))) (eC (.int 0))) (aCons (e2 fIx (e2 fIx (eVar 5) (e1 fNeg (eC (.int 1)))) (eC (.int 1))) aNil))))
  sNext)
  (sSeq (sAsg (e2 fPlus (eC (.int 1)) (eCallB [true, false] m__law_take (aCons (eVar 0) (aCons (eC (.int 5)) aNil)))) (gN 8))
  (sSeq (sAsg (e2 fPlus (eVar 8) (eCallB [true, false] m__law_take (aCons (eVar 0) (aCons (eC (.int 4)) aNil)))) (gN 9))
  (sSeq (sAsg (e2 fSub (e2 fMul (eVar 8) (eVar 2)) (e2 fIx (eO (oLst (aCons (eC (.int 0)) (aCons (e2 fSub (eVar 2) (eC (.int 1))) aNil)))) (eCallB [true, false] m__law_take (aCons (eVar 0) (aCons (eC (.int 2)) aNil))))) (gN 8))
  (sRet (eTup (aCons (eB fTup (aCons (eVar 5) aNil)) (aCons (eTup (aCons (eVar 8) (aCons (e2 fPlus (e2 fMul (eVar 9) (eVar 2)) (e2 fIx (eO (oLst (aCons (eC (.int 0)) (aCons (e2 fSub (eVar 2) (eC (.int 1))) aNil)))) (eCallB [true, false] m__law_take (aCons (eVar 0) (aCons (eC (.int 2)) aNil))))) (aCons (eVar 1) aNil)))) aNil)))))))))))
theorem ok__law_set {f__law_take : Addr} {fd__law_take : FuncData} {f__law_wisp : Addr} {fd__law_wisp : FuncData} {f : Addr} {fd : FuncData} (F : Fun K "_law_set" "_law_set" s__law_set f fd) (bi : Bi mg) (C__law_take : Cal P w K mg base "_law_take" P__law_take 1 (spM P w K [true, false] m__law_take) f__law_take fd__law_take) (C__law_wisp : Cal P w K mg base "_law_wisp" P__law_wisp 2 (spM P w K [true, false, false] m__law_wisp) f__law_wisp fd__law_wisp) : FnOk P w K mg base CX0 3 f fd P__law_set (spM P w K [true] m__law_set) :=
  okM F sc__law_set rfl rfl fun cdv A outer s0 H E hr => by
  have hu64 := hr.units
  refine ⟨_, (pss_cons (ps_par3 (i := 1) (j := 2) (l := 3) rfl sc__law_set.nd rfl rfl rfl (by decide) (by decide) (by decide) rfl rfl rfl (pa_cons (pe_op (kOp (K := K) rPlus op_plus rfl) pe_int (pe_call (C__law_take.G.mono (by decide)) hr (by rfl) C__law_take.g C__law_take.kp C__law_take.b .nil pass0 (pa_cons (pv 0) (pa_cons pe_int pa_nil)))) (pa_cons (pe_ix (kIx (K := K) rIx ix_seq rfl) (pe_lst (pa_cons pe_int (pa_cons pe_int (pa_cons (pe_op op_pow pe_int pe_int) pa_nil)))) (pe_call (C__law_take.G.mono (by decide)) hr (by rfl) C__law_take.g C__law_take.kp C__law_take.b .nil pass0 (pa_cons (pv 0) (pa_cons pe_int pa_nil))) (fun _ _ => rfl)) (pa_cons (pe_op (kOp (K := K) rPlus op_plus rfl) pe_int (pe_call (C__law_take.G.mono (by decide)) hr (by rfl) C__law_take.g C__law_take.kp C__law_take.b .nil pass0 (pa_cons (pv 0) (pa_cons pe_int pa_nil)))) pa_nil))) rfl)
    (pss_cons (ps_par (i := 4) (j := 5) rfl sc__law_set.nd rfl rfl (by decide) rfl rfl (pa_cons (pe_ix (kIx (K := K) rIx ix_seq rfl) (pe_ix (kIx (K := K) rIx ix_seq rfl) (pe_lst (pa_cons (pe_lst (pa_cons pe_int (pa_cons pe_int (pa_cons pe_int (pa_cons pe_int pa_nil))))) (pa_cons (pe_lst (pa_cons pe_int (pa_cons pe_int (pa_cons pe_int (pa_cons pe_int pa_nil))))) (pa_cons (pe_lst (pa_cons pe_int (pa_cons pe_int (pa_cons pe_int (pa_cons pe_int pa_nil))))) pa_nil)))) (pe_op op_sub (pv 1) pe_int) (fun _ _ => rfl)) (pe_op op_sub (pv 3) pe_int) (fun _ _ => rfl)) (pa_cons (pe_lst pa_nil) pa_nil)) rfl)
    (pss_cons (ps_for PassesOwn.never rfl (pi_range1 rfl bi.m_range (pa_cons (pv 3) pa_nil)) (pg_name (i := 6) sc__law_set.nd rfl (.inl rfl))
    (pss_cons (ps_set (i := 7) sc__law_set.nd rfl (.inl rfl) (pe_ix (kIx (K := K) rIx ix_seq rfl) (pe_lst (pa_cons pe_non (pa_cons (pe_call (C__law_take.G.mono (by decide)) hr (by rfl) C__law_take.g C__law_take.kp C__law_take.b .nil pass0 (pa_cons (pv 0) (pa_cons pe_int pa_nil))) (pa_cons (pe_op (kOp (K := K) rPlus op_plus rfl) pe_int (pe_call (C__law_take.G.mono (by decide)) hr (by rfl) C__law_take.g C__law_take.kp C__law_take.b .nil pass0 (pa_cons (pv 0) (pa_cons pe_int pa_nil)))) pa_nil)))) (pe_call (C__law_take.G.mono (by decide)) hr (by rfl) C__law_take.g C__law_take.kp C__law_take.b .nil pass0 (pa_cons (pv 0) (pa_cons pe_int pa_nil))) (fun _ _ => rfl)))
    (pss_one (ps_expr (pe_bm PySem.F.plainAttrs_list PySem.F.slot_list_append PySem.F.type_list_append mt_append (pv 5) (pa_cons (pe_tupF (pa_cons (pe_call (C__law_wisp.G.mono (by decide)) hr (by rfl) C__law_wisp.g C__law_wisp.kp C__law_wisp.b .nil pass0 (pa_cons (pv 0) (pa_cons (pv 4) (pa_cons (pv 2) pa_nil)))) (pa_cons (pv 7) pa_nil))) pa_nil))))))
    (pss_cons (ps_if (pw_and (pt_cmpR op_gt (pv 3) pe_int (nomark _)) (pw_and1 (pt_cmpR (kOp (K := K) rEqD (op_eqD hu64) rfl) (pe_call (C__law_take.G.mono (by decide)) hr (by rfl) C__law_take.g C__law_take.kp C__law_take.b .nil pass0 (pa_cons (pv 0) (pa_cons pe_int pa_nil))) pe_int (nomark _)))).pt
    (pss_one (ps_asg (pe_tupF (pa_cons (pe_ix (kIx (K := K) rIx ix_seq rfl) (pe_ix (kIx (K := K) rIx ix_seq rfl) (pv 5) pe_int (fun _ _ => rfl)) pe_int (fun _ _ => rfl)) (pa_cons (pe_ix (kIx (K := K) rIx ix_seq rfl) (pe_ix (kIx (K := K) rIx ix_seq rfl) (pv 5) (pe_un un_neg pe_int) (fun _ _ => rfl)) pe_int (fun _ _ => rfl)) pa_nil))) (pg_sub (pv 5) (pe_un un_neg pe_int) set_list)))
    pss_nil)
    (pss_cons (ps_set (i := 8) sc__law_set.nd rfl (.inl rfl) (pe_op (kOp (K := K) rPlus op_plus rfl) pe_int (pe_call (C__law_take.G.mono (by decide)) hr (by rfl) C__law_take.g C__law_take.kp C__law_take.b .nil pass0 (pa_cons (pv 0) (pa_cons pe_int pa_nil)))))
    (pss_cons (ps_set (i := 9) sc__law_set.nd rfl (.inl rfl) (pe_op (kOp (K := K) rPlus op_plus rfl) (pv 8) (pe_call (C__law_take.G.mono (by decide)) hr (by rfl) C__law_take.g C__law_take.kp C__law_take.b .nil pass0 (pa_cons (pv 0) (pa_cons pe_int pa_nil)))))
    (pss_cons (ps_set (i := 8) sc__law_set.nd rfl (.inl rfl) (pe_op op_sub (pe_op op_mulW (pv 8) (pv 2)) (pe_ix (kIx (K := K) rIx ix_seq rfl) (pe_lst (pa_cons pe_int (pa_cons (pe_op op_sub (pv 2) pe_int) pa_nil))) (pe_call (C__law_take.G.mono (by decide)) hr (by rfl) C__law_take.g C__law_take.kp C__law_take.b .nil pass0 (pa_cons (pv 0) (pa_cons pe_int pa_nil))) (fun _ _ => rfl))))
    (pss_one (ps_ret (pe_tupF (pa_cons (pe_callTy (kCl (K := K) rTupF call_tupleF rfl) (by rfl) bi.m_tuple (by decide +kernel) (pa_cons (pv 5) pa_nil)) (pa_cons (pe_tupF (pa_cons (pv 8) (pa_cons (pe_op (kOp (K := K) rPlus op_plus rfl) (pe_op op_mulW (pv 9) (pv 2)) (pe_ix (kIx (K := K) rIx ix_seq rfl) (pe_lst (pa_cons pe_int (pa_cons (pe_op op_sub (pv 2) pe_int) pa_nil))) (pe_call (C__law_take.G.mono (by decide)) hr (by rfl) C__law_take.g C__law_take.kp C__law_take.b .nil pass0 (pa_cons (pv 0) (pa_cons pe_int pa_nil))) (fun _ _ => rfl))) (pa_cons (pv 1) pa_nil)))) pa_nil)))))))))))), ?_⟩
  exact (ls_seq (ls_par3 (ly_cons (lx_e (le_op opl_plus le_c (le_callB (la_cons (le_var 0) (la_cons le_c la_nil))))) (ly_cons (lx_e (le_op opl_ix (le_o (lo_lst (la_cons le_c (la_cons le_c (la_cons (le_op opl_pow le_c le_c) la_nil))))) (le_callB (la_cons (le_var 0) (la_cons le_c la_nil))))) (ly_cons (lx_e (le_op opl_plus le_c (le_callB (la_cons (le_var 0) (la_cons le_c la_nil))))) ly_nil))))
    (ls_seq (ls_par2 (ly_cons (lx_e (le_op opl_ix (le_op opl_ix (le_o (lo_lst (la_cons (le_o (lo_lst (la_cons le_c (la_cons le_c (la_cons le_c (la_cons le_c la_nil)))))) (la_cons (le_o (lo_lst (la_cons le_c (la_cons le_c (la_cons le_c (la_cons le_c la_nil)))))) (la_cons (le_o (lo_lst (la_cons le_c (la_cons le_c (la_cons le_c (la_cons le_c la_nil)))))) la_nil))))) (le_op opl_sub (le_var 1) le_c)) (le_op opl_sub (le_var 3) le_c))) (ly_cons (lx_o (lo_lst la_nil)) ly_nil)))
    (ls_seq (ls_for (li_range1 (la_cons (le_var 3) la_nil)) (lg_name 6)
    (ls_seq (ls_asg (le_op opl_ix (le_o (lo_lst (la_cons le_c (la_cons (le_callB (la_cons (le_var 0) (la_cons le_c la_nil))) (la_cons (le_op opl_plus le_c (le_callB (la_cons (le_var 0) (la_cons le_c la_nil)))) la_nil))))) (le_callB (la_cons (le_var 0) (la_cons le_c la_nil)))) (lg_name 7))
    (ls_drop (le_mt mtl_append 5 (la_cons (le_tup (la_cons (le_callB (la_cons (le_var 0) (la_cons (le_var 4) (la_cons (le_var 2) la_nil)))) (la_cons (le_var 7) la_nil))) la_nil) fun _ _ _ _ => list_ty))))
    (ls_seq (ls_if (lt_and (lt_t (le_op opl_gt (le_var 3) le_c)) (lt_t (le_op opl_eq (le_callB (la_cons (le_var 0) (la_cons le_c la_nil))) le_c)))
    (ls_setL 5 (le_un unl_neg le_c) (le_tup (la_cons (le_op opl_ix (le_op opl_ix (le_var 5) le_c) le_c) (la_cons (le_op opl_ix (le_op opl_ix (le_var 5) (le_un unl_neg le_c)) le_c) la_nil))))
    ls_next)
    (ls_seq (ls_asg (le_op opl_plus le_c (le_callB (la_cons (le_var 0) (la_cons le_c la_nil)))) (lg_name 8))
    (ls_seq (ls_asg (le_op opl_plus (le_var 8) (le_callB (la_cons (le_var 0) (la_cons le_c la_nil)))) (lg_name 9))
    (ls_seq (ls_asg (le_op opl_sub (le_op opl_mul (le_var 8) (le_var 2)) (le_op opl_ix (le_o (lo_lst (la_cons le_c (la_cons (le_op opl_sub (le_var 2) le_c) la_nil)))) (le_callB (la_cons (le_var 0) (la_cons le_c la_nil))))) (lg_name 8))
    (ls_ret (le_tup (la_cons (le_cb cbl_tup (la_cons (le_var 5) la_nil)) (la_cons (le_tup (la_cons (le_var 8) (la_cons (le_op opl_plus (le_op opl_mul (le_var 9) (le_var 2)) (le_op opl_ix (le_o (lo_lst (la_cons le_c (la_cons (le_op opl_sub (le_var 2) le_c) la_nil)))) (le_callB (la_cons (le_var 0) (la_cons le_c la_nil))))) (la_cons (le_var 1) la_nil)))) la_nil)))))))))))

noncomputable def m__law_first : MF := mBody [false] 2
  (sRet (eTup (aCons (eTup aNil) (aCons (eB fTup (aCons (eO (oLc (iT (eVar 0)) [1, 2] (gT [(gN 1), (gN 2)]) tYesF (eVar 2))) aNil)) aNil))))
theorem ok__law_first {f : Addr} {fd : FuncData} (F : Fun K "_law_first" "_law_first" s__law_first f fd) (bi : Bi mg) : FnOk P w K mg base CX0 1 f fd P__law_first (spM P w K [false] m__law_first) :=
  okM F sc__law_first rfl rfl fun cdv A outer s0 H E hr => by
  have hu64 := hr.units
  refine ⟨_, (pss_one (ps_ret (pe_tupF (pa_cons (pe_tupF pa_nil) (pa_cons (pe_callTy (kCl (K := K) rTupF call_tupleF rfl) (by rfl) bi.m_tuple (by decide +kernel) (pa_cons (pe_lc (own := [("_law_wisp_here", 1), ("_law_many", 2)]) (g := (gTup K 2 (gCons (gName 1) (gCons (gName 2) gNil)))) (tt := tYes) rfl sc__law_first.nd (pi_tup (pv 0)) (blkOk_by (N := N__law_first) (sc := defScope s__law_first) (by decide +kernel)) (fun _ _ _ _ _ => (pg_tup rfl (pgs_cons (pg_name (i := 1) sc__law_first.nd rfl (.inl rfl) (.inr rfl)) (pgs_cons (pg_name (i := 2) sc__law_first.nd rfl (.inl rfl) (.inr rfl)) pgs_nil)))) (fun _ _ _ _ _ => pts_nil) (fun _ _ _ _ _ => (pv 2))) pa_nil)) pa_nil))))), ?_⟩
  exact (ls_ret (le_tup (la_cons (le_tup la_nil) (la_cons (le_cb cbl_tup (la_cons (le_o (lo_lc (li_tup (le_var 0)) (lg_tup (lgs_cons (lg_name 1) (lgs_cons (lg_name 2) lgs_nil))) lt_yes (le_var 2) (by decide))) la_nil)) la_nil))))

noncomputable def m__law_lots : MF := mBody [false, false] 5
  (sSeq (sOwn 2 (oLst (aCons (eTup aNil) aNil)))
  (sSeq (sFor (iT (eVar 0)) (gN 3)
  (sSeq (sOwn 4 (oLst aNil))
  (sSeq (sFor (iL (eVar 2)) (gN 5)
  (sSeq (sAsg (eC (.int 0)) (gN 6))
  (sWhile (tAnd' (tV (e2 fLe (e2 fPlus (eVar 6) (eB fSumT (aCons (eVar 5) aNil))) (eVar 1))) (tOr' (tV (e2 fIsN (eVar 3) (eC .none))) (tV (e2 fLe (eVar 6) (eVar 3)))))
  (sSeq (sDrop (eMt isListD 4 fAppend (aCons (e2 fPlus (eVar 5) (eTup (aCons (eVar 6) aNil))) aNil)))
  (sAsg (e2 fPlus (eVar 6) (eC (.int 1))) (gN 6))))))
  (sAsg (eVar 4) (gN 2)))))
  (sRet (eVar 2))))
theorem ok__law_lots {f : Addr} {fd : FuncData} (F : Fun K "_law_lots" "_law_lots" s__law_lots f fd) (bi : Bi mg) : FnOk P w K mg base CX0 1 f fd P__law_lots (spM P w K [false, false] m__law_lots) :=
  okM F sc__law_lots rfl rfl fun cdv A outer s0 H E hr => by
  have hu64 := hr.units
  refine ⟨_, (pss_cons (ps_set (i := 2) sc__law_lots.nd rfl (.inl rfl) (pe_lst (pa_cons (pe_tupF pa_nil) pa_nil)))
    (pss_cons (ps_for PassesOwn.never rfl (pi_tup (pv 0)) (pg_name (i := 3) sc__law_lots.nd rfl (.inl rfl))
    (pss_cons (ps_set (i := 4) sc__law_lots.nd rfl (.inl rfl) (pe_lst pa_nil))
    (pss_cons (ps_for PassesOwn.never rfl (pi_list (pv 2)) (pg_name (i := 5) sc__law_lots.nd rfl (.inl rfl))
    (pss_cons (ps_set (i := 6) sc__law_lots.nd rfl (.inl rfl) pe_int)
    (pss_one (ps_while PassesOwn.never (pw_and (pt_cmpR op_le (pe_op (kOp (K := K) rPlus op_plus rfl) (pv 6) (pe_callB (kCl (K := K) rSumT (cr_sumT rfl) rfl) (by rfl) bi.m_sum (by decide +kernel) (pa_cons (pv 5) pa_nil))) (pv 1) (nomark _)) (pw_and1 (pw_or (pt_cmpR op_isN (pv 3) pe_non (nomark _)) (pw_or1 (pt_cmpR op_le (pv 6) (pv 3) (nomark _)))).pt)).pt
    (pss_cons (ps_expr (pe_bm PySem.F.plainAttrs_list PySem.F.slot_list_append PySem.F.type_list_append mt_append (pv 4) (pa_cons (pe_op (kOp (K := K) rPlus op_plus rfl) (pv 5) (pe_tupF (pa_cons (pv 6) pa_nil))) pa_nil)))
    (pss_one (ps_set (i := 6) sc__law_lots.nd rfl (.inl rfl) (pe_op (kOp (K := K) rPlus op_plus rfl) (pv 6) pe_int))))))))
    (pss_one (ps_set (i := 2) sc__law_lots.nd rfl (.inl rfl) (pv 4))))))
    (pss_one (ps_ret (pv 2))))), ?_⟩
  exact (ls_seq (ls_own (lo_lst (la_cons (le_tup la_nil) la_nil)))
    (ls_seq (ls_for (li_tup (le_var 0)) (lg_name 3)
    (ls_seq (ls_own (lo_lst la_nil))
    (ls_seq (ls_for (li_list (le_var 2)) (lg_name 5)
    (ls_seq (ls_asg le_c (lg_name 6))
    (ls_while (lt_and (lt_t (le_op opl_le (le_op opl_plus (le_var 6) (le_cb cbl_sumT (la_cons (le_var 5) la_nil))) (le_var 1))) (lt_or (lt_t (le_op opl_isN (le_var 3) le_c)) (lt_t (le_op opl_le (le_var 6) (le_var 3)))))
    (ls_seq (ls_drop (le_mt mtl_append 4 (la_cons (le_op opl_plus (le_var 5) (le_tup (la_cons (le_var 6) la_nil))) la_nil) fun _ _ _ _ => list_ty))
    (ls_asg (le_op opl_plus (le_var 6) le_c) (lg_name 6))))))
    (ls_asg (le_var 4) (lg_name 2)))))
    (ls_ret (le_var 2))))

noncomputable def m__law_at : MF := mBody [false, false] 2
  (sSeq (sFor (iT (e2 fIx (eVar 0) (eC (.int 1)))) (gT [(gN 2), (gN 3)])
  (sSeq (sIf (tV (e2 fLt (eVar 1) (eVar 3)))
  (sRet (eVar 2))
  sNext)
  (sAsg (e2 fSub (eVar 1) (eVar 3)) (gN 1))))
  (sRet (eC (.int 0))))
theorem ok__law_at {f : Addr} {fd : FuncData} (F : Fun K "_law_at" "_law_at" s__law_at f fd) (bi : Bi mg) : FnOk P w K mg base CX0 1 f fd P__law_at (spM P w K [false, false] m__law_at) :=
  okM F sc__law_at rfl rfl fun cdv A outer s0 H E hr => by
  have hu64 := hr.units
  refine ⟨_, (pss_cons (ps_for PassesOwn.never rfl (pi_tup (pe_ix (kIx (K := K) rIx ix_seq rfl) (pv 0) pe_int (fun _ _ => rfl))) (pg_tup rfl (pgs_cons (pg_name (i := 2) sc__law_at.nd rfl (.inl rfl)) (pgs_cons (pg_name (i := 3) sc__law_at.nd rfl (.inl rfl)) pgs_nil)))
    (pss_cons (ps_if (pt_cmpR op_lt (pv 1) (pv 3) (nomark _))
    (pss_one (ps_ret (pv 2)))
    pss_nil)
    (pss_one (ps_set (i := 1) sc__law_at.nd rfl (.inl rfl) (pe_op op_sub (pv 1) (pv 3))))))
    (pss_one (ps_ret pe_int))), ?_⟩
  exact (ls_seq (ls_for (li_tup (le_op opl_ix (le_var 0) le_c)) (lg_tup (lgs_cons (lg_name 2) (lgs_cons (lg_name 3) lgs_nil)))
    (ls_seq (ls_if (lt_t (le_op opl_lt (le_var 1) (le_var 3)))
    (ls_ret (le_var 2))
    ls_next)
    (ls_asg (le_op opl_sub (le_var 1) (le_var 3)) (lg_name 1))))
    (ls_ret le_c))

noncomputable def m__law_length : MF := mBody [false] 2
  (sRet (eB fSum (aCons (eO (oLc (iT (e2 fIx (eVar 0) (eC (.int 1)))) [1, 2] (gT [(gN 1), (gN 2)]) tYesF (eVar 2))) aNil)))
theorem ok__law_length {f : Addr} {fd : FuncData} (F : Fun K "_law_length" "_law_length" s__law_length f fd) (bi : Bi mg) : FnOk P w K mg base CX0 1 f fd P__law_length (spM P w K [false] m__law_length) :=
  okM F sc__law_length rfl rfl fun cdv A outer s0 H E hr => by
  have hu64 := hr.units
  refine ⟨_, (pss_one (ps_ret (pe_callB (kCl (K := K) rSum (cr_sum rfl) rfl) (by rfl) bi.m_sum (by decide +kernel) (pa_cons (pe_lc (own := [("_law_step", 1), ("_law_long", 2)]) (g := (gTup K 2 (gCons (gName 1) (gCons (gName 2) gNil)))) (tt := tYes) rfl sc__law_length.nd (pi_tup (pe_ix (kIx (K := K) rIx ix_seq rfl) (pv 0) pe_int (fun _ _ => rfl))) (blkOk_by (N := N__law_length) (sc := defScope s__law_length) (by decide +kernel)) (fun _ _ _ _ _ => (pg_tup rfl (pgs_cons (pg_name (i := 1) sc__law_length.nd rfl (.inl rfl) (.inr rfl)) (pgs_cons (pg_name (i := 2) sc__law_length.nd rfl (.inl rfl) (.inr rfl)) pgs_nil)))) (fun _ _ _ _ _ => pts_nil) (fun _ _ _ _ _ => (pv 2))) pa_nil)))), ?_⟩
  exact (ls_ret (le_cb cbl_sum (la_cons (le_o (lo_lc (li_tup (le_op opl_ix (le_var 0) le_c)) (lg_tup (lgs_cons (lg_name 1) (lgs_cons (lg_name 2) lgs_nil))) lt_yes (le_var 2) (by decide))) la_nil)))

noncomputable def m__law_steps : MF := mBody [false, false, false] 13
  (sSeq (sOwn 3 oDict0X)
  (sSeq (sFor (iR1 (aCons (e2 fShl (eC (.int 1)) (eB fLen (aCons (e2 fIx (eVar 2) (eC (.int 0))) aNil))) aNil)) (gN 4)
  (sSeq (sOwn 5 (oLc (iEnT (e2 fIx (eVar 2) (eC (.int 0)))) [13, 14] (gT [(gN 13), (gN 14)]) (tV (e2 fEq (e2 fAnd (e2 fShr (eVar 4) (eVar 13)) (eC (.int 1))) (eC (.int 1)))) (eVar 14)))
  (sFor (iL (eCall m__law_lots (aCons (e2 fIx (eVar 2) (eC (.int 1))) (aCons (e2 fSub (e2 fIx (eVar 1) (eC (.int 2))) (eB fLen (aCons (eVar 5) aNil))) aNil)))) (gN 6)
  (sSeq (sOwn 7 (oB fList (aCons (eVar 5) aNil)))
  (sSeq (sFor (iEnT (eVar 6)) (gT [(gN 8), (gN 9)])
  (sDrop (eMt isListD 7 fExtend (aCons (eO (o2 fRepL (eO (oLst (aCons (eTup (aCons (eVar 8) (aCons (eC (.int 0)) aNil))) aNil))) (eVar 9))) aNil))))
  (sIf (tV (eCh fLe fLe (e2 fIx (eVar 1) (eC (.int 0))) (eB fSum (aCons (eO (oLc (iL (eVar 7)) [8, 14] (gT [(gN 8), (gN 14)]) tYesF (eCall m__law_at (aCons (e2 fIx (e2 fIx (eVar 0) (eVar 8)) (eC (.int 0))) (aCons (eVar 14) aNil))))) aNil)) (e2 fIx (eVar 1) (eC (.int 1)))))
  (sSeq (sOwn 10 (oB fSortL (aCons (eO (oLc (iL (eVar 7)) [8, 14] (gT [(gN 8), (gN 14)]) (tV (e2 fLt (e2 fPlus (eVar 14) (eC (.int 1))) (eCall m__law_length (aCons (e2 fIx (e2 fIx (eVar 0) (eVar 8)) (eC (.int 0))) aNil)))) (eTup (aCons (eVar 8) (aCons (e2 fPlus (eVar 14) (eC (.int 1))) aNil))))) aNil)))
  (sSeq (sOwn 11 (oLc (iZTT (e2 fIx (eVar 2) (eC (.int 1))) (eVar 6)) [15, 9] (gT [(gN 15), (gN 9)]) tYesF (eIf (tV (e2 fIsN (eVar 15) (eC .none))) (eC .none) (e2 fSub (eVar 15) (eVar 9)))))
  (sSeq (sAsg (eTup (aCons (eB fTup (aCons (eVar 10) aNil)) (aCons (eB fTup (aCons (eVar 11) aNil)) aNil))) (gN 12))
  (sPutX 3 (eVar 12) (eB fMin2 (aCons (eGetX (eVar 3) (eVar 12) (eB fSumT (aCons (eVar 6) aNil))) (aCons (eB fSumT (aCons (eVar 6) aNil)) aNil)))))))
  sNext))))))
  (sRet (eVar 3))))
theorem ok__law_steps {f__law_lots : Addr} {fd__law_lots : FuncData} {f__law_at : Addr} {fd__law_at : FuncData} {f__law_length : Addr} {fd__law_length : FuncData} {f : Addr} {fd : FuncData} (F : Fun K "_law_steps" "_law_steps" s__law_steps f fd) (bi : Bi mg) (C__law_lots : Cal P w K mg base "_law_lots" P__law_lots 1 (spM P w K [false, false] m__law_lots) f__law_lots fd__law_lots) (C__law_at : Cal P w K mg base "_law_at" P__law_at 1 (spM P w K [false, false] m__law_at) f__law_at fd__law_at) (C__law_length : Cal P w K mg base "_law_length" P__law_length 1 (spM P w K [false] m__law_length) f__law_length fd__law_length) : FnOk P w K mg base CX0 2 f fd P__law_steps (spM P w K [false, false, false] m__law_steps) :=
  okM F sc__law_steps rfl rfl fun cdv A outer s0 H E hr => by
  have hu64 := hr.units
  refine ⟨_, (pss_cons (ps_set (i := 3) sc__law_steps.nd rfl (.inl rfl) pe_dnewX)
    (pss_cons (ps_for PassesOwn.never rfl (pi_range1 rfl bi.m_range (pa_cons (pe_op op_shl pe_int (pe_callB (kCl (K := K) rLen call_lenK rfl) (by rfl) bi.m_len (by decide +kernel) (pa_cons (pe_ix (kIx (K := K) rIx ix_seq rfl) (pv 2) pe_int (fun _ _ => rfl)) pa_nil))) pa_nil)) (pg_name (i := 4) sc__law_steps.nd rfl (.inr rfl))
    (pss_cons (ps_setLc (i := 5) (own := [("_law_k", 13), ("_law_age", 14)]) (g := (gTup K 2 (gCons (gName 13) (gCons (gName 14) gNil)))) rfl sc__law_steps.nd rfl rfl (sw_true rfl rfl rfl (by decide +kernel)) (pi_enuT (by rfl) bi.m_enumerate (pa_cons (pe_ix (kIx (K := K) rIx ix_seq rfl) (pv 2) pe_int (fun _ _ => rfl)) pa_nil)) (blkOk_by (N := N__law_steps) (sc := defScope s__law_steps) (by decide +kernel)) (fun _ _ _ _ _ => (pg_tup rfl (pgs_cons (pg_name (i := 13) sc__law_steps.nd rfl (.inl rfl) (.inr rfl)) (pgs_cons (pg_name (i := 14) sc__law_steps.nd rfl (.inl rfl) (.inr rfl)) pgs_nil)))) (fun _ _ _ _ _ => (pts_one (pt_cmpR (kOp (K := K) rEqD (op_eqD hu64) rfl) (pe_op op_and (pe_op op_shr (pv 4) (pv 13)) pe_int) pe_int (nomark _)))) (fun _ _ _ _ _ => (pv 14)))
    (pss_one (ps_for PassesOwn.never rfl (pi_list (pe_call (C__law_lots.G.mono (by decide)) hr (by rfl) C__law_lots.g C__law_lots.kp C__law_lots.b .nil pass0 (pa_cons (pe_ix (kIx (K := K) rIx ix_seq rfl) (pv 2) pe_int (fun _ _ => rfl)) (pa_cons (pe_op op_sub (pe_ix (kIx (K := K) rIx ix_seq rfl) (pv 1) pe_int (fun _ _ => rfl)) (pe_callB (kCl (K := K) rLen call_lenK rfl) (by rfl) bi.m_len (by decide +kernel) (pa_cons (pv 5) pa_nil))) pa_nil)))) (pg_name (i := 6) sc__law_steps.nd rfl (.inl rfl))
    (pss_cons (ps_set (i := 7) sc__law_steps.nd rfl (.inl rfl) (pe_callTy (kCl (K := K) rListOf call_listK rfl) (by rfl) bi.m_list (by decide +kernel) (pa_cons (pv 5) pa_nil)))
    (pss_cons (ps_for PassesOwn.never rfl (pi_enuT (by rfl) bi.m_enumerate (pa_cons (pv 6) pa_nil)) (pg_tup rfl (pgs_cons (pg_name (i := 8) sc__law_steps.nd rfl (.inl rfl)) (pgs_cons (pg_name (i := 9) sc__law_steps.nd rfl (.inl rfl)) pgs_nil)))
    (pss_one (ps_expr (pe_bm PySem.F.plainAttrs_list PySem.F.slot_list_extend PySem.F.type_list_extend mt_extend (pv 7) (pa_cons (pe_op op_rep (pe_lst (pa_cons (pe_tupF (pa_cons (pv 8) (pa_cons pe_int pa_nil))) pa_nil)) (pv 9)) pa_nil)))))
    (pss_one (ps_if (pt_chain op_le op_le (pe_ix (kIx (K := K) rIx ix_seq rfl) (pv 1) pe_int (fun _ _ => rfl)) (pe_callB (kCl (K := K) rSum (cr_sum rfl) rfl) (by rfl) bi.m_sum (by decide +kernel) (pa_cons (pe_lc (own := [("_law_kind", 8), ("_law_age", 14)]) (g := (gTup K 2 (gCons (gName 8) (gCons (gName 14) gNil)))) (tt := tYes) rfl sc__law_steps.nd (pi_list (pv 7)) (blkOk_by (N := N__law_steps) (sc := defScope s__law_steps) (by decide +kernel)) (fun _ _ _ _ _ => (pg_tup rfl (pgs_cons (pg_name (i := 8) sc__law_steps.nd rfl (.inl rfl) (.inr rfl)) (pgs_cons (pg_name (i := 14) sc__law_steps.nd rfl (.inl rfl) (.inr rfl)) pgs_nil)))) (fun _ _ _ _ _ => pts_nil) (fun _ _ _ _ _ => (pe_call (C__law_at.G.mono (by decide)) hr (by rfl) C__law_at.g C__law_at.kp C__law_at.b .nil pass0 (pa_cons (pe_ix (kIx (K := K) rIx ix_seq rfl) (pe_ix (kIx (K := K) rIx ix_seq rfl) (pv 0) (pv 8) (fun _ _ => rfl)) pe_int (fun _ _ => rfl)) (pa_cons (pv 14) pa_nil))))) pa_nil)) (pe_ix (kIx (K := K) rIx ix_seq rfl) (pv 1) pe_int (fun _ _ => rfl)))
    (pss_cons (ps_set (i := 10) sc__law_steps.nd rfl (.inl rfl) (pe_callB (kCl (K := K) rSortL (call_sortedL rfl hu64) rfl) (by rfl) bi.m_sorted (by decide +kernel) (pa_cons (pe_lc (own := [("_law_kind", 8), ("_law_age", 14)]) (g := (gTup K 2 (gCons (gName 8) (gCons (gName 14) gNil)))) rfl sc__law_steps.nd (pi_list (pv 7)) (blkOk_by (N := N__law_steps) (sc := defScope s__law_steps) (by decide +kernel)) (fun _ _ _ _ _ => (pg_tup rfl (pgs_cons (pg_name (i := 8) sc__law_steps.nd rfl (.inl rfl) (.inr rfl)) (pgs_cons (pg_name (i := 14) sc__law_steps.nd rfl (.inl rfl) (.inr rfl)) pgs_nil)))) (fun _ _ _ _ _ => (pts_one (pt_cmpR op_lt (pe_op (kOp (K := K) rPlus op_plus rfl) (pv 14) pe_int) (pe_call (C__law_length.G.mono (by decide)) hr (by rfl) C__law_length.g C__law_length.kp C__law_length.b .nil pass0 (pa_cons (pe_ix (kIx (K := K) rIx ix_seq rfl) (pe_ix (kIx (K := K) rIx ix_seq rfl) (pv 0) (pv 8) (fun _ _ => rfl)) pe_int (fun _ _ => rfl)) pa_nil)) (nomark _)))) (fun _ _ _ _ _ => (pe_tupF (pa_cons (pv 8) (pa_cons (pe_op (kOp (K := K) rPlus op_plus rfl) (pv 14) pe_int) pa_nil))))) pa_nil)))
    (pss_cons (ps_setLc (i := 11) (own := [("_law_many", 15), ("_law_count", 9)]) (g := (gTup K 2 (gCons (gName 15) (gCons (gName 9) gNil)))) (tt := tYes) rfl sc__law_steps.nd rfl rfl (sw_true rfl rfl rfl (by decide +kernel)) (RZ.pi_zipA (by rfl) bi.m_zip (pa_cons (pe_ix (kIx (K := K) rIx ix_seq rfl) (pv 2) pe_int (fun _ _ => rfl)) (pa_cons (pv 6) pa_nil))) (blkOk_by (N := N__law_steps) (sc := defScope s__law_steps) (by decide +kernel)) (fun _ _ _ _ _ => (pg_tup rfl (pgs_cons (pg_name (i := 15) sc__law_steps.nd rfl (.inl rfl) (.inr rfl)) (pgs_cons (pg_name (i := 9) sc__law_steps.nd rfl (.inl rfl) (.inr rfl)) pgs_nil)))) (fun _ _ _ _ _ => pts_nil) (fun _ _ _ _ _ => (pe_ifExp (pt_cmpR op_isN (pv 15) pe_non (nomark _)) pe_non (pe_op op_sub (pv 15) (pv 9)))))
    (pss_cons (ps_set (i := 12) sc__law_steps.nd rfl (.inl rfl) (pe_tupF (pa_cons (pe_callTy (kCl (K := K) rTupF call_tupleF rfl) (by rfl) bi.m_tuple (by decide +kernel) (pa_cons (pv 10) pa_nil)) (pa_cons (pe_callTy (kCl (K := K) rTupF call_tupleF rfl) (by rfl) bi.m_tuple (by decide +kernel) (pa_cons (pv 11) pa_nil)) pa_nil))))
    (pss_one (ps_asg (pe_callB (call_min2 rfl) (by rfl) bi.m_min (by decide +kernel) (pa_cons (pe_dget2X hu64 (pv 3) (pv 12) (pe_callB (kCl (K := K) rSumT (cr_sumT rfl) rfl) (by rfl) bi.m_sum (by decide +kernel) (pa_cons (pv 6) pa_nil)) ⟨rfl, rfl, rfl, rfl⟩) (pa_cons (pe_callB (kCl (K := K) rSumT (cr_sumT rfl) rfl) (by rfl) bi.m_sum (by decide +kernel) (pa_cons (pv 6) pa_nil)) pa_nil))) (pg_sub (pv 3) (pv 12) (set_dictX hu64)))))))
    pss_nil))))))))
    (pss_one (ps_ret (pv 3))))), ?_⟩
  exact (ls_seq (ls_own lo_dict0X)
    (ls_seq (ls_for (li_range1 (la_cons (le_op opl_shl le_c (le_cb cbl_len (la_cons (le_op opl_ix (le_var 2) le_c) la_nil))) la_nil)) (lg_name 4)
    (ls_seq (ls_own (lo_lc (li_enuT (le_op opl_ix (le_var 2) le_c)) (lg_tup (lgs_cons (lg_name 13) (lgs_cons (lg_name 14) lgs_nil))) (lt_t (le_op opl_eq (le_op opl_and (le_op opl_shr (le_var 4) (le_var 13)) le_c) le_c)) (le_var 14) (by decide)))
    (ls_for (li_list (le_call (la_cons (le_op opl_ix (le_var 2) le_c) (la_cons (le_op opl_sub (le_op opl_ix (le_var 1) le_c) (le_cb cbl_len (la_cons (le_var 5) la_nil))) la_nil)) rfl (alen_cons (alen_cons alen_nil)))) (lg_name 6)
    (ls_seq (ls_own (lo_cb cbo_list (la_cons (le_var 5) la_nil)))
    (ls_seq (ls_for (li_enuT (le_var 6)) (lg_tup (lgs_cons (lg_name 8) (lgs_cons (lg_name 9) lgs_nil)))
    (ls_drop (le_mt mtl_extend 7 (la_cons (le_o (lo_op opo_rep (le_o (lo_lst (la_cons (le_tup (la_cons (le_var 8) (la_cons le_c la_nil))) la_nil))) (le_var 9))) la_nil) fun _ _ _ _ => list_ty)))
    (ls_if (lt_t (le_chain opl_le opl_le (le_op opl_ix (le_var 1) le_c) (le_cb cbl_sum (la_cons (le_o (lo_lc (li_list (le_var 7)) (lg_tup (lgs_cons (lg_name 8) (lgs_cons (lg_name 14) lgs_nil))) lt_yes (le_call (la_cons (le_op opl_ix (le_op opl_ix (le_var 0) (le_var 8)) le_c) (la_cons (le_var 14) la_nil)) rfl (alen_cons (alen_cons alen_nil))) (by decide))) la_nil)) (le_op opl_ix (le_var 1) le_c)))
    (ls_seq (ls_own (lo_cb cbo_sortL (la_cons (le_o (lo_lc (li_list (le_var 7)) (lg_tup (lgs_cons (lg_name 8) (lgs_cons (lg_name 14) lgs_nil))) (lt_t (le_op opl_lt (le_op opl_plus (le_var 14) le_c) (le_call (la_cons (le_op opl_ix (le_op opl_ix (le_var 0) (le_var 8)) le_c) la_nil) rfl (alen_cons alen_nil)))) (le_tup (la_cons (le_var 8) (la_cons (le_op opl_plus (le_var 14) le_c) la_nil))) (by decide))) la_nil)))
    (ls_seq (ls_own (lo_lc (li_zipTT (le_op opl_ix (le_var 2) le_c) (le_var 6)) (lg_tup (lgs_cons (lg_name 15) (lgs_cons (lg_name 9) lgs_nil))) lt_yes (le_if (lt_t (le_op opl_isN (le_var 15) le_c)) le_c (le_op opl_sub (le_var 15) (le_var 9))) (by decide)))
    (ls_seq (ls_asg (le_tup (la_cons (le_cb cbl_tup (la_cons (le_var 10) la_nil)) (la_cons (le_cb cbl_tup (la_cons (le_var 11) la_nil)) la_nil))) (lg_name 12))
    (ls_putX 3 (le_var 12) (le_cb cbl_min2 (la_cons (le_getX (le_var 3) (le_var 12) (le_cb cbl_sumT (la_cons (le_var 6) la_nil))) (la_cons (le_cb cbl_sumT (la_cons (le_var 6) la_nil)) la_nil)))))))
    ls_next))))))
    (ls_ret (le_var 3))))

noncomputable def m__law_levels : MF := mBody [false, false, false] 7
  (sSeq (sPar [3, 4] (yCons (xO (oLst (aCons (eO (oD1X (eCall m__law_first (aCons (eVar 0) aNil)) (eC (.int 0)))) aNil))) (yCons (xE (eC (.int 1))) yNil)))
  (sSeq (sWhile (tAnd' (tV (e2 fLe (eB fLen (aCons (eVar 3) aNil)) (eVar 2))) (tAnd' (tV (e2 fLe (eVar 4) (eC (.int 80)))) (tV (e2 (fEqXE false) (e2 fIx (eVar 3) (e1 fNeg (eC (.int 1)))) (eO oDict0X)))))
  (sSeq (sOwn 5 oDict0X)
  (sSeq (sFor (iKeysX (e2 fIx (eVar 3) (e1 fNeg (eC (.int 1))))) (gN 6)
  (sFor (iItemsX (eCall m__law_steps (aCons (eVar 0) (aCons (eVar 1) (aCons (eVar 6) aNil))))) (gT [(gN 7), (gN 8)])
  (sSeq (sAsg (e2 fPlus (e2 fIxX (e2 fIx (eVar 3) (e1 fNeg (eC (.int 1)))) (eVar 6)) (eVar 8)) (gN 9))
  (sPutX 5 (eVar 7) (eB fMin2 (aCons (eGetX (eVar 5) (eVar 7) (eVar 9)) (aCons (eVar 9) aNil)))))))
  (sSeq (sDrop (eMt isListD 3 fAppend (aCons (eVar 5) aNil)))
  (sAsg (e2 fPlus (eVar 4) (eB fLenX (aCons (eVar 5) aNil))) (gN 4))))))
  (sRet (eTup (aCons (eVar 3) (aCons (eVar 4) aNil))))))
theorem ok__law_levels {f__law_steps : Addr} {fd__law_steps : FuncData} {f__law_first : Addr} {fd__law_first : FuncData} {f : Addr} {fd : FuncData} (F : Fun K "_law_levels" "_law_levels" s__law_levels f fd) (bi : Bi mg) (C__law_steps : Cal P w K mg base "_law_steps" P__law_steps 2 (spM P w K [false, false, false] m__law_steps) f__law_steps fd__law_steps) (C__law_first : Cal P w K mg base "_law_first" P__law_first 1 (spM P w K [false] m__law_first) f__law_first fd__law_first) : FnOk P w K mg base CX0 3 f fd P__law_levels (spM P w K [false, false, false] m__law_levels) :=
  okM F sc__law_levels rfl rfl fun cdv A outer s0 H E hr => by
  have hu64 := hr.units
  refine ⟨_, (pss_cons (ps_par (i := 3) (j := 4) rfl sc__law_levels.nd rfl rfl (by decide) rfl rfl (pa_cons (pe_lst (pa_cons (pe_d1P (P := P) (w := w) (K := K) rfl rfl rfl hu64 (pe_call (C__law_first.G.mono (by decide)) hr (by rfl) C__law_first.g C__law_first.kp C__law_first.b .nil pass0 (pa_cons (pv 0) pa_nil)) pe_int) pa_nil)) (pa_cons pe_int pa_nil)) rfl)
    (pss_cons (ps_while PassesOwn.never (pw_and (pt_cmpR op_le (pe_callB (kCl (K := K) rLen call_lenK rfl) (by rfl) bi.m_len (by decide +kernel) (pa_cons (pv 3) pa_nil)) (pv 2) (nomark _)) (pw_and (pt_cmpR op_le (pv 4) pe_int (nomark _)) (pw_and1 (pt_cmpR (xOp (P := P) (w := w) (K := K) (fun P w K => rEqXE P w K false) (op_neXE hu64) rfl rfl rfl) (pe_ix (kIx (K := K) rIx ix_seq rfl) (pv 3) (pe_un un_neg pe_int) (fun _ _ => rfl)) pe_dnewX (nomark _))))).pt
    (pss_cons (ps_set (i := 5) sc__law_levels.nd rfl (.inl rfl) pe_dnewX)
    (pss_cons (ps_for PassesOwn.never rfl (pi_keysX (pe_ix (kIx (K := K) rIx ix_seq rfl) (pv 3) (pe_un un_neg pe_int) (fun _ _ => rfl))) (pg_name (i := 6) sc__law_levels.nd rfl (.inl rfl))
    (pss_one (ps_for PassesOwn.never rfl (pi_itemsX (pe_call (C__law_steps.G.mono (by decide)) hr (by rfl) C__law_steps.g C__law_steps.kp C__law_steps.b .nil pass0 (pa_cons (pv 0) (pa_cons (pv 1) (pa_cons (pv 6) pa_nil))))) (pg_tup rfl (pgs_cons (pg_name (i := 7) sc__law_levels.nd rfl (.inl rfl)) (pgs_cons (pg_name (i := 8) sc__law_levels.nd rfl (.inl rfl)) pgs_nil)))
    (pss_cons (ps_set (i := 9) sc__law_levels.nd rfl (.inl rfl) (pe_op (kOp (K := K) rPlus op_plus rfl) (pe_ix (xIx (P := P) (w := w) (K := K) rIxX (ix_dictX hu64) rfl rfl rfl) (pe_ix (kIx (K := K) rIx ix_seq rfl) (pv 3) (pe_un un_neg pe_int) (fun _ _ => rfl)) (pv 6) (fun _ _ => rfl)) (pv 8)))
    (pss_one (ps_asg (pe_callB (call_min2 rfl) (by rfl) bi.m_min (by decide +kernel) (pa_cons (pe_dget2X hu64 (pv 5) (pv 7) (pv 9) ⟨rfl, rfl, rfl, rfl⟩) (pa_cons (pv 9) pa_nil))) (pg_sub (pv 5) (pv 7) (set_dictX hu64))))))))
    (pss_cons (ps_expr (pe_bm PySem.F.plainAttrs_list PySem.F.slot_list_append PySem.F.type_list_append mt_append (pv 3) (pa_cons (pv 5) pa_nil)))
    (pss_one (ps_set (i := 4) sc__law_levels.nd rfl (.inl rfl) (pe_op (kOp (K := K) rPlus op_plus rfl) (pv 4) (pe_callB (xCl (P := P) (w := w) (K := K) rLenX call_lenX rfl rfl rfl) (by rfl) bi.m_len (by decide +kernel) (pa_cons (pv 5) pa_nil)))))))))
    (pss_one (ps_ret (pe_tupF (pa_cons (pv 3) (pa_cons (pv 4) pa_nil))))))), ?_⟩
  exact (ls_seq (ls_par2 (ly_cons (lx_o (lo_lst (la_cons (le_o (lo_d1X (le_call (la_cons (le_var 0) la_nil) rfl (alen_cons alen_nil)) le_c)) la_nil))) (ly_cons (lx_e le_c) ly_nil)))
    (ls_seq (ls_while (lt_and (lt_t (le_op opl_le (le_cb cbl_len (la_cons (le_var 3) la_nil)) (le_var 2))) (lt_and (lt_t (le_op opl_le (le_var 4) le_c)) (lt_t (le_op (opl_eqXE false) (le_op opl_ix (le_var 3) (le_un unl_neg le_c)) (le_o lo_dict0X)))))
    (ls_seq (ls_own lo_dict0X)
    (ls_seq (ls_for (li_keysX (le_op opl_ix (le_var 3) (le_un unl_neg le_c))) (lg_name 6)
    (ls_for (li_itemsX (le_call (la_cons (le_var 0) (la_cons (le_var 1) (la_cons (le_var 6) la_nil))) rfl (alen_cons (alen_cons (alen_cons alen_nil))))) (lg_tup (lgs_cons (lg_name 7) (lgs_cons (lg_name 8) lgs_nil)))
    (ls_seq (ls_asg (le_op opl_plus (le_op opl_ixX (le_op opl_ix (le_var 3) (le_un unl_neg le_c)) (le_var 6)) (le_var 8)) (lg_name 9))
    (ls_putX 5 (le_var 7) (le_cb cbl_min2 (la_cons (le_getX (le_var 5) (le_var 7) (le_var 9)) (la_cons (le_var 9) la_nil)))))))
    (ls_seq (ls_drop (le_mt mtl_append 3 (la_cons (le_var 5) la_nil) fun _ _ _ _ => list_ty))
    (ls_asg (le_op opl_plus (le_var 4) (le_cb cbl_lenX (la_cons (le_var 5) la_nil))) (lg_name 4))))))
    (ls_ret (le_tup (la_cons (le_var 3) (la_cons (le_var 4) la_nil))))))

noncomputable def mR__law_same : Nat → MF
  | 0 => fun _ => none
  | n + 1 => mBody [false, false] 2
    (sSeq (sIf (tV (eIsi "tuple" (eVar 1)))
  (sSeq (sIf (tOr' (tNot' (tV (eIsi "tuple" (eVar 0)))) (tV (e2 fNe (eB fLen (aCons (eVar 0) aNil)) (eB fLen (aCons (eVar 1) aNil)))))
  (sRet (eC (.bool false)))
  sNext)
  (sRet (eB fAll (aCons (eO (oLc (iZTT (eVar 0) (eVar 1)) [2, 3] (gT [(gN 2), (gN 3)]) tYesF (eCall (mR__law_same n) (aCons (eVar 2) (aCons (eVar 3) aNil))))) aNil))))
  sNext)
  (sSeq (sIf (tV (e2 fIsN (eVar 1) (eC .none)))
  (sRet (e2 fIsN (eVar 0) (eC .none)))
  sNext)
  (sSeq (sIf (tV (eIsi "str" (eVar 1)))
  (sRet (eAnd (eIsi "str" (eVar 0)) (e2 fEq (eVar 0) (eVar 1))))
  sNext)
  (sRet (eAnd (eIsi "int" (eVar 0)) (eAnd (eNot (eIsi "bool" (eVar 0))) (e2 fEq (eVar 0) (eVar 1))))))))
noncomputable abbrev m__law_same : MF := mR__law_same 10
theorem okR__law_same {f__law_same : Addr} {fd__law_same : FuncData} (F : Fun K "_law_same" "_law_same" s__law_same f__law_same fd__law_same) (bi : Bi mg) (g : mg "_law_same" = some (.ref f__law_same)) (b : Binds K fd__law_same P__law_same []) : ∀ n, FnOk P w K mg base CX0 (1 + n) f__law_same fd__law_same P__law_same (spM P w K [false, false] (mR__law_same n))
  | 0 => F.ok sc__law_same (fun vs H Q E h => by rw [spM_len h]; rfl) (fun cdv A outer s0 H vs Q E hr h => by
    obtain ⟨_, _, _, _, _, _, _, _, _, _, hm, _⟩ := h
    cases hm)
  | n + 1 => by
    have C__law_same : Cal P w K mg base "_law_same" P__law_same (1 + n) (spM P w K [false, false] (mR__law_same n)) f__law_same fd__law_same := ⟨okR__law_same F bi g b n, g, F.kp, b⟩
    exact okM (k := 1 + n) F sc__law_same rfl rfl fun cdv A outer s0 H E hr => by
      have hu64 := hr.units
      refine ⟨_, (pss_cons (ps_if (pt_val (pe_callB (kCl (K := K) rIsi call_isi rfl) (by rfl) bi.m_isinstance (by decide +kernel) (pa_cons (pv 1) (pa_cons (pe_bltn (v := .ty "tuple") (by rfl) bi.m_tuple (by decide +kernel) rfl) pa_nil))))
    (pss_cons (ps_if (pw_or (pt_not (pt_val (pe_callB (kCl (K := K) rIsi call_isi rfl) (by rfl) bi.m_isinstance (by decide +kernel) (pa_cons (pv 0) (pa_cons (pe_bltn (v := .ty "tuple") (by rfl) bi.m_tuple (by decide +kernel) rfl) pa_nil))))) (pw_or1 (pt_cmpR (kOp (K := K) rNeD (op_neD hu64) rfl) (pe_callB (kCl (K := K) rLen call_lenK rfl) (by rfl) bi.m_len (by decide +kernel) (pa_cons (pv 0) pa_nil)) (pe_callB (kCl (K := K) rLen call_lenK rfl) (by rfl) bi.m_len (by decide +kernel) (pa_cons (pv 1) pa_nil)) (nomark _)))).pt
    (pss_one (ps_ret pe_bl))
    pss_nil)
    (pss_one (ps_ret (pe_callB (kCl (K := K) rAll (cr_all rfl) rfl) (by rfl) bi.m_all (by decide +kernel) (pa_cons (pe_lc (own := [("_law_one", 2), ("_law_other", 3)]) (g := (gTup K 2 (gCons (gName 2) (gCons (gName 3) gNil)))) (tt := tYes) rfl sc__law_same.nd (RZ.pi_zipA (by rfl) bi.m_zip (pa_cons (pv 0) (pa_cons (pv 1) pa_nil))) (blkOk_by (N := N__law_same) (sc := defScope s__law_same) (by decide +kernel)) (fun _ _ _ _ _ => (pg_tup rfl (pgs_cons (pg_name (i := 2) sc__law_same.nd rfl (.inl rfl) (.inr rfl)) (pgs_cons (pg_name (i := 3) sc__law_same.nd rfl (.inl rfl) (.inr rfl)) pgs_nil)))) (fun _ _ _ _ _ => pts_nil) (fun _ _ _ _ _ => (pe_call (C__law_same.G.mono (by omega)) hr (by rfl) C__law_same.g C__law_same.kp C__law_same.b .nil pass0 (pa_cons (pv 2) (pa_cons (pv 3) pa_nil))))) pa_nil)))))
    pss_nil)
    (pss_cons (ps_if (pt_cmpR op_isN (pv 1) pe_non (nomark _))
    (pss_one (ps_ret (pe_cmpR op_isN (pv 0) pe_non (nomark _))))
    pss_nil)
    (pss_cons (ps_if (pt_val (pe_callB (kCl (K := K) rIsi call_isi rfl) (by rfl) bi.m_isinstance (by decide +kernel) (pa_cons (pv 1) (pa_cons (pe_bltn (v := .ty "str") (by rfl) bi.m_str (by decide +kernel) rfl) pa_nil))))
    (pss_one (ps_ret (pe_and (pe_callB (kCl (K := K) rIsi call_isi rfl) (by rfl) bi.m_isinstance (by decide +kernel) (pa_cons (pv 0) (pa_cons (pe_bltn (v := .ty "str") (by rfl) bi.m_str (by decide +kernel) rfl) pa_nil))) (pe_one (pe_cmpR (kOp (K := K) rEqD (op_eqD hu64) rfl) (pv 0) (pv 1) (nomark _))))))
    pss_nil)
    (pss_one (ps_ret (pe_and (pe_callB (kCl (K := K) rIsi call_isi rfl) (by rfl) bi.m_isinstance (by decide +kernel) (pa_cons (pv 0) (pa_cons (pe_bltn (v := .ty "int") (by rfl) bi.m_int (by decide +kernel) rfl) pa_nil))) (pe_and (pe_not (pe_callB (kCl (K := K) rIsi call_isi rfl) (by rfl) bi.m_isinstance (by decide +kernel) (pa_cons (pv 0) (pa_cons (pe_bltn (v := .ty "bool") (by rfl) bi.m_bool (by decide +kernel) rfl) pa_nil)))) (pe_one (pe_cmpR (kOp (K := K) rEqD (op_eqD hu64) rfl) (pv 0) (pv 1) (nomark _)))))))))), ?_⟩
      exact (ls_seq (ls_if (lt_v (le_isi (by decide +kernel) (le_var 1)))
    (ls_seq (ls_if (lt_or (lt_not (lt_v (le_isi (by decide +kernel) (le_var 0)))) (lt_t (le_op opl_ne (le_cb cbl_len (la_cons (le_var 0) la_nil)) (le_cb cbl_len (la_cons (le_var 1) la_nil)))))
    (ls_ret le_c)
    ls_next)
    (ls_ret (le_cb cbl_all (la_cons (le_o (lo_lc (li_zipTT (le_var 0) (le_var 1)) (lg_tup (lgs_cons (lg_name 2) (lgs_cons (lg_name 3) lgs_nil))) lt_yes (le_call (la_cons (le_var 2) (la_cons (le_var 3) la_nil)) rfl (alen_cons (alen_cons alen_nil))) (by decide))) la_nil))))
    ls_next)
    (ls_seq (ls_if (lt_t (le_op opl_isN (le_var 1) le_c))
    (ls_ret (le_op opl_isN (le_var 0) le_c))
    ls_next)
    (ls_seq (ls_if (lt_v (le_isi (by decide +kernel) (le_var 1)))
    (ls_ret (le_and (le_isi (by decide +kernel) (le_var 0)) (le_op opl_eq (le_var 0) (le_var 1))))
    ls_next)
    (ls_ret (le_and (le_isi (by decide +kernel) (le_var 0)) (le_and (le_not (le_isi (by decide +kernel) (le_var 0))) (le_op opl_eq (le_var 0) (le_var 1))))))))

noncomputable def m_kept_from : MF := mBody [false, false] 3
  (sSeq (sOwn 2 (oLst (aCons (eTup aNil) aNil)))
  (sSeq (sFor (iT (eVar 0)) (gN 3)
  (sOwn 2 (o2 fCatL (eVar 2) (eO (oLc (iL (eVar 2)) [4] (gN 4) (tV (e2 fLt (eB fLen (aCons (eVar 4) aNil)) (eVar 1))) (e2 fPlus (eVar 4) (eTup (aCons (eVar 3) aNil))))))))
  (sRet (eVar 2))))
theorem ok_kept_from {f : Addr} {fd : FuncData} (F : Fun K "kept_from" "kept_from" s_kept_from f fd) (bi : Bi mg) : FnOk P w K mg base CX0 1 f fd P_kept_from (spM P w K [false, false] m_kept_from) :=
  okM F sc_kept_from rfl rfl fun cdv A outer s0 H E hr => by
  have hu64 := hr.units
  refine ⟨_, (pss_cons (ps_set (i := 2) sc_kept_from.nd rfl (.inl rfl) (pe_lst (pa_cons (pe_tupF pa_nil) pa_nil)))
    (pss_cons (ps_for PassesOwn.never rfl (pi_tup (pv 0)) (pg_name (i := 3) sc_kept_from.nd rfl (.inr rfl))
    (pss_one (ps_set (i := 2) sc_kept_from.nd rfl (.inl rfl) (pe_op op_cat (pv 2) (pe_lc (own := [("some", 4)]) (g := (gName 4)) rfl sc_kept_from.nd (pi_list (pv 2)) (blkOk_by (N := N_kept_from) (sc := defScope s_kept_from) (by decide +kernel)) (fun _ _ _ _ _ => (pg_name (i := 4) sc_kept_from.nd rfl (.inl rfl) (.inr rfl))) (fun _ _ _ _ _ => (pts_one (pt_cmpR op_lt (pe_callB (kCl (K := K) rLen call_lenK rfl) (by rfl) bi.m_len (by decide +kernel) (pa_cons (pv 4) pa_nil)) (pv 1) (nomark _)))) (fun _ _ _ _ _ => (pe_op (kOp (K := K) rPlus op_plus rfl) (pv 4) (pe_tupF (pa_cons (pv 3) pa_nil)))))))))
    (pss_one (ps_ret (pv 2))))), ?_⟩
  exact (ls_seq (ls_own (lo_lst (la_cons (le_tup la_nil) la_nil)))
    (ls_seq (ls_for (li_tup (le_var 0)) (lg_name 3)
    (ls_own (lo_op opo_cat (le_var 2) (le_o (lo_lc (li_list (le_var 2)) (lg_name 4) (lt_t (le_op opl_lt (le_cb cbl_len (la_cons (le_var 4) la_nil)) (le_var 1))) (le_op opl_plus (le_var 4) (le_tup (la_cons (le_var 3) la_nil))) (by decide))))))
    (ls_ret (le_var 2))))

noncomputable def m_laid_from : MF := mBody [false, false] 6
  (sSeq (sOwn 2 (oLst (aCons (eTup aNil) aNil)))
  (sSeq (sFor (iEnT (eVar 0)) (gT [(gN 3), (gN 4)])
  (sSeq (sAsg (eIf (tV (e2 fIsN (eVar 4) (eC .none))) (eVar 1) (eB fMin2 (aCons (eVar 4) (aCons (eVar 1) aNil)))) (gN 5))
  (sOwn 2 (oLc2 (iL (eVar 2)) [6, 7] (gN 6) tYesF (iR1 (aCons (e2 fPlus (eB fMin2 (aCons (eVar 5) (aCons (e2 fSub (eVar 1) (eB fLen (aCons (eVar 6) aNil))) aNil))) (eC (.int 1))) aNil)) [7] (gN 7) tYesF (e2 fPlus (eVar 6) (e2 fRepT (eTup (aCons (eVar 3) aNil)) (eVar 7)))))))
  (sRet (eVar 2))))
theorem ok_laid_from {f : Addr} {fd : FuncData} (F : Fun K "laid_from" "laid_from" s_laid_from f fd) (bi : Bi mg) : FnOk P w K mg base CX0 1 f fd P_laid_from (spM P w K [false, false] m_laid_from) :=
  okM F sc_laid_from rfl rfl fun cdv A outer s0 H E hr => by
  have hu64 := hr.units
  refine ⟨_, (pss_cons (ps_set (i := 2) sc_laid_from.nd rfl (.inl rfl) (pe_lst (pa_cons (pe_tupF pa_nil) pa_nil)))
    (pss_cons (ps_for PassesOwn.never rfl (pi_enuT (by rfl) bi.m_enumerate (pa_cons (pv 0) pa_nil)) (pg_tup rfl (pgs_cons (pg_name (i := 3) sc_laid_from.nd rfl (.inr rfl)) (pgs_cons (pg_name (i := 4) sc_laid_from.nd rfl (.inl rfl)) pgs_nil)))
    (pss_cons (ps_set (i := 5) sc_laid_from.nd rfl (.inr rfl) (pe_ifExp (pt_cmpR op_isN (pv 4) pe_non (nomark _)) (pv 1) (pe_callB (call_min2 rfl) (by rfl) bi.m_min (by decide +kernel) (pa_cons (pv 4) (pa_cons (pv 1) pa_nil)))))
    (pss_one (ps_setLc2 (i := 2) (own := [("some", 6), ("more", 7)]) (vs1 := [7]) (g := (gName 6)) (tt := tYes) (g1 := (gName 7)) (tt1 := tYes) rfl sc_laid_from.nd rfl rfl (sw_true rfl rfl rfl (by decide +kernel)) (pi_list (pv 2)) (blkOk_by (N := N_laid_from) (sc := defScope s_laid_from) (by decide +kernel)) (by decide) (fun _ _ _ _ _ => (pg_name (i := 6) sc_laid_from.nd rfl (.inl rfl) (.inr rfl))) (fun _ _ _ _ _ => pts_nil) (fun _ _ _ _ _ => (pi_range1 rfl bi.m_range (pa_cons (pe_op (kOp (K := K) rPlus op_plus rfl) (pe_callB (call_min2 rfl) (by rfl) bi.m_min (by decide +kernel) (pa_cons (pv 5) (pa_cons (pe_op op_sub (pv 1) (pe_callB (kCl (K := K) rLen call_lenK rfl) (by rfl) bi.m_len (by decide +kernel) (pa_cons (pv 6) pa_nil))) pa_nil))) pe_int) pa_nil))) (fun _ _ _ _ _ => (pg_name (i := 7) sc_laid_from.nd rfl (.inl rfl) (.inr rfl))) (fun _ _ _ _ _ => pts_nil) (fun _ _ _ _ _ => (pe_op (kOp (K := K) rPlus op_plus rfl) (pv 6) (pe_op (kOp (K := K) rRepF op_repF rfl) (pe_tupF (pa_cons (pv 3) pa_nil)) (pv 7))))))))
    (pss_one (ps_ret (pv 2))))), ?_⟩
  exact (ls_seq (ls_own (lo_lst (la_cons (le_tup la_nil) la_nil)))
    (ls_seq (ls_for (li_enuT (le_var 0)) (lg_tup (lgs_cons (lg_name 3) (lgs_cons (lg_name 4) lgs_nil)))
    (ls_seq (ls_asg (le_if (lt_t (le_op opl_isN (le_var 4) le_c)) (le_var 1) (le_cb cbl_min2 (la_cons (le_var 4) (la_cons (le_var 1) la_nil)))) (lg_name 5))
    (ls_own (lo_lc2 (li_list (le_var 2)) (lg_name 6) lt_yes (li_range1 (la_cons (le_op opl_plus (le_cb cbl_min2 (la_cons (le_var 5) (la_cons (le_op opl_sub (le_var 1) (le_cb cbl_len (la_cons (le_var 6) la_nil))) la_nil))) le_c) la_nil)) (lg_name 7) lt_yes (le_op opl_plus (le_var 6) (le_op opl_repT (le_tup (la_cons (le_var 3) la_nil)) (le_var 7))) (by decide) (by decide) (by decide)))))
    (ls_ret (le_var 2))))

noncomputable def m_thick_at : MF := mBody [false, false] 2
  (sSeq (sFor (iT (e2 fIx (eVar 0) (eC (.int 1)))) (gT [(gN 2), (gN 3)])
  (sSeq (sIf (tV (e2 fLt (eVar 1) (eVar 3)))
  (sRet (eVar 2))
  sNext)
  (sAug 1 fSub (eVar 3))))
  (sRet (eC (.int 0))))
theorem ok_thick_at {f : Addr} {fd : FuncData} (F : Fun K "thick_at" "thick_at" s_thick_at f fd) (bi : Bi mg) : FnOk P w K mg base CX0 1 f fd P_thick_at (spM P w K [false, false] m_thick_at) :=
  okM F sc_thick_at rfl rfl fun cdv A outer s0 H E hr => by
  have hu64 := hr.units
  refine ⟨_, (pss_cons (ps_for PassesOwn.never rfl (pi_tup (pe_ix (kIx (K := K) rIx ix_seq rfl) (pv 0) pe_int (fun _ _ => rfl))) (pg_tup rfl (pgs_cons (pg_name (i := 2) sc_thick_at.nd rfl (.inl rfl)) (pgs_cons (pg_name (i := 3) sc_thick_at.nd rfl (.inl rfl)) pgs_nil)))
    (pss_cons (ps_if (pt_cmpR op_lt (pv 1) (pv 3) (nomark _))
    (pss_one (ps_ret (pv 2)))
    pss_nil)
    (pss_one (ps_aug (i := 1) sc_thick_at.nd rfl (.inl rfl) (pv 3) ip_sub))))
    (pss_one (ps_ret pe_int))), ?_⟩
  exact (ls_seq (ls_for (li_tup (le_op opl_ix (le_var 0) le_c)) (lg_tup (lgs_cons (lg_name 2) (lgs_cons (lg_name 3) lgs_nil)))
    (ls_seq (ls_if (lt_t (le_op opl_lt (le_var 1) (le_var 3)))
    (ls_ret (le_var 2))
    ls_next)
    (ls_aug ipl_sub (le_var 3))))
    (ls_ret le_c))

noncomputable def m_thickness_of : MF := mBody [false, false] 2
  (sRet (eB fSum (aCons (eO (oLc (iT (eVar 1)) [2, 3] (gT [(gN 2), (gN 3)]) tYesF (eCall m_thick_at (aCons (e2 fIx (e2 fIx (eVar 0) (eVar 2)) (eC (.int 0))) (aCons (eVar 3) aNil))))) aNil)))
theorem ok_thickness_of {f_thick_at : Addr} {fd_thick_at : FuncData} {f : Addr} {fd : FuncData} (F : Fun K "thickness_of" "thickness_of" s_thickness_of f fd) (bi : Bi mg) (C_thick_at : Cal P w K mg base "thick_at" P_thick_at 1 (spM P w K [false, false] m_thick_at) f_thick_at fd_thick_at) : FnOk P w K mg base CX0 2 f fd P_thickness_of (spM P w K [false, false] m_thickness_of) :=
  okM F sc_thickness_of rfl rfl fun cdv A outer s0 H E hr => by
  have hu64 := hr.units
  refine ⟨_, (pss_one (ps_ret (pe_callB (kCl (K := K) rSum (cr_sum rfl) rfl) (by rfl) bi.m_sum (by decide +kernel) (pa_cons (pe_lc (own := [("kind", 2), ("age", 3)]) (g := (gTup K 2 (gCons (gName 2) (gCons (gName 3) gNil)))) (tt := tYes) rfl sc_thickness_of.nd (pi_tup (pv 1)) (blkOk_by (N := N_thickness_of) (sc := defScope s_thickness_of) (by decide +kernel)) (fun _ _ _ _ _ => (pg_tup rfl (pgs_cons (pg_name (i := 2) sc_thickness_of.nd rfl (.inl rfl) (.inr rfl)) (pgs_cons (pg_name (i := 3) sc_thickness_of.nd rfl (.inl rfl) (.inr rfl)) pgs_nil)))) (fun _ _ _ _ _ => pts_nil) (fun _ _ _ _ _ => (pe_call (C_thick_at.G.mono (by decide)) hr (by rfl) C_thick_at.g C_thick_at.kp C_thick_at.b .nil pass0 (pa_cons (pe_ix (kIx (K := K) rIx ix_seq rfl) (pe_ix (kIx (K := K) rIx ix_seq rfl) (pv 0) (pv 2) (fun _ _ => rfl)) pe_int (fun _ _ => rfl)) (pa_cons (pv 3) pa_nil))))) pa_nil)))), ?_⟩
  exact (ls_ret (le_cb cbl_sum (la_cons (le_o (lo_lc (li_tup (le_var 1)) (lg_tup (lgs_cons (lg_name 2) (lgs_cons (lg_name 3) lgs_nil))) lt_yes (le_call (la_cons (le_op opl_ix (le_op opl_ix (le_var 0) (le_var 2)) le_c) (la_cons (le_var 3) la_nil)) rfl (alen_cons (alen_cons alen_nil))) (by decide))) la_nil)))

noncomputable def m_length_of : MF := mBody [false] 2
  (sRet (eB fSum (aCons (eO (oLc (iT (e2 fIx (eVar 0) (eC (.int 1)))) [1, 2] (gT [(gN 1), (gN 2)]) tYesF (eVar 2))) aNil)))
theorem ok_length_of {f : Addr} {fd : FuncData} (F : Fun K "length_of" "length_of" s_length_of f fd) (bi : Bi mg) : FnOk P w K mg base CX0 1 f fd P_length_of (spM P w K [false] m_length_of) :=
  okM F sc_length_of rfl rfl fun cdv A outer s0 H E hr => by
  have hu64 := hr.units
  refine ⟨_, (pss_one (ps_ret (pe_callB (kCl (K := K) rSum (cr_sum rfl) rfl) (by rfl) bi.m_sum (by decide +kernel) (pa_cons (pe_lc (own := [("thickness", 1), ("long", 2)]) (g := (gTup K 2 (gCons (gName 1) (gCons (gName 2) gNil)))) (tt := tYes) rfl sc_length_of.nd (pi_tup (pe_ix (kIx (K := K) rIx ix_seq rfl) (pv 0) pe_int (fun _ _ => rfl))) (blkOk_by (N := N_length_of) (sc := defScope s_length_of) (by decide +kernel)) (fun _ _ _ _ _ => (pg_tup rfl (pgs_cons (pg_name (i := 1) sc_length_of.nd rfl (.inl rfl) (.inr rfl)) (pgs_cons (pg_name (i := 2) sc_length_of.nd rfl (.inl rfl) (.inr rfl)) pgs_nil)))) (fun _ _ _ _ _ => pts_nil) (fun _ _ _ _ _ => (pv 2))) pa_nil)))), ?_⟩
  exact (ls_ret (le_cb cbl_sum (la_cons (le_o (lo_lc (li_tup (le_op opl_ix (le_var 0) le_c)) (lg_tup (lgs_cons (lg_name 1) (lgs_cons (lg_name 2) lgs_nil))) lt_yes (le_var 2) (by decide))) la_nil)))

noncomputable def m_aged : MF := mBody [false, false] 2
  (sRet (eB fTup (aCons (eO (oB fSortL (aCons (eO (oLc (iT (eVar 1)) [2, 3] (gT [(gN 2), (gN 3)]) (tV (e2 fLt (e2 fPlus (eVar 3) (eC (.int 1))) (eCall m_length_of (aCons (e2 fIx (e2 fIx (eVar 0) (eVar 2)) (eC (.int 0))) aNil)))) (eTup (aCons (eVar 2) (aCons (e2 fPlus (eVar 3) (eC (.int 1))) aNil))))) aNil))) aNil)))
theorem ok_aged {f_length_of : Addr} {fd_length_of : FuncData} {f : Addr} {fd : FuncData} (F : Fun K "aged" "aged" s_aged f fd) (bi : Bi mg) (C_length_of : Cal P w K mg base "length_of" P_length_of 1 (spM P w K [false] m_length_of) f_length_of fd_length_of) : FnOk P w K mg base CX0 2 f fd P_aged (spM P w K [false, false] m_aged) :=
  okM F sc_aged rfl rfl fun cdv A outer s0 H E hr => by
  have hu64 := hr.units
  refine ⟨_, (pss_one (ps_ret (pe_callTy (kCl (K := K) rTupF call_tupleF rfl) (by rfl) bi.m_tuple (by decide +kernel) (pa_cons (pe_callB (kCl (K := K) rSortL (call_sortedL rfl hu64) rfl) (by rfl) bi.m_sorted (by decide +kernel) (pa_cons (pe_lc (own := [("kind", 2), ("age", 3)]) (g := (gTup K 2 (gCons (gName 2) (gCons (gName 3) gNil)))) rfl sc_aged.nd (pi_tup (pv 1)) (blkOk_by (N := N_aged) (sc := defScope s_aged) (by decide +kernel)) (fun _ _ _ _ _ => (pg_tup rfl (pgs_cons (pg_name (i := 2) sc_aged.nd rfl (.inl rfl) (.inr rfl)) (pgs_cons (pg_name (i := 3) sc_aged.nd rfl (.inl rfl) (.inr rfl)) pgs_nil)))) (fun _ _ _ _ _ => (pts_one (pt_cmpR op_lt (pe_op (kOp (K := K) rPlus op_plus rfl) (pv 3) pe_int) (pe_call (C_length_of.G.mono (by decide)) hr (by rfl) C_length_of.g C_length_of.kp C_length_of.b .nil pass0 (pa_cons (pe_ix (kIx (K := K) rIx ix_seq rfl) (pe_ix (kIx (K := K) rIx ix_seq rfl) (pv 0) (pv 2) (fun _ _ => rfl)) pe_int (fun _ _ => rfl)) pa_nil)) (nomark _)))) (fun _ _ _ _ _ => (pe_tupF (pa_cons (pv 2) (pa_cons (pe_op (kOp (K := K) rPlus op_plus rfl) (pv 3) pe_int) pa_nil))))) pa_nil)) pa_nil)))), ?_⟩
  exact (ls_ret (le_cb cbl_tup (la_cons (le_o (lo_cb cbo_sortL (la_cons (le_o (lo_lc (li_tup (le_var 1)) (lg_tup (lgs_cons (lg_name 2) (lgs_cons (lg_name 3) lgs_nil))) (lt_t (le_op opl_lt (le_op opl_plus (le_var 3) le_c) (le_call (la_cons (le_op opl_ix (le_op opl_ix (le_var 0) (le_var 2)) le_c) la_nil) rfl (alen_cons alen_nil)))) (le_tup (la_cons (le_var 2) (la_cons (le_op opl_plus (le_var 3) le_c) la_nil))) (by decide))) la_nil))) la_nil)))

noncomputable def m_manys_behind : MF := mBody [false, false] 2
  (sRet (eB fTup (aCons (eO (oLc (iEnT (eVar 0)) [2, 3] (gT [(gN 2), (gN 3)]) tYesF (eIf (tV (e2 fIsN (eVar 3) (eC .none))) (eC .none) (e2 fSub (eVar 3) (eCntT (eVar 1) (eVar 2)))))) aNil)))
theorem ok_manys_behind {f : Addr} {fd : FuncData} (F : Fun K "manys_behind" "manys_behind" s_manys_behind f fd) (bi : Bi mg) : FnOk P w K mg base CX0 1 f fd P_manys_behind (spM P w K [false, false] m_manys_behind) :=
  okM F sc_manys_behind rfl rfl fun cdv A outer s0 H E hr => by
  have hu64 := hr.units
  refine ⟨_, (pss_one (ps_ret (pe_callTy (kCl (K := K) rTupF call_tupleF rfl) (by rfl) bi.m_tuple (by decide +kernel) (pa_cons (pe_lc (own := [("kind", 2), ("many", 3)]) (g := (gTup K 2 (gCons (gName 2) (gCons (gName 3) gNil)))) (tt := tYes) rfl sc_manys_behind.nd (pi_enuT (by rfl) bi.m_enumerate (pa_cons (pv 0) pa_nil)) (blkOk_by (N := N_manys_behind) (sc := defScope s_manys_behind) (by decide +kernel)) (fun _ _ _ _ _ => (pg_tup rfl (pgs_cons (pg_name (i := 2) sc_manys_behind.nd rfl (.inl rfl) (.inr rfl)) (pgs_cons (pg_name (i := 3) sc_manys_behind.nd rfl (.inl rfl) (.inr rfl)) pgs_nil)))) (fun _ _ _ _ _ => pts_nil) (fun _ _ _ _ _ => (pe_ifExp (pt_cmpR op_isN (pv 3) pe_non (nomark _)) pe_non (pe_op op_sub (pv 3) (pe_tcnt (pv 1) (pv 2) ⟨rfl, rfl, rfl, rfl⟩))))) pa_nil)))), ?_⟩
  exact (ls_ret (le_cb cbl_tup (la_cons (le_o (lo_lc (li_enuT (le_var 0)) (lg_tup (lgs_cons (lg_name 2) (lgs_cons (lg_name 3) lgs_nil))) lt_yes (le_if (lt_t (le_op opl_isN (le_var 3) le_c)) le_c (le_op opl_sub (le_var 3) (le_cntT (le_var 1) (le_var 2)))) (by decide))) la_nil)))

noncomputable def m_choices_of : MF := mBody [false, false, false] 10
  (sSeq (sAsg (eVar 1) (gT [(gN 3), (gN 4), (gN 5)]))
  (sSeq (sAsg (eVar 2) (gT [(gN 6), (gN 7)]))
  (sSeq (sOwn 8 (oLst aNil))
  (sSeq (sFor (iL (eCall m_kept_from (aCons (eVar 6) (aCons (eVar 5) aNil)))) (gN 9)
  (sFor (iL (eCall m_laid_from (aCons (eVar 7) (aCons (e2 fSub (eVar 5) (eB fLen (aCons (eVar 9) aNil))) aNil)))) (gN 10)
  (sSeq (sAsg (e2 fPlus (eVar 9) (eB fTup (aCons (eO (oLc (iT (eVar 10)) [12] (gN 12) tYesF (eTup (aCons (eVar 12) (aCons (eC (.int 0)) aNil))))) aNil))) (gN 11))
  (sIf (tV (eCh fLe fLe (eVar 3) (eCall m_thickness_of (aCons (eVar 0) (aCons (eVar 11) aNil))) (eVar 4)))
  (sDrop (eMt isListD 8 fAppend (aCons (eTup (aCons (eVar 9) (aCons (eVar 10) (aCons (eTup (aCons (eCall m_aged (aCons (eVar 0) (aCons (eVar 11) aNil))) (aCons (eCall m_manys_behind (aCons (eVar 7) (aCons (eVar 10) aNil))) aNil))) aNil)))) aNil)))
  sNext))))
  (sRet (eVar 8))))))
theorem ok_choices_of {f_kept_from : Addr} {fd_kept_from : FuncData} {f_laid_from : Addr} {fd_laid_from : FuncData} {f_thickness_of : Addr} {fd_thickness_of : FuncData} {f_aged : Addr} {fd_aged : FuncData} {f_manys_behind : Addr} {fd_manys_behind : FuncData} {f : Addr} {fd : FuncData} (F : Fun K "choices_of" "choices_of" s_choices_of f fd) (bi : Bi mg) (C_kept_from : Cal P w K mg base "kept_from" P_kept_from 1 (spM P w K [false, false] m_kept_from) f_kept_from fd_kept_from) (C_laid_from : Cal P w K mg base "laid_from" P_laid_from 1 (spM P w K [false, false] m_laid_from) f_laid_from fd_laid_from) (C_thickness_of : Cal P w K mg base "thickness_of" P_thickness_of 2 (spM P w K [false, false] m_thickness_of) f_thickness_of fd_thickness_of) (C_aged : Cal P w K mg base "aged" P_aged 2 (spM P w K [false, false] m_aged) f_aged fd_aged) (C_manys_behind : Cal P w K mg base "manys_behind" P_manys_behind 1 (spM P w K [false, false] m_manys_behind) f_manys_behind fd_manys_behind) : FnOk P w K mg base CX0 3 f fd P_choices_of (spM P w K [false, false, false] m_choices_of) :=
  okM F sc_choices_of rfl rfl fun cdv A outer s0 H E hr => by
  have hu64 := hr.units
  refine ⟨_, (pss_cons (ps_asg (pv 1) (pg_tup rfl (pgs_cons (pg_name (i := 3) sc_choices_of.nd rfl (.inl rfl)) (pgs_cons (pg_name (i := 4) sc_choices_of.nd rfl (.inl rfl)) (pgs_cons (pg_name (i := 5) sc_choices_of.nd rfl (.inl rfl)) pgs_nil)))))
    (pss_cons (ps_asg (pv 2) (pg_tup rfl (pgs_cons (pg_name (i := 6) sc_choices_of.nd rfl (.inl rfl)) (pgs_cons (pg_name (i := 7) sc_choices_of.nd rfl (.inl rfl)) pgs_nil))))
    (pss_cons (ps_set (i := 8) sc_choices_of.nd rfl (.inl rfl) (pe_lst pa_nil))
    (pss_cons (ps_for PassesOwn.never rfl (pi_list (pe_call (C_kept_from.G.mono (by decide)) hr (by rfl) C_kept_from.g C_kept_from.kp C_kept_from.b .nil pass0 (pa_cons (pv 6) (pa_cons (pv 5) pa_nil)))) (pg_name (i := 9) sc_choices_of.nd rfl (.inl rfl))
    (pss_one (ps_for PassesOwn.never rfl (pi_list (pe_call (C_laid_from.G.mono (by decide)) hr (by rfl) C_laid_from.g C_laid_from.kp C_laid_from.b .nil pass0 (pa_cons (pv 7) (pa_cons (pe_op op_sub (pv 5) (pe_callB (kCl (K := K) rLen call_lenK rfl) (by rfl) bi.m_len (by decide +kernel) (pa_cons (pv 9) pa_nil))) pa_nil)))) (pg_name (i := 10) sc_choices_of.nd rfl (.inl rfl))
    (pss_cons (ps_set (i := 11) sc_choices_of.nd rfl (.inl rfl) (pe_op (kOp (K := K) rPlus op_plus rfl) (pv 9) (pe_callTy (kCl (K := K) rTupF call_tupleF rfl) (by rfl) bi.m_tuple (by decide +kernel) (pa_cons (pe_lc (own := [("kind", 12)]) (g := (gName 12)) (tt := tYes) rfl sc_choices_of.nd (pi_tup (pv 10)) (blkOk_by (N := N_choices_of) (sc := defScope s_choices_of) (by decide +kernel)) (fun _ _ _ _ _ => (pg_name (i := 12) sc_choices_of.nd rfl (.inl rfl) (.inr rfl))) (fun _ _ _ _ _ => pts_nil) (fun _ _ _ _ _ => (pe_tupF (pa_cons (pv 12) (pa_cons pe_int pa_nil))))) pa_nil))))
    (pss_one (ps_if (pt_chain op_le op_le (pv 3) (pe_call (C_thickness_of.G.mono (by decide)) hr (by rfl) C_thickness_of.g C_thickness_of.kp C_thickness_of.b .nil pass0 (pa_cons (pv 0) (pa_cons (pv 11) pa_nil))) (pv 4))
    (pss_one (ps_expr (pe_bm PySem.F.plainAttrs_list PySem.F.slot_list_append PySem.F.type_list_append mt_append (pv 8) (pa_cons (pe_tupF (pa_cons (pv 9) (pa_cons (pv 10) (pa_cons (pe_tupF (pa_cons (pe_call (C_aged.G.mono (by decide)) hr (by rfl) C_aged.g C_aged.kp C_aged.b .nil pass0 (pa_cons (pv 0) (pa_cons (pv 11) pa_nil))) (pa_cons (pe_call (C_manys_behind.G.mono (by decide)) hr (by rfl) C_manys_behind.g C_manys_behind.kp C_manys_behind.b .nil pass0 (pa_cons (pv 7) (pa_cons (pv 10) pa_nil))) pa_nil))) pa_nil)))) pa_nil))))
    pss_nil))))))
    (pss_one (ps_ret (pv 8))))))), ?_⟩
  exact (ls_seq (ls_asg (le_var 1) (lg_tup (lgs_cons (lg_name 3) (lgs_cons (lg_name 4) (lgs_cons (lg_name 5) lgs_nil)))))
    (ls_seq (ls_asg (le_var 2) (lg_tup (lgs_cons (lg_name 6) (lgs_cons (lg_name 7) lgs_nil))))
    (ls_seq (ls_own (lo_lst la_nil))
    (ls_seq (ls_for (li_list (le_call (la_cons (le_var 6) (la_cons (le_var 5) la_nil)) rfl (alen_cons (alen_cons alen_nil)))) (lg_name 9)
    (ls_for (li_list (le_call (la_cons (le_var 7) (la_cons (le_op opl_sub (le_var 5) (le_cb cbl_len (la_cons (le_var 9) la_nil))) la_nil)) rfl (alen_cons (alen_cons alen_nil)))) (lg_name 10)
    (ls_seq (ls_asg (le_op opl_plus (le_var 9) (le_cb cbl_tup (la_cons (le_o (lo_lc (li_tup (le_var 10)) (lg_name 12) lt_yes (le_tup (la_cons (le_var 12) (la_cons le_c la_nil))) (by decide))) la_nil))) (lg_name 11))
    (ls_if (lt_t (le_chain opl_le opl_le (le_var 3) (le_call (la_cons (le_var 0) (la_cons (le_var 11) la_nil)) rfl (alen_cons (alen_cons alen_nil))) (le_var 4)))
    (ls_drop (le_mt mtl_append 8 (la_cons (le_tup (la_cons (le_var 9) (la_cons (le_var 10) (la_cons (le_tup (la_cons (le_call (la_cons (le_var 0) (la_cons (le_var 11) la_nil)) rfl (alen_cons (alen_cons alen_nil))) (la_cons (le_call (la_cons (le_var 7) (la_cons (le_var 10) la_nil)) rfl (alen_cons (alen_cons alen_nil))) la_nil))) la_nil)))) la_nil) fun _ _ _ _ => list_ty))
    ls_next))))
    (ls_ret (le_var 8))))))

noncomputable def m_steps_of : MF := mBody [false, false, false] 4
  (sSeq (sOwn 3 oDict0X)
  (sSeq (sFor (iL (eCall m_choices_of (aCons (eVar 0) (aCons (eVar 1) (aCons (eVar 2) aNil))))) (gT [(gN 4), (gN 5), (gN 6)])
  (sPutX 3 (eVar 6) (eB fMin2 (aCons (eB fLen (aCons (eVar 5) aNil)) (aCons (eGetX (eVar 3) (eVar 6) (eB fLen (aCons (eVar 5) aNil))) aNil)))))
  (sRet (eB fTup (aCons (eO (oSortIX (eVar 3))) aNil)))))
theorem ok_steps_of {f_choices_of : Addr} {fd_choices_of : FuncData} {f : Addr} {fd : FuncData} (F : Fun K "steps_of" "steps_of" s_steps_of f fd) (bi : Bi mg) (C_choices_of : Cal P w K mg base "choices_of" P_choices_of 3 (spM P w K [false, false, false] m_choices_of) f_choices_of fd_choices_of) : FnOk P w K mg base CX0 4 f fd P_steps_of (spM P w K [false, false, false] m_steps_of) :=
  okM F sc_steps_of rfl rfl fun cdv A outer s0 H E hr => by
  have hu64 := hr.units
  refine ⟨_, (pss_cons (ps_set (i := 3) sc_steps_of.nd rfl (.inl rfl) pe_dnewX)
    (pss_cons (ps_for PassesOwn.never rfl (pi_list (pe_call (C_choices_of.G.mono (by decide)) hr (by rfl) C_choices_of.g C_choices_of.kp C_choices_of.b .nil pass0 (pa_cons (pv 0) (pa_cons (pv 1) (pa_cons (pv 2) pa_nil))))) (pg_tup rfl (pgs_cons (pg_name (i := 4) sc_steps_of.nd rfl (.inl rfl)) (pgs_cons (pg_name (i := 5) sc_steps_of.nd rfl (.inl rfl)) (pgs_cons (pg_name (i := 6) sc_steps_of.nd rfl (.inl rfl)) pgs_nil))))
    (pss_one (ps_asg (pe_callB (call_min2 rfl) (by rfl) bi.m_min (by decide +kernel) (pa_cons (pe_callB (kCl (K := K) rLen call_lenK rfl) (by rfl) bi.m_len (by decide +kernel) (pa_cons (pv 5) pa_nil)) (pa_cons (pe_dget2X hu64 (pv 3) (pv 6) (pe_callB (kCl (K := K) rLen call_lenK rfl) (by rfl) bi.m_len (by decide +kernel) (pa_cons (pv 5) pa_nil)) ⟨rfl, rfl, rfl, rfl⟩) pa_nil))) (pg_sub (pv 3) (pv 6) (set_dictX hu64)))))
    (pss_one (ps_ret (pe_callTy (kCl (K := K) rTupF call_tupleF rfl) (by rfl) bi.m_tuple (by decide +kernel) (pa_cons (pe_callB (xCl (P := P) (w := w) (K := K) rSortIX (call_sortedIX rfl hu64) rfl rfl rfl) (by rfl) bi.m_sorted (by decide +kernel) (pa_cons (pe_itemsP (P := P) (w := w) (K := K) rfl rfl rfl (pv 3)) pa_nil)) pa_nil)))))), ?_⟩
  exact (ls_seq (ls_own lo_dict0X)
    (ls_seq (ls_for (li_list (le_call (la_cons (le_var 0) (la_cons (le_var 1) (la_cons (le_var 2) la_nil))) rfl (alen_cons (alen_cons (alen_cons alen_nil))))) (lg_tup (lgs_cons (lg_name 4) (lgs_cons (lg_name 5) (lgs_cons (lg_name 6) lgs_nil))))
    (ls_putX 3 (le_var 6) (le_cb cbl_min2 (la_cons (le_cb cbl_len (la_cons (le_var 5) la_nil)) (la_cons (le_getX (le_var 3) (le_var 6) (le_cb cbl_len (la_cons (le_var 5) la_nil))) la_nil)))))
    (ls_ret (le_cb cbl_tup (la_cons (le_o (lo_sortIX (le_var 3))) la_nil)))))

noncomputable def m_next_level : MF := mBody [false, false, false, false] 5
  (sSeq (sOwn 4 oDict0X)
  (sSeq (sFor (iT (eVar 2)) (gT [(gN 5), (gN 6)])
  (sSeq (sFor (iT (eCall m_steps_of (aCons (eVar 0) (aCons (eVar 1) (aCons (eVar 5) aNil))))) (gT [(gN 7), (gN 8)])
  (sPutX 4 (eVar 7) (eB fMin2 (aCons (e2 fPlus (eVar 6) (eVar 8)) (aCons (eGetX (eVar 4) (eVar 7) (e2 fPlus (eVar 6) (eVar 8))) aNil)))))
  (sIf (tV (e2 fGt (eB fLenX (aCons (eVar 4) aNil)) (eVar 3)))
  sBreak
  sNext)))
  (sRet (eB fTup (aCons (eO (oSortIX (eVar 4))) aNil)))))
theorem ok_next_level {f_steps_of : Addr} {fd_steps_of : FuncData} {f : Addr} {fd : FuncData} (F : Fun K "next_level" "next_level" s_next_level f fd) (bi : Bi mg) (C_steps_of : Cal P w K mg base "steps_of" P_steps_of 4 (spM P w K [false, false, false] m_steps_of) f_steps_of fd_steps_of) : FnOk P w K mg base CX0 5 f fd P_next_level (spM P w K [false, false, false, false] m_next_level) :=
  okM F sc_next_level rfl rfl fun cdv A outer s0 H E hr => by
  have hu64 := hr.units
  refine ⟨_, (pss_cons (ps_set (i := 4) sc_next_level.nd rfl (.inl rfl) pe_dnewX)
    (pss_cons (ps_for PassesOwn.never rfl (pi_tup (pv 2)) (pg_tup rfl (pgs_cons (pg_name (i := 5) sc_next_level.nd rfl (.inl rfl)) (pgs_cons (pg_name (i := 6) sc_next_level.nd rfl (.inl rfl)) pgs_nil)))
    (pss_cons (ps_for PassesOwn.never rfl (pi_tup (pe_call (C_steps_of.G.mono (by decide)) hr (by rfl) C_steps_of.g C_steps_of.kp C_steps_of.b .nil pass0 (pa_cons (pv 0) (pa_cons (pv 1) (pa_cons (pv 5) pa_nil))))) (pg_tup rfl (pgs_cons (pg_name (i := 7) sc_next_level.nd rfl (.inl rfl)) (pgs_cons (pg_name (i := 8) sc_next_level.nd rfl (.inl rfl)) pgs_nil)))
    (pss_one (ps_asg (pe_callB (call_min2 rfl) (by rfl) bi.m_min (by decide +kernel) (pa_cons (pe_op (kOp (K := K) rPlus op_plus rfl) (pv 6) (pv 8)) (pa_cons (pe_dget2X hu64 (pv 4) (pv 7) (pe_op (kOp (K := K) rPlus op_plus rfl) (pv 6) (pv 8)) ⟨rfl, rfl, rfl, rfl⟩) pa_nil))) (pg_sub (pv 4) (pv 7) (set_dictX hu64)))))
    (pss_one (ps_if (pt_cmpR op_gt (pe_callB (xCl (P := P) (w := w) (K := K) rLenX call_lenX rfl rfl rfl) (by rfl) bi.m_len (by decide +kernel) (pa_cons (pv 4) pa_nil)) (pv 3) (nomark _))
    (pss_one ps_break)
    pss_nil))))
    (pss_one (ps_ret (pe_callTy (kCl (K := K) rTupF call_tupleF rfl) (by rfl) bi.m_tuple (by decide +kernel) (pa_cons (pe_callB (xCl (P := P) (w := w) (K := K) rSortIX (call_sortedIX rfl hu64) rfl rfl rfl) (by rfl) bi.m_sorted (by decide +kernel) (pa_cons (pe_itemsP (P := P) (w := w) (K := K) rfl rfl rfl (pv 4)) pa_nil)) pa_nil)))))), ?_⟩
  exact (ls_seq (ls_own lo_dict0X)
    (ls_seq (ls_for (li_tup (le_var 2)) (lg_tup (lgs_cons (lg_name 5) (lgs_cons (lg_name 6) lgs_nil)))
    (ls_seq (ls_for (li_tup (le_call (la_cons (le_var 0) (la_cons (le_var 1) (la_cons (le_var 5) la_nil))) rfl (alen_cons (alen_cons (alen_cons alen_nil))))) (lg_tup (lgs_cons (lg_name 7) (lgs_cons (lg_name 8) lgs_nil)))
    (ls_putX 4 (le_var 7) (le_cb cbl_min2 (la_cons (le_op opl_plus (le_var 6) (le_var 8)) (la_cons (le_getX (le_var 4) (le_var 7) (le_op opl_plus (le_var 6) (le_var 8))) la_nil)))))
    (ls_if (lt_t (le_op opl_gt (le_cb cbl_lenX (la_cons (le_var 4) la_nil)) (le_var 3)))
    ls_break
    ls_next)))
    (ls_ret (le_cb cbl_tup (la_cons (le_o (lo_sortIX (le_var 4))) la_nil)))))

noncomputable def m_first_state : MF := mBody [false] 2
  (sRet (eTup (aCons (eTup aNil) (aCons (eB fTup (aCons (eO (oLc (iT (eVar 0)) [1, 2] (gT [(gN 1), (gN 2)]) tYesF (eVar 2))) aNil)) aNil))))
theorem ok_first_state {f : Addr} {fd : FuncData} (F : Fun K "first_state" "first_state" s_first_state f fd) (bi : Bi mg) : FnOk P w K mg base CX0 1 f fd P_first_state (spM P w K [false] m_first_state) :=
  okM F sc_first_state rfl rfl fun cdv A outer s0 H E hr => by
  have hu64 := hr.units
  refine ⟨_, (pss_one (ps_ret (pe_tupF (pa_cons (pe_tupF pa_nil) (pa_cons (pe_callTy (kCl (K := K) rTupF call_tupleF rfl) (by rfl) bi.m_tuple (by decide +kernel) (pa_cons (pe_lc (own := [("wisp", 1), ("many", 2)]) (g := (gTup K 2 (gCons (gName 1) (gCons (gName 2) gNil)))) (tt := tYes) rfl sc_first_state.nd (pi_tup (pv 0)) (blkOk_by (N := N_first_state) (sc := defScope s_first_state) (by decide +kernel)) (fun _ _ _ _ _ => (pg_tup rfl (pgs_cons (pg_name (i := 1) sc_first_state.nd rfl (.inl rfl) (.inr rfl)) (pgs_cons (pg_name (i := 2) sc_first_state.nd rfl (.inl rfl) (.inr rfl)) pgs_nil)))) (fun _ _ _ _ _ => pts_nil) (fun _ _ _ _ _ => (pv 2))) pa_nil)) pa_nil))))), ?_⟩
  exact (ls_ret (le_tup (la_cons (le_tup la_nil) (la_cons (le_cb cbl_tup (la_cons (le_o (lo_lc (li_tup (le_var 0)) (lg_tup (lgs_cons (lg_name 1) (lgs_cons (lg_name 2) lgs_nil))) lt_yes (le_var 2) (by decide))) la_nil)) la_nil))))

noncomputable def m_levels_of : MF := mBody [false, false, false, false] 4
  (sSeq (sOwn 4 (oLst (aCons (eTup (aCons (eTup (aCons (eCall m_first_state (aCons (eVar 0) aNil)) (aCons (eC (.int 0)) aNil))) aNil)) aNil)))
  (sSeq (sAsg (e2 fSub (eVar 3) (eC (.int 1))) (gN 5))
  (sSeq (sFor (iR1 (aCons (eVar 2) aNil)) (gN 6)
  (sSeq (sAsg (eCall m_next_level (aCons (eVar 0) (aCons (eVar 1) (aCons (e2 fIx (eVar 4) (e1 fNeg (eC (.int 1)))) (aCons (eVar 5) aNil))))) (gN 7))
  (sSeq (sIf (tNot' (tT' (eVar 7)))
  (sRet (eTup (aCons (eC (.str "never")) (aCons (eVar 6) aNil))))
  sNext)
  (sSeq (sAug 5 fSub (eB fLen (aCons (eVar 7) aNil)))
  (sSeq (sIf (tV (e2 fLt (eVar 5) (eC (.int 0))))
  (sRet (eTup (aCons (eC (.str "open")) (aCons (eC .none) aNil))))
  sNext)
  (sDrop (eMt isListD 4 fAppend (aCons (eVar 7) aNil))))))))
  (sRet (eTup (aCons (eC (.str "levels")) (aCons (eB fTup (aCons (eVar 4) aNil)) aNil)))))))
theorem ok_levels_of {f_next_level : Addr} {fd_next_level : FuncData} {f_first_state : Addr} {fd_first_state : FuncData} {f : Addr} {fd : FuncData} (F : Fun K "levels_of" "levels_of" s_levels_of f fd) (bi : Bi mg) (C_next_level : Cal P w K mg base "next_level" P_next_level 5 (spM P w K [false, false, false, false] m_next_level) f_next_level fd_next_level) (C_first_state : Cal P w K mg base "first_state" P_first_state 1 (spM P w K [false] m_first_state) f_first_state fd_first_state) : FnOk P w K mg base CX0 6 f fd P_levels_of (spM P w K [false, false, false, false] m_levels_of) :=
  okM F sc_levels_of rfl rfl fun cdv A outer s0 H E hr => by
  have hu64 := hr.units
  refine ⟨_, (pss_cons (ps_set (i := 4) sc_levels_of.nd rfl (.inl rfl) (pe_lst (pa_cons (pe_tupF (pa_cons (pe_tupF (pa_cons (pe_call (C_first_state.G.mono (by decide)) hr (by rfl) C_first_state.g C_first_state.kp C_first_state.b .nil pass0 (pa_cons (pv 0) pa_nil)) (pa_cons pe_int pa_nil))) pa_nil)) pa_nil)))
    (pss_cons (ps_set (i := 5) sc_levels_of.nd rfl (.inl rfl) (pe_op op_sub (pv 3) pe_int))
    (pss_cons (ps_for PassesOwn.never rfl (pi_range1 rfl bi.m_range (pa_cons (pv 2) pa_nil)) (pg_name (i := 6) sc_levels_of.nd rfl (.inl rfl))
    (pss_cons (ps_set (i := 7) sc_levels_of.nd rfl (.inl rfl) (pe_call (C_next_level.G.mono (by decide)) hr (by rfl) C_next_level.g C_next_level.kp C_next_level.b .nil pass0 (pa_cons (pv 0) (pa_cons (pv 1) (pa_cons (pe_ix (kIx (K := K) rIx ix_seq rfl) (pv 4) (pe_un un_neg pe_int) (fun _ _ => rfl)) (pa_cons (pv 5) pa_nil))))))
    (pss_cons (ps_if (pt_not (pt_truth (pv 7) (by intro _; rfl)))
    (pss_one (ps_ret (pe_tupF (pa_cons pe_str (pa_cons (pv 6) pa_nil)))))
    pss_nil)
    (pss_cons (ps_aug (i := 5) sc_levels_of.nd rfl (.inl rfl) (pe_callB (kCl (K := K) rLen call_lenK rfl) (by rfl) bi.m_len (by decide +kernel) (pa_cons (pv 7) pa_nil)) ip_sub)
    (pss_cons (ps_if (pt_cmpR op_lt (pv 5) pe_int (nomark _))
    (pss_one (ps_ret (pe_tupF (pa_cons pe_str (pa_cons pe_non pa_nil)))))
    pss_nil)
    (pss_one (ps_expr (pe_bm PySem.F.plainAttrs_list PySem.F.slot_list_append PySem.F.type_list_append mt_append (pv 4) (pa_cons (pv 7) pa_nil)))))))))
    (pss_one (ps_ret (pe_tupF (pa_cons pe_str (pa_cons (pe_callTy (kCl (K := K) rTupF call_tupleF rfl) (by rfl) bi.m_tuple (by decide +kernel) (pa_cons (pv 4) pa_nil)) pa_nil)))))))), ?_⟩
  exact (ls_seq (ls_own (lo_lst (la_cons (le_tup (la_cons (le_tup (la_cons (le_call (la_cons (le_var 0) la_nil) rfl (alen_cons alen_nil)) (la_cons le_c la_nil))) la_nil)) la_nil)))
    (ls_seq (ls_asg (le_op opl_sub (le_var 3) le_c) (lg_name 5))
    (ls_seq (ls_for (li_range1 (la_cons (le_var 2) la_nil)) (lg_name 6)
    (ls_seq (ls_asg (le_call (la_cons (le_var 0) (la_cons (le_var 1) (la_cons (le_op opl_ix (le_var 4) (le_un unl_neg le_c)) (la_cons (le_var 5) la_nil)))) rfl (alen_cons (alen_cons (alen_cons (alen_cons alen_nil))))) (lg_name 7))
    (ls_seq (ls_if (lt_not (lt_truth (le_var 7)))
    (ls_ret (le_tup (la_cons le_c (la_cons (le_var 6) la_nil))))
    ls_next)
    (ls_seq (ls_aug ipl_sub (le_cb cbl_len (la_cons (le_var 7) la_nil)))
    (ls_seq (ls_if (lt_t (le_op opl_lt (le_var 5) le_c))
    (ls_ret (le_tup (la_cons le_c (la_cons le_c la_nil))))
    ls_next)
    (ls_drop (le_mt mtl_append 4 (la_cons (le_var 7) la_nil) fun _ _ _ _ => list_ty)))))))
    (ls_ret (le_tup (la_cons le_c (la_cons (le_cb cbl_tup (la_cons (le_var 4) la_nil)) la_nil)))))))

noncomputable def m__law_due : MF := mBody [false, false, false] 1
  (sSeq (sIf (tV (e2 fGt (eVar 1) (eVar 2)))
  (sRet (eTup (aCons (eC (.str "open")) (aCons (eC .none) aNil))))
  sNext)
  (sSeq (sIf (tV (e2 (fEqXE true) (e2 fIx (eVar 0) (e1 fNeg (eC (.int 1)))) (eO oDict0X)))
  (sRet (eTup (aCons (eC (.str "never")) (aCons (e2 fSub (eB fLen (aCons (eVar 0) aNil)) (eC (.int 2))) aNil))))
  sNext)
  (sRet (eTup (aCons (eC (.str "levels")) (aCons (eB fTup (aCons (eO (oLc (iL (eVar 0)) [3] (gN 3) tYesF (eB fTup (aCons (eO (oSortIX (eVar 3))) aNil)))) aNil)) aNil))))))
theorem ok__law_due {f : Addr} {fd : FuncData} (F : Fun K "_law_due" "_law_due" s__law_due f fd) (bi : Bi mg) : FnOk P w K mg base CX0 1 f fd P__law_due (spM P w K [false, false, false] m__law_due) :=
  okM F sc__law_due rfl rfl fun cdv A outer s0 H E hr => by
  have hu64 := hr.units
  refine ⟨_, (pss_cons (ps_if (pt_cmpR op_gt (pv 1) (pv 2) (nomark _))
    (pss_one (ps_ret (pe_tupF (pa_cons pe_str (pa_cons pe_non pa_nil)))))
    pss_nil)
    (pss_cons (ps_if (pt_cmpR (xOp (P := P) (w := w) (K := K) (fun P w K => rEqXE P w K true) (op_eqXE hu64) rfl rfl rfl) (pe_ix (kIx (K := K) rIx ix_seq rfl) (pv 0) (pe_un un_neg pe_int) (fun _ _ => rfl)) pe_dnewX (nomark _))
    (pss_one (ps_ret (pe_tupF (pa_cons pe_str (pa_cons (pe_op op_sub (pe_callB (kCl (K := K) rLen call_lenK rfl) (by rfl) bi.m_len (by decide +kernel) (pa_cons (pv 0) pa_nil)) pe_int) pa_nil)))))
    pss_nil)
    (pss_one (ps_ret (pe_tupF (pa_cons pe_str (pa_cons (pe_callTy (kCl (K := K) rTupF call_tupleF rfl) (by rfl) bi.m_tuple (by decide +kernel) (pa_cons (pe_lc (own := [("_law_level", 3)]) (g := (gName 3)) (tt := tYes) rfl sc__law_due.nd (pi_list (pv 0)) (blkOk_by (N := N__law_due) (sc := defScope s__law_due) (by decide +kernel)) (fun _ _ _ _ _ => (pg_name (i := 3) sc__law_due.nd rfl (.inl rfl) (.inr rfl))) (fun _ _ _ _ _ => pts_nil) (fun _ _ _ _ _ => (pe_callTy (kCl (K := K) rTupF call_tupleF rfl) (by rfl) bi.m_tuple (by decide +kernel) (pa_cons (pe_callB (xCl (P := P) (w := w) (K := K) rSortIX (call_sortedIX rfl hu64) rfl rfl rfl) (by rfl) bi.m_sorted (by decide +kernel) (pa_cons (pe_itemsP (P := P) (w := w) (K := K) rfl rfl rfl (pv 3)) pa_nil)) pa_nil)))) pa_nil)) pa_nil))))))), ?_⟩
  exact (ls_seq (ls_if (lt_t (le_op opl_gt (le_var 1) (le_var 2)))
    (ls_ret (le_tup (la_cons le_c (la_cons le_c la_nil))))
    ls_next)
    (ls_seq (ls_if (lt_t (le_op (opl_eqXE true) (le_op opl_ix (le_var 0) (le_un unl_neg le_c)) (le_o lo_dict0X)))
    (ls_ret (le_tup (la_cons le_c (la_cons (le_op opl_sub (le_cb cbl_len (la_cons (le_var 0) la_nil)) le_c) la_nil))))
    ls_next)
    (ls_ret (le_tup (la_cons le_c (la_cons (le_cb cbl_tup (la_cons (le_o (lo_lc (li_list (le_var 0)) (lg_name 3) lt_yes (le_cb cbl_tup (la_cons (le_o (lo_sortIX (le_var 3))) la_nil)) (by decide))) la_nil)) la_nil))))))

noncomputable def m_law : MF := mBody [false] 7
  (sSeq (sOwn 1 (oCall m__law_pot (aCons (eVar 0) (aCons (eC (.int 0)) aNil))))
  (sSeq (sAsg (eCallB [true] m__law_set (aCons (eVar 1) aNil)) (gT [(gN 2), (gN 3)]))
  (sSeq (sAsg (eCallB [true, false] m__law_take (aCons (eVar 1) (aCons (eC (.int 21)) aNil))) (gN 4))
  (sSeq (sAsg (eCall m__law_levels (aCons (eVar 2) (aCons (eVar 3) (aCons (eVar 4) aNil)))) (gT [(gN 5), (gN 6)]))
  (sSeq (sFor (iT (eTup (aCons (e2 fPlus (eC (.int 1)) (eCallB [true, false] m__law_take (aCons (eVar 1) (aCons (eC (.int 20)) aNil)))) (aCons (eB fMax2 (aCons (eC (.int 1)) (aCons (eB fMin2 (aCons (eC (.int 80)) (aCons (e2 fSub (eVar 6) (eC (.int 1))) aNil))) aNil))) (aCons (eB fMin2 (aCons (eC (.int 80)) (aCons (eVar 6) aNil))) (aCons (eC (.int 80)) aNil)))))) (gN 7)
  (sIf (tNot' (tV (eCall m__law_same (aCons (eCall m_levels_of (aCons (eVar 2) (aCons (eVar 3) (aCons (eVar 4) (aCons (eVar 7) aNil))))) (aCons (eCall m__law_due (aCons (eVar 5) (aCons (eVar 6) (aCons (eVar 7) aNil)))) aNil)))))
  (sRet (eC (.bool false)))
  sNext))
  (sRet (eC (.bool true))))))))
theorem ok_law {f__law_take : Addr} {fd__law_take : FuncData} {f_levels_of : Addr} {fd_levels_of : FuncData} {f__law_due : Addr} {fd__law_due : FuncData} {f__law_same : Addr} {fd__law_same : FuncData} {f__law_levels : Addr} {fd__law_levels : FuncData} {f__law_set : Addr} {fd__law_set : FuncData} {f__law_pot : Addr} {fd__law_pot : FuncData} {f : Addr} {fd : FuncData} (F : Fun K "law" "law" s_law f fd) (bi : Bi mg) (C__law_take : Cal P w K mg base "_law_take" P__law_take 1 (spM P w K [true, false] m__law_take) f__law_take fd__law_take) (C_levels_of : Cal P w K mg base "levels_of" P_levels_of 6 (spM P w K [false, false, false, false] m_levels_of) f_levels_of fd_levels_of) (C__law_due : Cal P w K mg base "_law_due" P__law_due 1 (spM P w K [false, false, false] m__law_due) f__law_due fd__law_due) (C__law_same : Cal P w K mg base "_law_same" P__law_same 11 (spM P w K [false, false] m__law_same) f__law_same fd__law_same) (C__law_levels : Cal P w K mg base "_law_levels" P__law_levels 3 (spM P w K [false, false, false] m__law_levels) f__law_levels fd__law_levels) (C__law_set : Cal P w K mg base "_law_set" P__law_set 3 (spM P w K [true] m__law_set) f__law_set fd__law_set) (C__law_pot : Cal P w K mg base "_law_pot" P__law_pot 1 (spMO P w K [false, false] m__law_pot) f__law_pot fd__law_pot) : FnOk P w K mg base CX0 12 f fd P_law (spM P w K [false] m_law) :=
  okM F sc_law rfl rfl fun cdv A outer s0 H E hr => by
  have hu64 := hr.units
  refine ⟨_, (pss_cons (ps_set (i := 1) sc_law.nd rfl (.inl rfl) (pe_call (C__law_pot.G.mono (by decide)) hr (by rfl) C__law_pot.g C__law_pot.kp C__law_pot.b .nil pass0 (pa_cons (pv 0) (pa_cons pe_int pa_nil))))
    (pss_cons (ps_asg (pe_call (C__law_set.G.mono (by decide)) hr (by rfl) C__law_set.g C__law_set.kp C__law_set.b .nil pass0 (pa_cons (pv 1) pa_nil)) (pg_tup rfl (pgs_cons (pg_name (i := 2) sc_law.nd rfl (.inl rfl)) (pgs_cons (pg_name (i := 3) sc_law.nd rfl (.inl rfl)) pgs_nil))))
    (pss_cons (ps_set (i := 4) sc_law.nd rfl (.inl rfl) (pe_call (C__law_take.G.mono (by decide)) hr (by rfl) C__law_take.g C__law_take.kp C__law_take.b .nil pass0 (pa_cons (pv 1) (pa_cons pe_int pa_nil))))
    (pss_cons (ps_asg (pe_call (C__law_levels.G.mono (by decide)) hr (by rfl) C__law_levels.g C__law_levels.kp C__law_levels.b .nil pass0 (pa_cons (pv 2) (pa_cons (pv 3) (pa_cons (pv 4) pa_nil)))) (pg_tup rfl (pgs_cons (pg_name (i := 5) sc_law.nd rfl (.inl rfl)) (pgs_cons (pg_name (i := 6) sc_law.nd rfl (.inl rfl)) pgs_nil))))
    (pss_cons (ps_for PassesOwn.never rfl (pi_tup (pe_tupF (pa_cons (pe_op (kOp (K := K) rPlus op_plus rfl) pe_int (pe_call (C__law_take.G.mono (by decide)) hr (by rfl) C__law_take.g C__law_take.kp C__law_take.b .nil pass0 (pa_cons (pv 1) (pa_cons pe_int pa_nil)))) (pa_cons (pe_callB (call_max2 rfl) (by rfl) bi.m_max (by decide +kernel) (pa_cons pe_int (pa_cons (pe_callB (call_min2 rfl) (by rfl) bi.m_min (by decide +kernel) (pa_cons pe_int (pa_cons (pe_op op_sub (pv 6) pe_int) pa_nil))) pa_nil))) (pa_cons (pe_callB (call_min2 rfl) (by rfl) bi.m_min (by decide +kernel) (pa_cons pe_int (pa_cons (pv 6) pa_nil))) (pa_cons pe_int pa_nil)))))) (pg_name (i := 7) sc_law.nd rfl (.inl rfl))
    (pss_one (ps_if (pt_not (pt_val (pe_call (C__law_same.G.mono (by decide)) hr (by rfl) C__law_same.g C__law_same.kp C__law_same.b .nil pass0 (pa_cons (pe_call (C_levels_of.G.mono (by decide)) hr (by rfl) C_levels_of.g C_levels_of.kp C_levels_of.b .nil pass0 (pa_cons (pv 2) (pa_cons (pv 3) (pa_cons (pv 4) (pa_cons (pv 7) pa_nil))))) (pa_cons (pe_call (C__law_due.G.mono (by decide)) hr (by rfl) C__law_due.g C__law_due.kp C__law_due.b .nil pass0 (pa_cons (pv 5) (pa_cons (pv 6) (pa_cons (pv 7) pa_nil)))) pa_nil)))))
    (pss_one (ps_ret pe_bl))
    pss_nil)))
    (pss_one (ps_ret pe_bl))))))), ?_⟩
  exact (ls_seq (ls_own (lo_call (la_cons (le_var 0) (la_cons le_c la_nil)) rfl (alen_cons (alen_cons alen_nil))))
    (ls_seq (ls_asg (le_callB (la_cons (le_var 1) la_nil)) (lg_tup (lgs_cons (lg_name 2) (lgs_cons (lg_name 3) lgs_nil))))
    (ls_seq (ls_asg (le_callB (la_cons (le_var 1) (la_cons le_c la_nil))) (lg_name 4))
    (ls_seq (ls_asg (le_call (la_cons (le_var 2) (la_cons (le_var 3) (la_cons (le_var 4) la_nil))) rfl (alen_cons (alen_cons (alen_cons alen_nil)))) (lg_tup (lgs_cons (lg_name 5) (lgs_cons (lg_name 6) lgs_nil))))
    (ls_seq (ls_for (li_tup (le_tup (la_cons (le_op opl_plus le_c (le_callB (la_cons (le_var 1) (la_cons le_c la_nil)))) (la_cons (le_cb cbl_max2 (la_cons le_c (la_cons (le_cb cbl_min2 (la_cons le_c (la_cons (le_op opl_sub (le_var 6) le_c) la_nil))) la_nil))) (la_cons (le_cb cbl_min2 (la_cons le_c (la_cons (le_var 6) la_nil))) (la_cons le_c la_nil)))))) (lg_name 7)
    (ls_if (lt_not (lt_v (le_call (la_cons (le_call (la_cons (le_var 2) (la_cons (le_var 3) (la_cons (le_var 4) (la_cons (le_var 7) la_nil)))) rfl (alen_cons (alen_cons (alen_cons (alen_cons alen_nil))))) (la_cons (le_call (la_cons (le_var 5) (la_cons (le_var 6) (la_cons (le_var 7) la_nil))) rfl (alen_cons (alen_cons (alen_cons alen_nil)))) la_nil)) rfl (alen_cons (alen_cons alen_nil)))))
    (ls_ret le_c)
    ls_next))
    (ls_ret le_c))))))
end
/-! ### how data are told -/
def stepD (s : Int × Int) : DT := .tuple [.int s.1, .int s.2]
abbrev Wsp := Int × List (Int × Int)
def wspD (w : Wsp) : DT := .tuple [.int w.1, .tuple (w.2.map stepD)]
def stepAt : List (Int × Int) → Int → Int
  | [], _ => 0
  | (t, l) :: r, k => if k < l then t else stepAt r (k - l)
def lenW (w : Wsp) : Int := (w.2.map (·.2)).sum
theorem e_length (w : Wsp) (hl : w.2.length ≤ sizeLine) : m_length_of [wspD w] = some (.int (lenW w), [.none]) := by
  have h := comp_map (enc := stepD) (vs := [1, 2]) (g := gT [gN 1, gN 2]) (t := tYesF) (e := eVar 2) (δ := [.dat (wspD w), .no, .no]) (fun s => .int s.2) w.2 (fun s _ => by simp [sSeq, sAsg, sOwn, sIf, sRet, sRetO, sRetV, sRetN, sDrop, sNext, sCont, sBreak, sAug, sFor, sSetL, eVar, eC, e1, e2, eB, eTup, eO, oB, o2, oLst, oCall, oDict0X, oLc, oLc2, aNil, aCons, tV, tAnd', tOr', tNot', tT', tYesF, truth', truth, eIf, eAnd, eOr, eNot, eCh, eMt, eMt0, eCall, eIsi, isaD, typeD, isDct, eCntT, eGetX, sPutX, frzV, frzs, val, vals, slD, slDat, cont, setC, isListD, free_eq, isFr_no, isFr_dat, isFr_own, isFr_bor, gN, gT, partsD, iL, iT, iR1, iR2, iEnL, iEnT, iZLL, iZTT, iZTL, iKeysX, iValsX, iItemsX, fI0, fI, fPlus, fCatT, fAddS, fCatL, fRepT, fRepL, fIx, fLen, fAbs, fInt, fTup, fList, fAppend, fExtend, fPop, fPopAt, fMin2, fMax2, fNeg, fIsN, fNotN, isNone, fSum, fSumT, fInX, fIxX, fLenX, r1F, r2F, rgOk, compStep, wipeD, putB, keepD, startS, outsD, outD, mBody, mBodyO, sPar, yNil, yCons, xE, xO, setH, setHs, rdOk, List.set, bind_ite, atI_0, atI_1, atI_2, ixN_0, ixN_1, List.getElem?_cons_zero, eCallB, okL_1, okL_2, okL_3, okL_4, lentS, pinv, frzB, lendB, lent1, List.idxOf?, List.findIdx?, List.findIdx?.go, putS, putS1, oD1X, fEqXE, stepD]) hl
  have hs : intsD (w.2.map fun s => PyData.int s.2) = some (w.2.map (·.2)) := by
    rw [show (w.2.map fun s => PyData.int s.2) = (w.2.map (·.2)).map PyData.int by simp]
    exact intsD_of
  simp [m_length_of, sSeq, sAsg, sOwn, sIf, sRet, sRetO, sRetV, sRetN, sDrop, sNext, sCont, sBreak, sAug, sFor, sSetL, eVar, eC, e1, e2, eB, eTup, eO, oB, o2, oLst, oCall, oDict0X, oLc, oLc2, aNil, aCons, tV, tAnd', tOr', tNot', tT', tYesF, truth', truth, eIf, eAnd, eOr, eNot, eCh, eMt, eMt0, eCall, eIsi, isaD, typeD, isDct, eCntT, eGetX, sPutX, frzV, frzs, val, vals, slD, slDat, cont, setC, isListD, free_eq, isFr_no, isFr_dat, isFr_own, isFr_bor, gN, gT, partsD, iL, iT, iR1, iR2, iEnL, iEnT, iZLL, iZTT, iZTL, iKeysX, iValsX, iItemsX, fI0, fI, fPlus, fCatT, fAddS, fCatL, fRepT, fRepL, fIx, fLen, fAbs, fInt, fTup, fList, fAppend, fExtend, fPop, fPopAt, fMin2, fMax2, fNeg, fIsN, fNotN, isNone, fSum, fSumT, fInX, fIxX, fLenX, r1F, r2F, rgOk, compStep, wipeD, putB, keepD, startS, outsD, outD, mBody, mBodyO, sPar, yNil, yCons, xE, xO, setH, setHs, rdOk, List.set, bind_ite, atI_0, atI_1, atI_2, ixN_0, ixN_1, List.getElem?_cons_zero, eCallB, okL_1, okL_2, okL_3, okL_4, lentS, pinv, frzB, lendB, lent1, List.idxOf?, List.findIdx?, List.findIdx?.go, putS, putS1, oD1X, fEqXE, wspD, atI] at h ⊢
  simp [sSeq, sAsg, sOwn, sIf, sRet, sRetO, sRetV, sRetN, sDrop, sNext, sCont, sBreak, sAug, sFor, sSetL, eVar, eC, e1, e2, eB, eTup, eO, oB, o2, oLst, oCall, oDict0X, oLc, oLc2, aNil, aCons, tV, tAnd', tOr', tNot', tT', tYesF, truth', truth, eIf, eAnd, eOr, eNot, eCh, eMt, eMt0, eCall, eIsi, isaD, typeD, isDct, eCntT, eGetX, sPutX, frzV, frzs, val, vals, slD, slDat, cont, setC, isListD, free_eq, isFr_no, isFr_dat, isFr_own, isFr_bor, gN, gT, partsD, iL, iT, iR1, iR2, iEnL, iEnT, iZLL, iZTT, iZTL, iKeysX, iValsX, iItemsX, fI0, fI, fPlus, fCatT, fAddS, fCatL, fRepT, fRepL, fIx, fLen, fAbs, fInt, fTup, fList, fAppend, fExtend, fPop, fPopAt, fMin2, fMax2, fNeg, fIsN, fNotN, isNone, fSum, fSumT, fInX, fIxX, fLenX, r1F, r2F, rgOk, compStep, wipeD, putB, keepD, startS, outsD, outD, mBody, mBodyO, sPar, yNil, yCons, xE, xO, setH, setHs, rdOk, List.set, bind_ite, atI_0, atI_1, atI_2, ixN_0, ixN_1, List.getElem?_cons_zero, eCallB, okL_1, okL_2, okL_3, okL_4, lentS, pinv, frzB, lendB, lent1, List.idxOf?, List.findIdx?, List.findIdx?.go, putS, putS1, oD1X, fEqXE, h, hs, lenW]
/-! ### the pot -/
def PotN (d : DT) : Prop := ∃ g s : Int, d = .list [.int g, .int s] ∧ 0 ≤ g ∧ g < 10 ^ 900 ∧ 0 ≤ s ∧ s < 2305843009213693951
theorem small_w {i : Int} {b : Int} (h0 : 0 ≤ i) (h1 : i < b) (hb : b.natAbs < 2 ^ 4000) : i.natAbs < 2 ^ 4000 := by
  have : i.natAbs < b.natAbs := by omega
  exact Nat.lt_trans this hb
theorem e_take {p : DT} {n : Int} (hp : PotN p) (h0 : 0 < n) (h1 : n < 2 ^ 30) : ∃ r p', m__law_take [p, .int n] = some (.int r, [p', .none]) ∧ 0 ≤ r ∧ r < n ∧ PotN p' := by
  obtain ⟨g, s, rfl, g0, g1, s0, s1⟩ := hp
  have B : ((10 : Int) ^ 900).natAbs < 2 ^ 4000 := by decide +kernel
  by_cases hg : 0 < g
  · have d1 : CDivW g n := div_of h0 (Int.lt_trans h1 (by decide +kernel))
    refine ⟨g % n, .list [.int (g / n), .int s], ?_, Int.emod_nonneg _ (Int.ne_of_gt h0), Int.emod_lt_of_pos _ h0, g / n, s, rfl, Int.ediv_nonneg g0 (Int.le_of_lt h0), ?_, s0, s1⟩
    · simp [m__law_take, sSeq, sAsg, sOwn, sIf, sRet, sRetO, sRetV, sRetN, sDrop, sNext, sCont, sBreak, sAug, sFor, sSetL, eVar, eC, e1, e2, eB, eTup, eO, oB, o2, oLst, oCall, oDict0X, oLc, oLc2, aNil, aCons, tV, tAnd', tOr', tNot', tT', tYesF, truth', truth, eIf, eAnd, eOr, eNot, eCh, eMt, eMt0, eCall, eIsi, isaD, typeD, isDct, eCntT, eGetX, sPutX, frzV, frzs, val, vals, slD, slDat, cont, setC, isListD, free_eq, isFr_no, isFr_dat, isFr_own, isFr_bor, gN, gT, partsD, iL, iT, iR1, iR2, iEnL, iEnT, iZLL, iZTT, iZTL, iKeysX, iValsX, iItemsX, fI0, fI, fPlus, fCatT, fAddS, fCatL, fRepT, fRepL, fIx, fLen, fAbs, fInt, fTup, fList, fAppend, fExtend, fPop, fPopAt, fMin2, fMax2, fNeg, fIsN, fNotN, isNone, fSum, fSumT, fInX, fIxX, fLenX, r1F, r2F, rgOk, compStep, wipeD, putB, keepD, startS, outsD, outD, mBody, mBodyO, sPar, yNil, yCons, xE, xO, setH, setHs, rdOk, List.set, bind_ite, atI_0, atI_1, atI_2, ixN_0, ixN_1, List.getElem?_cons_zero, eCallB, okL_1, okL_2, okL_3, okL_4, lentS, pinv, frzB, lendB, lent1, List.idxOf?, List.findIdx?, List.findIdx?.go, putS, putS1, oD1X, fEqXE, hg, h0, d1]
    · exact Int.lt_of_le_of_lt (Int.ediv_le_self _ g0) g1
  · have c1 : CMulW s 1181783497276652981 := wide_of (small_w s0 s1 (by decide +kernel)) (by decide +kernel)
    generalize hs' : (s * 1181783497276652981 + 12345678910987) % 2305843009213693951 = s'
    have t0 : 0 ≤ s' := by rw [← hs']; exact Int.emod_nonneg _ (by decide)
    have t1 : s' < 2305843009213693951 := by rw [← hs']; exact Int.emod_lt_of_pos _ (by decide)
    have d1 : CDivW s' 65537 := div_of (by decide) (by decide +kernel)
    have q0 : 0 ≤ s' / 65537 := Int.ediv_nonneg t0 (by decide)
    have q1 : s' / 65537 < 2305843009213693951 := Int.lt_of_le_of_lt (Int.ediv_le_self _ t0) t1
    have m0 : 0 ≤ s' % 65537 := Int.emod_nonneg _ (by decide)
    have m1 : s' % 65537 < 65537 := Int.emod_lt_of_pos _ (by decide)
    have c2 : CMulW (s' / 65537) (s' % 65537 + 3) := wide_of (small_w q0 q1 (by decide +kernel)) (small_w (b := 65541) (by omega) (by omega) (by decide +kernel))
    have d2 : ∀ x, CDivW x 97 := fun x => div_of (by decide) (by decide +kernel)
    refine ⟨s' / 65537 * (s' % 65537 + 3) % 2305843009213693921 / 97 % n, .list [.int g, .int s'], ?_, Int.emod_nonneg _ (Int.ne_of_gt h0), Int.emod_lt_of_pos _ h0, g, s', rfl, g0, g1, t0, t1⟩
    simp [m__law_take, sSeq, sAsg, sOwn, sIf, sRet, sRetO, sRetV, sRetN, sDrop, sNext, sCont, sBreak, sAug, sFor, sSetL, eVar, eC, e1, e2, eB, eTup, eO, oB, o2, oLst, oCall, oDict0X, oLc, oLc2, aNil, aCons, tV, tAnd', tOr', tNot', tT', tYesF, truth', truth, eIf, eAnd, eOr, eNot, eCh, eMt, eMt0, eCall, eIsi, isaD, typeD, isDct, eCntT, eGetX, sPutX, frzV, frzs, val, vals, slD, slDat, cont, setC, isListD, free_eq, isFr_no, isFr_dat, isFr_own, isFr_bor, gN, gT, partsD, iL, iT, iR1, iR2, iEnL, iEnT, iZLL, iZTT, iZTL, iKeysX, iValsX, iItemsX, fI0, fI, fPlus, fCatT, fAddS, fCatL, fRepT, fRepL, fIx, fLen, fAbs, fInt, fTup, fList, fAppend, fExtend, fPop, fPopAt, fMin2, fMax2, fNeg, fIsN, fNotN, isNone, fSum, fSumT, fInX, fIxX, fLenX, r1F, r2F, rgOk, compStep, wipeD, putB, keepD, startS, outsD, outD, mBody, mBodyO, sPar, yNil, yCons, xE, xO, setH, setHs, rdOk, List.set, bind_ite, atI_0, atI_1, atI_2, ixN_0, ixN_1, List.getElem?_cons_zero, eCallB, okL_1, okL_2, okL_3, okL_4, lentS, pinv, frzB, lendB, lent1, List.idxOf?, List.findIdx?, List.findIdx?.go, putS, putS1, oD1X, fEqXE, hg, h0, c1, hs', d1, c2, d2]
theorem e_pot {ns : List Int} {i : Int} (hn : ns.length ≤ 63) (i0 : 0 ≤ i) (i1 : i < 64) : ∃ p, m__law_pot [scrD ns, .int i] = some (p, [.none, .none]) ∧ PotN p := by
  have B0 : (0 : Int) < 10 ^ 900 := by decide +kernel
  have BL : ((10 : Int) ^ 900).natAbs < 2 ^ 4000 := by decide +kernel
  have hp : CPow 10 18 := by unfold CPow; decide
  have m1 : CMulW 7919 i := wide_of (by decide +kernel) (small_w i0 i1 (by decide +kernel))
  have m0 : CMulW 3 i := wide_of (by decide +kernel) (small_w i0 i1 (by decide +kernel))
  have i2 : 0 ≤ 7919 * i ∧ 7919 * i < 7919 * 64 := by omega
  have m2 : CMulW (7919 * i) i := wide_of (small_w i2.1 i2.2 (by decide +kernel)) (small_w i0 i1 (by decide +kernel))
  have i3 : 0 ≤ 7919 * i * i ∧ 7919 * i * i < 7919 * 64 * 64 := ⟨Int.mul_nonneg i2.1 i0, by
    have : 7919 * i * i ≤ 7919 * 63 * 63 := Int.mul_le_mul (by omega) (by omega) i0 (by decide)
    omega⟩
  -- the number that is drawn from
  obtain ⟨c, hc⟩ : ∃ c : Int, (if i < (ns.length : Int) then atI (ns.map PyData.int) i else some (.int (3 * i + ns.length))) = some (.int c) := by
    by_cases h : i < (ns.length : Int)
    · rw [if_pos h]
      obtain ⟨j, rfl⟩ : ∃ j : Nat, i = j := ⟨i.toNat, by omega⟩
      have hj : j < ns.length := by omega
      exact ⟨ns[j], atI_nat (by rw [List.getElem?_map, List.getElem?_eq_getElem hj]; rfl)⟩
    · rw [if_neg h]
      exact ⟨_, rfl⟩
  generalize hab : (if c < 0 then -c else c) = ac
  have a0 : 0 ≤ ac := by
    rw [← hab]
    split <;> omega
  generalize hd : (if (10 : Int) ^ 18 ≤ ac then (1 : Int) else 0) = d
  have d0 : d = 0 ∨ d = 1 := by
    rw [← hd]
    split
    · exact .inr rfl
    · exact .inl rfl
  have c0 := Int.emod_nonneg ac (Int.ne_of_gt B0)
  have c1 := Int.emod_lt_of_pos ac B0
  have hml : CMulW (ac % 10 ^ 900) d := wide_of (small_w c0 c1 BL) (by rcases d0 with rfl | rfl <;> decide +kernel)
  have hg : 0 ≤ ac % 10 ^ 900 * d ∧ ac % 10 ^ 900 * d < 10 ^ 900 := by
    rcases d0 with rfl | rfl
    · rw [Int.mul_zero]
      exact ⟨Int.le_refl _, B0⟩
    · rw [Int.mul_one]
      exact ⟨c0, c1⟩
  have j0 := Int.emod_nonneg c (show (2305843009213693951 : Int) ≠ 0 by decide)
  have j1 := Int.emod_lt_of_pos c (show (0 : Int) < 2305843009213693951 by decide)
  have m3 : CMulW (c % 2305843009213693951 + 7919 * i * i + 11) 48271 := wide_of (small_w (b := 2305843009213693951 + 7919 * 64 * 64 + 11) (by omega) (by omega) (by decide +kernel)) (by decide +kernel)
  have hd' : (if (1000000000000000000 : Int) ≤ ac then (1 : Int) else 0) = d := hd
  refine ⟨.list [.int (ac % 10 ^ 900 * d), .int ((c % 2305843009213693951 + 7919 * i * i + 11) * 48271 % 2305843009213693951)], ?_, _, _, rfl, hg.1, hg.2, Int.emod_nonneg _ (by decide), Int.emod_lt_of_pos _ (by decide)⟩
  by_cases h : i < (ns.length : Int)
  · rw [if_pos h] at hc
    simp [m__law_pot, sSeq, sAsg, sOwn, sIf, sRet, sRetO, sRetV, sRetN, sDrop, sNext, sCont, sBreak, sAug, sFor, sSetL, eVar, eC, e1, e2, eB, eTup, eO, oB, o2, oLst, oCall, oDict0X, oLc, oLc2, aNil, aCons, tV, tAnd', tOr', tNot', tT', tYesF, truth', truth, eIf, eAnd, eOr, eNot, eCh, eMt, eMt0, eCall, eIsi, isaD, typeD, isDct, eCntT, eGetX, sPutX, frzV, frzs, val, vals, slD, slDat, cont, setC, isListD, free_eq, isFr_no, isFr_dat, isFr_own, isFr_bor, gN, gT, partsD, iL, iT, iR1, iR2, iEnL, iEnT, iZLL, iZTT, iZTL, iKeysX, iValsX, iItemsX, fI0, fI, fPlus, fCatT, fAddS, fCatL, fRepT, fRepL, fIx, fLen, fAbs, fInt, fTup, fList, fAppend, fExtend, fPop, fPopAt, fMin2, fMax2, fNeg, fIsN, fNotN, isNone, fSum, fSumT, fInX, fIxX, fLenX, r1F, r2F, rgOk, compStep, wipeD, putB, keepD, startS, outsD, outD, mBody, mBodyO, sPar, yNil, yCons, xE, xO, setH, setHs, rdOk, List.set, bind_ite, atI_0, atI_1, atI_2, ixN_0, ixN_1, List.getElem?_cons_zero, eCallB, okL_1, okL_2, okL_3, okL_4, lentS, pinv, frzB, lendB, lent1, List.idxOf?, List.findIdx?, List.findIdx?.go, putS, putS1, oD1X, fEqXE, scrD, h, hc, m0, hab, hp, hml, m1, m2, m3]
    exact ⟨B0, by rw [hd']; exact hml, by rw [sizeLine_eq]; decide, by rw [hd']⟩
  · rw [if_neg h] at hc
    cases hc
    simp [m__law_pot, sSeq, sAsg, sOwn, sIf, sRet, sRetO, sRetV, sRetN, sDrop, sNext, sCont, sBreak, sAug, sFor, sSetL, eVar, eC, e1, e2, eB, eTup, eO, oB, o2, oLst, oCall, oDict0X, oLc, oLc2, aNil, aCons, tV, tAnd', tOr', tNot', tT', tYesF, truth', truth, eIf, eAnd, eOr, eNot, eCh, eMt, eMt0, eCall, eIsi, isaD, typeD, isDct, eCntT, eGetX, sPutX, frzV, frzs, val, vals, slD, slDat, cont, setC, isListD, free_eq, isFr_no, isFr_dat, isFr_own, isFr_bor, gN, gT, partsD, iL, iT, iR1, iR2, iEnL, iEnT, iZLL, iZTT, iZTL, iKeysX, iValsX, iItemsX, fI0, fI, fPlus, fCatT, fAddS, fCatL, fRepT, fRepL, fIx, fLen, fAbs, fInt, fTup, fList, fAppend, fExtend, fPop, fPopAt, fMin2, fMax2, fNeg, fIsN, fNotN, isNone, fSum, fSumT, fInX, fIxX, fLenX, r1F, r2F, rgOk, compStep, wipeD, putB, keepD, startS, outsD, outD, mBody, mBodyO, sPar, yNil, yCons, xE, xO, setH, setHs, rdOk, List.set, bind_ite, atI_0, atI_1, atI_2, ixN_0, ixN_1, List.getElem?_cons_zero, eCallB, okL_1, okL_2, okL_3, okL_4, lentS, pinv, frzB, lendB, lent1, List.idxOf?, List.findIdx?, List.findIdx?.go, putS, putS1, oD1X, fEqXE, scrD, h, m0, hab, hp, hml, m1, m2, m3]
    exact ⟨B0, by rw [hd']; exact hml, by rw [sizeLine_eq]; decide, by rw [hd']⟩
/-! ### a wisp that is drawn -/
structure WspOk (w : Wsp) : Prop where
  len : w.2.length ≤ 8
  ne : w.2 ≠ []
  pos : ∀ s ∈ w.2, 1 ≤ s.2
  sum : lenW w ≤ 8
theorem e_wispM {p : DT} {sc m : Int} (m1 : 1 ≤ m) (m8 : m ≤ 8) (hp : PotN p) (hs : sc.natAbs < 2 ^ 3000) : ∃ w p', m__law_wisp [p, .int m, .int sc] = some (wspD w, [p', .none, .none]) ∧ WspOk w ∧ PotN p' := by
  obtain ⟨r0, p0, h0, r00, r01, hp0⟩ := e_take hp (n := m) (by omega) (by omega)
  -- the walk
  have loop := while_all (c := tV (e2 fGt (eVar 3) (eC (.int 0)))) (b := sSeq (sAsg (e2 fPlus (eC (.int 1)) (eCallB [true, false] m__law_take (aCons (eVar 0) (aCons (eVar 3) aNil)))) (gN 6))
    (sSeq (sAsg (e2 fPlus (e2 fPlus (eVar 4) (eC (.int 1))) (eCallB [true, false] m__law_take (aCons (eVar 0) (aCons (eC (.int 3)) aNil)))) (gN 4))
    (sSeq (sAsg (e2 fPlus (eTup (aCons (eTup (aCons (e2 fMul (eVar 4) (eVar 2)) (aCons (eVar 6) aNil))) aNil)) (eVar 5)) (gN 5))
    (sAsg (e2 fSub (eVar 3) (eVar 6)) (gN 3)))))
    (fun n δ => ∃ p P S ss s6, δ = [.bor p, .dat (.int m), .dat (.int sc), .dat (.int P), .dat (.int S), .dat (.tuple (ss.map stepD)), s6] ∧ PotN p ∧ n = P.toNat ∧ 0 ≤ P ∧ (ss.map (·.2)).sum + P ≤ 8 ∧ (ss.length : Int) + P ≤ 8 ∧ 0 ≤ S ∧ S ≤ 3 * ss.length ∧ (∀ s ∈ ss, 1 ≤ s.2) ∧ (P = 0 → ss ≠ []) ∧ isFr s6 = true)
    (fun δ => ∃ p ss s3 s4 s6, δ = [.bor p, .dat (.int m), .dat (.int sc), s3, s4, .dat (.tuple (ss.map stepD)), s6] ∧ PotN p ∧ (ss.map (·.2)).sum ≤ 8 ∧ (ss.length : Int) ≤ 8 ∧ (∀ s ∈ ss, 1 ≤ s.2) ∧ ss ≠ [])
    (by
      rintro n δ ⟨p, P, S, ss, s6, rfl, hp, rfl, P0, h1, h2, S0, S1, hpos, hne, f6⟩
      by_cases hP : 0 < P
      · right
        obtain ⟨r1, p1, e1, r10, r11, hp1⟩ := e_take hp (n := P) hP (by omega)
        obtain ⟨r2, p2, e2', r20, r21, hp2⟩ := e_take hp1 (n := 3) (by decide) (by decide)
        have c1 : CMulW (S + 1 + r2) sc := wide_mul (a := 8) (b := 3000) (by have : (2:Nat) ^ 8 = 256 := rfl; omega) hs (by decide) (by decide) (by decide)
        have hl : 1 + ss.length ≤ sizeLine := by rw [sizeLine_eq]; omega
        refine ⟨_, _, (P - (1 + r1)).toNat, by simp [sSeq, sAsg, sOwn, sIf, sRet, sRetO, sRetV, sRetN, sDrop, sNext, sCont, sBreak, sAug, sFor, sSetL, eVar, eC, e1, e2, eB, eTup, eO, oB, o2, oLst, oCall, oDict0X, oLc, oLc2, aNil, aCons, tV, tAnd', tOr', tNot', tT', tYesF, truth', truth, eIf, eAnd, eOr, eNot, eCh, eMt, eMt0, eCall, eIsi, isaD, typeD, isDct, eCntT, eGetX, sPutX, frzV, frzs, val, vals, slD, slDat, cont, setC, isListD, free_eq, isFr_no, isFr_dat, isFr_own, isFr_bor, gN, gT, partsD, iL, iT, iR1, iR2, iEnL, iEnT, iZLL, iZTT, iZTL, iKeysX, iValsX, iItemsX, fI0, fI, fPlus, fCatT, fAddS, fCatL, fRepT, fRepL, fIx, fLen, fAbs, fInt, fTup, fList, fAppend, fExtend, fPop, fPopAt, fMin2, fMax2, fNeg, fIsN, fNotN, isNone, fSum, fSumT, fInX, fIxX, fLenX, r1F, r2F, rgOk, compStep, wipeD, putB, keepD, startS, outsD, outD, mBody, mBodyO, sPar, yNil, yCons, xE, xO, setH, setHs, rdOk, List.set, bind_ite, atI_0, atI_1, atI_2, ixN_0, ixN_1, List.getElem?_cons_zero, eCallB, okL_1, okL_2, okL_3, okL_4, lentS, pinv, frzB, lendB, lent1, List.idxOf?, List.findIdx?, List.findIdx?.go, putS, putS1, oD1X, fEqXE, hP]; rfl, ?_, by omega, p2, P - (1 + r1), S + 1 + r2, ((S + 1 + r2) * sc, 1 + r1) :: ss, .dat (.int (1 + r1)), rfl, hp2, rfl, by omega, ?_, ?_, by omega, ?_, ?_, fun _ => by simp, rfl⟩
        · simp [sSeq, sAsg, sOwn, sIf, sRet, sRetO, sRetV, sRetN, sDrop, sNext, sCont, sBreak, sAug, sFor, sSetL, eVar, eC, e1, e2, eB, eTup, eO, oB, o2, oLst, oCall, oDict0X, oLc, oLc2, aNil, aCons, tV, tAnd', tOr', tNot', tT', tYesF, truth', truth, eIf, eAnd, eOr, eNot, eCh, eMt, eMt0, eCall, eIsi, isaD, typeD, isDct, eCntT, eGetX, sPutX, frzV, frzs, val, vals, slD, slDat, cont, setC, isListD, free_eq, isFr_no, isFr_dat, isFr_own, isFr_bor, gN, gT, partsD, iL, iT, iR1, iR2, iEnL, iEnT, iZLL, iZTT, iZTL, iKeysX, iValsX, iItemsX, fI0, fI, fPlus, fCatT, fAddS, fCatL, fRepT, fRepL, fIx, fLen, fAbs, fInt, fTup, fList, fAppend, fExtend, fPop, fPopAt, fMin2, fMax2, fNeg, fIsN, fNotN, isNone, fSum, fSumT, fInX, fIxX, fLenX, r1F, r2F, rgOk, compStep, wipeD, putB, keepD, startS, outsD, outD, mBody, mBodyO, sPar, yNil, yCons, xE, xO, setH, setHs, rdOk, List.set, bind_ite, atI_0, atI_1, atI_2, ixN_0, ixN_1, List.getElem?_cons_zero, eCallB, okL_1, okL_2, okL_3, okL_4, lentS, pinv, frzB, lendB, lent1, List.idxOf?, List.findIdx?, List.findIdx?.go, putS, putS1, oD1X, fEqXE, e1, e2', c1, f6, sizeLine_eq, stepD]
          omega
        · simp
          omega
        · rw [List.length_cons]
          omega
        · rw [List.length_cons]
          omega
        · intro s hs
          rcases List.mem_cons.mp hs with rfl | hs
          · show (1 : Int) ≤ 1 + r1
            omega
          · exact hpos s hs
      · left
        have hP' : P = 0 := by omega
        subst hP'
        exact ⟨[.bor p, .dat (.int m), .dat (.int sc), .dat (.int 0), .dat (.int S), .dat (.tuple (ss.map stepD)), s6], by simp [sSeq, sAsg, sOwn, sIf, sRet, sRetO, sRetV, sRetN, sDrop, sNext, sCont, sBreak, sAug, sFor, sSetL, eVar, eC, e1, e2, eB, eTup, eO, oB, o2, oLst, oCall, oDict0X, oLc, oLc2, aNil, aCons, tV, tAnd', tOr', tNot', tT', tYesF, truth', truth, eIf, eAnd, eOr, eNot, eCh, eMt, eMt0, eCall, eIsi, isaD, typeD, isDct, eCntT, eGetX, sPutX, frzV, frzs, val, vals, slD, slDat, cont, setC, isListD, free_eq, isFr_no, isFr_dat, isFr_own, isFr_bor, gN, gT, partsD, iL, iT, iR1, iR2, iEnL, iEnT, iZLL, iZTT, iZTL, iKeysX, iValsX, iItemsX, fI0, fI, fPlus, fCatT, fAddS, fCatL, fRepT, fRepL, fIx, fLen, fAbs, fInt, fTup, fList, fAppend, fExtend, fPop, fPopAt, fMin2, fMax2, fNeg, fIsN, fNotN, isNone, fSum, fSumT, fInX, fIxX, fLenX, r1F, r2F, rgOk, compStep, wipeD, putB, keepD, startS, outsD, outD, mBody, mBodyO, sPar, yNil, yCons, xE, xO, setH, setHs, rdOk, List.set, bind_ite, atI_0, atI_1, atI_2, ixN_0, ixN_1, List.getElem?_cons_zero, eCallB, okL_1, okL_2, okL_3, okL_4, lentS, pinv, frzB, lendB, lent1, List.idxOf?, List.findIdx?, List.findIdx?.go, putS, putS1, oD1X, fEqXE], p, ss, _, _, _, rfl, hp, by simpa using h1, by simpa using h2, hpos, hne rfl⟩)
  obtain ⟨δ', e1, p1, ss, s3, s4, s6, rfl, hp1, q1, q2, q3, q4⟩ := loop (1 + r0).toNat [.bor p0, .dat (.int m), .dat (.int sc), .dat (.int (1 + r0)), .dat (.int 0), .dat (.tuple (([] : List (Int × Int)).map stepD)), .no] ⟨p0, 1 + r0, 0, [], .no, rfl, hp0, rfl, by omega, by simp; omega, by simp; omega, by decide, by simp, fun s h => (by cases h), fun z => (by omega), rfl⟩
  obtain ⟨r2, p2, h2, r20, r21, hp2⟩ := e_take hp1 (n := 2) (by decide) (by decide)
  refine ⟨(r2, ss), p2, ?_, ⟨by show ss.length ≤ 8; omega, q4, q3, q1⟩, hp2⟩
  simp [m__law_wisp, sSeq, sAsg, sOwn, sIf, sRet, sRetO, sRetV, sRetN, sDrop, sNext, sCont, sBreak, sAug, sFor, sSetL, eVar, eC, e1, e2, eB, eTup, eO, oB, o2, oLst, oCall, oDict0X, oLc, oLc2, aNil, aCons, tV, tAnd', tOr', tNot', tT', tYesF, truth', truth, eIf, eAnd, eOr, eNot, eCh, eMt, eMt0, eCall, eIsi, isaD, typeD, isDct, eCntT, eGetX, sPutX, frzV, frzs, val, vals, slD, slDat, cont, setC, isListD, free_eq, isFr_no, isFr_dat, isFr_own, isFr_bor, gN, gT, partsD, iL, iT, iR1, iR2, iEnL, iEnT, iZLL, iZTT, iZTL, iKeysX, iValsX, iItemsX, fI0, fI, fPlus, fCatT, fAddS, fCatL, fRepT, fRepL, fIx, fLen, fAbs, fInt, fTup, fList, fAppend, fExtend, fPop, fPopAt, fMin2, fMax2, fNeg, fIsN, fNotN, isNone, fSum, fSumT, fInX, fIxX, fLenX, r1F, r2F, rgOk, compStep, wipeD, putB, keepD, startS, outsD, outD, mBody, mBodyO, sPar, yNil, yCons, xE, xO, setH, setHs, rdOk, List.set, bind_ite, atI_0, atI_1, atI_2, ixN_0, ixN_1, List.getElem?_cons_zero, eCallB, okL_1, okL_2, okL_3, okL_4, lentS, pinv, frzB, lendB, lent1, List.idxOf?, List.findIdx?, List.findIdx?.go, putS, putS1, oD1X, fEqXE, h0, sizeLine_eq] at e1 ⊢
  simp [sSeq, sAsg, sOwn, sIf, sRet, sRetO, sRetV, sRetN, sDrop, sNext, sCont, sBreak, sAug, sFor, sSetL, eVar, eC, e1, e2, eB, eTup, eO, oB, o2, oLst, oCall, oDict0X, oLc, oLc2, aNil, aCons, tV, tAnd', tOr', tNot', tT', tYesF, truth', truth, eIf, eAnd, eOr, eNot, eCh, eMt, eMt0, eCall, eIsi, isaD, typeD, isDct, eCntT, eGetX, sPutX, frzV, frzs, val, vals, slD, slDat, cont, setC, isListD, free_eq, isFr_no, isFr_dat, isFr_own, isFr_bor, gN, gT, partsD, iL, iT, iR1, iR2, iEnL, iEnT, iZLL, iZTT, iZTL, iKeysX, iValsX, iItemsX, fI0, fI, fPlus, fCatT, fAddS, fCatL, fRepT, fRepL, fIx, fLen, fAbs, fInt, fTup, fList, fAppend, fExtend, fPop, fPopAt, fMin2, fMax2, fNeg, fIsN, fNotN, isNone, fSum, fSumT, fInX, fIxX, fLenX, r1F, r2F, rgOk, compStep, wipeD, putB, keepD, startS, outsD, outD, mBody, mBodyO, sPar, yNil, yCons, xE, xO, setH, setHs, rdOk, List.set, bind_ite, atI_0, atI_1, atI_2, ixN_0, ixN_1, List.getElem?_cons_zero, eCallB, okL_1, okL_2, okL_3, okL_4, lentS, pinv, frzB, lendB, lent1, List.idxOf?, List.findIdx?, List.findIdx?.go, putS, putS1, oD1X, fEqXE, e1, h2, sizeLine_eq, wspD]
theorem e_wisp {p : DT} {sc : Int} (hp : PotN p) (hs : sc.natAbs < 2 ^ 3000) : ∃ w p', m__law_wisp [p, .int 8, .int sc] = some (wspD w, [p', .none, .none]) ∧ WspOk w ∧ PotN p' := e_wispM (by decide) (by decide) hp hs
/-! ### a basket and a frame that are drawn -/
def optD : Option Int → DT
  | none => .none
  | some i => .int i
abbrev Kd := Wsp × Option Int
def kindD (k : Kd) : DT := .tuple [wspD k.1, optD k.2]
def bskD (b : List Kd) : DT := .tuple (b.map kindD)
def frD (f : Int × Int × Int) : DT := .tuple [.int f.1, .int f.2.1, .int f.2.2]
def ManyOk (m : Option Int) : Prop := ∀ i, m = some i → 0 ≤ i ∧ i ≤ 9
structure BskOk (b : List Kd) : Prop where
  ne : 1 ≤ b.length
  len : b.length ≤ 4
  ok : ∀ k ∈ b, WspOk k.1 ∧ ManyOk k.2
theorem pick3 {α : Type} (x y z : α) {r : Int} (h0 : 0 ≤ r) (h1 : r < 3) : ∃ v, atI [x, y, z] r = some v ∧ (v = x ∨ v = y ∨ v = z) := by
  have : r = 0 ∨ r = 1 ∨ r = 2 := by omega
  rcases this with rfl | rfl | rfl
  · exact ⟨x, rfl, .inl rfl⟩
  · exact ⟨y, rfl, .inr (.inl rfl)⟩
  · exact ⟨z, rfl, .inr (.inr rfl)⟩
theorem pick2 {α : Type} (x y : α) {r : Int} (h0 : 0 ≤ r) (h1 : r < 2) : ∃ v, atI [x, y] r = some v ∧ (v = x ∨ v = y) := by
  have : r = 0 ∨ r = 1 := by omega
  rcases this with rfl | rfl
  · exact ⟨x, rfl, .inl rfl⟩
  · exact ⟨y, rfl, .inr rfl⟩
theorem e_kinds {p : DT} {hd sc mk pl : Int} (pl1 : 1 ≤ pl) (pl8 : pl ≤ 8) (hp : PotN p) (hs : sc.natAbs < 2 ^ 3000) (m1 : 1 ≤ mk) (m4 : mk ≤ 4) : ∃ (p' : DT) (ks : List Kd) (s5 s6 : Sl), sFor (iR1 (aCons (eVar 3) aNil)) (gN 6)
    (sSeq (sAsg (e2 fIx (eO (oLst (aCons (eC .none) (aCons (eCallB [true, false] m__law_take (aCons (eVar 0) (aCons (eC (.int 3)) aNil))) (aCons (e2 fPlus (eC (.int 1)) (eCallB [true, false] m__law_take (aCons (eVar 0) (aCons (eC (.int 9)) aNil)))) aNil))))) (eCallB [true, false] m__law_take (aCons (eVar 0) (aCons (eC (.int 3)) aNil)))) (gN 7))
    (sDrop (eMt isListD 5 fAppend (aCons (eTup (aCons (eCallB [true, false, false] m__law_wisp (aCons (eVar 0) (aCons (eVar 4) (aCons (eVar 2) aNil)))) (aCons (eVar 7) aNil))) aNil)))) [.bor p, .dat (.int hd), .dat (.int sc), .dat (.int mk), .dat (.int pl), .own (.list []), .no, .no, .no, .no]
    = some (.nx [.bor p', .dat (.int hd), .dat (.int sc), .dat (.int mk), .dat (.int pl), .own (.list (ks.map kindD)), s5, s6, .no, .no]) ∧ PotN p' ∧ (ks.length : Int) = mk ∧ (∀ k ∈ ks, WspOk k.1 ∧ ManyOk k.2) ∧ isFr s5 = true ∧ isFr s6 = true := by
  have loop := loop_all (enc := fun i : Nat => PyData.int (i : Int)) (g := gN 6) (b := sSeq (sAsg (e2 fIx (eO (oLst (aCons (eC .none) (aCons (eCallB [true, false] m__law_take (aCons (eVar 0) (aCons (eC (.int 3)) aNil))) (aCons (e2 fPlus (eC (.int 1)) (eCallB [true, false] m__law_take (aCons (eVar 0) (aCons (eC (.int 9)) aNil)))) aNil))))) (eCallB [true, false] m__law_take (aCons (eVar 0) (aCons (eC (.int 3)) aNil)))) (gN 7))
    (sDrop (eMt isListD 5 fAppend (aCons (eTup (aCons (eCallB [true, false, false] m__law_wisp (aCons (eVar 0) (aCons (eVar 4) (aCons (eVar 2) aNil)))) (aCons (eVar 7) aNil))) aNil)))) (List.range mk.toNat)
    (fun r δ => ∃ (p' : DT) (ks : List Kd) (s5 s6 : Sl), δ = [.bor p', .dat (.int hd), .dat (.int sc), .dat (.int mk), .dat (.int pl), .own (.list (ks.map kindD)), s5, s6, .no, .no] ∧ PotN p' ∧ ((ks.length + r.length : Nat) : Int) = mk ∧ (∀ k ∈ ks, WspOk k.1 ∧ ManyOk k.2) ∧ isFr s5 = true ∧ isFr s6 = true)
    [.bor p, .dat (.int hd), .dat (.int sc), .dat (.int mk), .dat (.int pl), .own (.list []), .no, .no, .no, .no]
    (by
      rintro x r δ ⟨p', ks, s5, s6, rfl, hp', hl, hk, f5, f6⟩
      obtain ⟨r1, p1, h1, r10, r11, hp1⟩ := e_take hp' (n := 3) (by decide) (by decide)
      obtain ⟨r2, p2, h2, r20, r21, hp2⟩ := e_take hp1 (n := 9) (by decide) (by decide)
      obtain ⟨r3, p3, h3, r30, r31, hp3⟩ := e_take hp2 (n := 3) (by decide) (by decide)
      obtain ⟨v, hv, hv'⟩ := pick3 PyData.none (.int r1) (.int (1 + r2)) r30 r31
      obtain ⟨w, p4, h4, hw, hp4⟩ := e_wispM pl1 pl8 hp3 hs
      obtain ⟨m, rfl, hm⟩ : ∃ m, v = optD m ∧ ManyOk m := by
        rcases hv' with rfl | rfl | rfl
        · exact ⟨none, rfl, fun i e => by cases e⟩
        · exact ⟨some r1, rfl, fun i e => by cases e; omega⟩
        · exact ⟨some (1 + r2), rfl, fun i e => by cases e; omega⟩
      rw [List.length_cons] at hl
      refine ⟨_, ?_, p4, ks ++ [(w, m)], .dat (.int (x : Int)), .dat (optD m), rfl, hp4, ?_, ?_, rfl, rfl⟩
      · simp [sSeq, sAsg, sOwn, sIf, sRet, sRetO, sRetV, sRetN, sDrop, sNext, sCont, sBreak, sAug, sFor, sSetL, eVar, eC, e1, e2, eB, eTup, eO, oB, o2, oLst, oCall, oDict0X, oLc, oLc2, aNil, aCons, tV, tAnd', tOr', tNot', tT', tYesF, truth', truth, eIf, eAnd, eOr, eNot, eCh, eMt, eMt0, eCall, eIsi, isaD, typeD, isDct, eCntT, eGetX, sPutX, frzV, frzs, val, vals, slD, slDat, cont, setC, isListD, free_eq, isFr_no, isFr_dat, isFr_own, isFr_bor, gN, gT, partsD, iL, iT, iR1, iR2, iEnL, iEnT, iZLL, iZTT, iZTL, iKeysX, iValsX, iItemsX, fI0, fI, fPlus, fCatT, fAddS, fCatL, fRepT, fRepL, fIx, fLen, fAbs, fInt, fTup, fList, fAppend, fExtend, fPop, fPopAt, fMin2, fMax2, fNeg, fIsN, fNotN, isNone, fSum, fSumT, fInX, fIxX, fLenX, r1F, r2F, rgOk, compStep, wipeD, putB, keepD, startS, outsD, outD, mBody, mBodyO, sPar, yNil, yCons, xE, xO, setH, setHs, rdOk, List.set, bind_ite, atI_0, atI_1, atI_2, ixN_0, ixN_1, List.getElem?_cons_zero, eCallB, okL_1, okL_2, okL_3, okL_4, lentS, pinv, frzB, lendB, lent1, List.idxOf?, List.findIdx?, List.findIdx?.go, putS, putS1, oD1X, fEqXE, h1, h2, h3, hv, h4, f5, f6, sizeLine_eq, kindD]
        omega
      · rw [List.length_append, List.length_singleton]
        omega
      · intro k hk'
        rcases List.mem_append.mp hk' with hk' | hk'
        · exact hk k hk'
        · cases List.mem_singleton.mp hk'
          exact ⟨hw, hm⟩)
    ⟨p, [], .no, .no, rfl, hp, by simp; omega, fun k h => (by cases h), rfl, rfl⟩
  obtain ⟨δ', e, p', ks, s5, s6, rfl, hp', hl, hk, f5, f6⟩ := loop
  refine ⟨p', ks, s5, s6, ?_, hp', by simpa using hl, hk, f5, f6⟩
  rw [walk_range (r := .d (.int mk)) (n := mk) (by simp [sSeq, sAsg, sOwn, sIf, sRet, sRetO, sRetV, sRetN, sDrop, sNext, sCont, sBreak, sAug, sFor, sSetL, eVar, eC, e1, e2, eB, eTup, eO, oB, o2, oLst, oCall, oDict0X, oLc, oLc2, aNil, aCons, tV, tAnd', tOr', tNot', tT', tYesF, truth', truth, eIf, eAnd, eOr, eNot, eCh, eMt, eMt0, eCall, eIsi, isaD, typeD, isDct, eCntT, eGetX, sPutX, frzV, frzs, val, vals, slD, slDat, cont, setC, isListD, free_eq, isFr_no, isFr_dat, isFr_own, isFr_bor, gN, gT, partsD, iL, iT, iR1, iR2, iEnL, iEnT, iZLL, iZTT, iZTL, iKeysX, iValsX, iItemsX, fI0, fI, fPlus, fCatT, fAddS, fCatL, fRepT, fRepL, fIx, fLen, fAbs, fInt, fTup, fList, fAppend, fExtend, fPop, fPopAt, fMin2, fMax2, fNeg, fIsN, fNotN, isNone, fSum, fSumT, fInX, fIxX, fLenX, r1F, r2F, rgOk, compStep, wipeD, putB, keepD, startS, outsD, outD, mBody, mBodyO, sPar, yNil, yCons, xE, xO, setH, setHs, rdOk, List.set, bind_ite, atI_0, atI_1, atI_2, ixN_0, ixN_1, List.getElem?_cons_zero, eCallB, okL_1, okL_2, okL_3, okL_4, lentS, pinv, frzB, lendB, lent1, List.idxOf?, List.findIdx?, List.findIdx?.go, putS, putS1, oD1X, fEqXE]; rfl) rfl (by omega) (by omega)]
  exact e
theorem e_place {p : DT} {sc r1 r3 : Int} (a0 : 0 ≤ r1) (a1 : r1 < 3) (b0 : 0 ≤ r3) (b1 : r3 < 4) : ∃ pl : Int, 1 ≤ pl ∧ pl ≤ 8 ∧ (sPar [4, 5] (yCons (xE (e2 fIx (e2 fIx (eO (oLst (aCons (eO (oLst (aCons (eC (.int 8)) (aCons (eC (.int 8)) (aCons (eC (.int 8)) (aCons (eC (.int 8)) aNil)))))) (aCons (eO (oLst (aCons (eC (.int 8)) (aCons (eC (.int 5)) (aCons (eC (.int 3)) (aCons (eC (.int 3)) aNil)))))) (aCons (eO (oLst (aCons (eC (.int 6)) (aCons (eC (.int 4)) (aCons (eC (.int 3)) (aCons (eC (.int 2)) aNil)))))) aNil))))) (e2 fSub (eVar 1) (eC (.int 1)))) (e2 fSub (eVar 3) (eC (.int 1))))) (yCons (xO (oLst aNil)) yNil))) [.bor p, .dat (.int (1 + r1)), .dat (.int sc), .dat (.int (1 + r3)), .no, .no, .no, .no, .no, .no] = some (.nx [.bor p, .dat (.int (1 + r1)), .dat (.int sc), .dat (.int (1 + r3)), .dat (.int pl), .own (.list []), .no, .no, .no, .no]) := by
  have h1 : r1 = 0 ∨ r1 = 1 ∨ r1 = 2 := by omega
  have h3 : r3 = 0 ∨ r3 = 1 ∨ r3 = 2 ∨ r3 = 3 := by omega
  have a3 : ∀ (a b c d : PyData), atI [a, b, c, d] 3 = some d := fun a b c d => atI_nat (j := 3) rfl
  rcases h1 with rfl | rfl | rfl <;> rcases h3 with rfl | rfl | rfl | rfl
  · exact ⟨8, by decide, by decide, by simp [sSeq, sAsg, sOwn, sIf, sRet, sRetO, sRetV, sRetN, sDrop, sNext, sCont, sBreak, sAug, sFor, sSetL, eVar, eC, e1, e2, eB, eTup, eO, oB, o2, oLst, oCall, oDict0X, oLc, oLc2, aNil, aCons, tV, tAnd', tOr', tNot', tT', tYesF, truth', truth, eIf, eAnd, eOr, eNot, eCh, eMt, eMt0, eCall, eIsi, isaD, typeD, isDct, eCntT, eGetX, sPutX, frzV, frzs, val, vals, slD, slDat, cont, setC, isListD, free_eq, isFr_no, isFr_dat, isFr_own, isFr_bor, gN, gT, partsD, iL, iT, iR1, iR2, iEnL, iEnT, iZLL, iZTT, iZTL, iKeysX, iValsX, iItemsX, fI0, fI, fPlus, fCatT, fAddS, fCatL, fRepT, fRepL, fIx, fLen, fAbs, fInt, fTup, fList, fAppend, fExtend, fPop, fPopAt, fMin2, fMax2, fNeg, fIsN, fNotN, isNone, fSum, fSumT, fInX, fIxX, fLenX, r1F, r2F, rgOk, compStep, wipeD, putB, keepD, startS, outsD, outD, mBody, mBodyO, sPar, yNil, yCons, xE, xO, setH, setHs, rdOk, List.set, bind_ite, atI_0, atI_1, atI_2, ixN_0, ixN_1, List.getElem?_cons_zero, eCallB, okL_1, okL_2, okL_3, okL_4, lentS, pinv, frzB, lendB, lent1, List.idxOf?, List.findIdx?, List.findIdx?.go, putS, putS1, oD1X, fEqXE, sizeLine_eq, a3]⟩
  · exact ⟨8, by decide, by decide, by simp [sSeq, sAsg, sOwn, sIf, sRet, sRetO, sRetV, sRetN, sDrop, sNext, sCont, sBreak, sAug, sFor, sSetL, eVar, eC, e1, e2, eB, eTup, eO, oB, o2, oLst, oCall, oDict0X, oLc, oLc2, aNil, aCons, tV, tAnd', tOr', tNot', tT', tYesF, truth', truth, eIf, eAnd, eOr, eNot, eCh, eMt, eMt0, eCall, eIsi, isaD, typeD, isDct, eCntT, eGetX, sPutX, frzV, frzs, val, vals, slD, slDat, cont, setC, isListD, free_eq, isFr_no, isFr_dat, isFr_own, isFr_bor, gN, gT, partsD, iL, iT, iR1, iR2, iEnL, iEnT, iZLL, iZTT, iZTL, iKeysX, iValsX, iItemsX, fI0, fI, fPlus, fCatT, fAddS, fCatL, fRepT, fRepL, fIx, fLen, fAbs, fInt, fTup, fList, fAppend, fExtend, fPop, fPopAt, fMin2, fMax2, fNeg, fIsN, fNotN, isNone, fSum, fSumT, fInX, fIxX, fLenX, r1F, r2F, rgOk, compStep, wipeD, putB, keepD, startS, outsD, outD, mBody, mBodyO, sPar, yNil, yCons, xE, xO, setH, setHs, rdOk, List.set, bind_ite, atI_0, atI_1, atI_2, ixN_0, ixN_1, List.getElem?_cons_zero, eCallB, okL_1, okL_2, okL_3, okL_4, lentS, pinv, frzB, lendB, lent1, List.idxOf?, List.findIdx?, List.findIdx?.go, putS, putS1, oD1X, fEqXE, sizeLine_eq, a3]⟩
  · exact ⟨8, by decide, by decide, by simp [sSeq, sAsg, sOwn, sIf, sRet, sRetO, sRetV, sRetN, sDrop, sNext, sCont, sBreak, sAug, sFor, sSetL, eVar, eC, e1, e2, eB, eTup, eO, oB, o2, oLst, oCall, oDict0X, oLc, oLc2, aNil, aCons, tV, tAnd', tOr', tNot', tT', tYesF, truth', truth, eIf, eAnd, eOr, eNot, eCh, eMt, eMt0, eCall, eIsi, isaD, typeD, isDct, eCntT, eGetX, sPutX, frzV, frzs, val, vals, slD, slDat, cont, setC, isListD, free_eq, isFr_no, isFr_dat, isFr_own, isFr_bor, gN, gT, partsD, iL, iT, iR1, iR2, iEnL, iEnT, iZLL, iZTT, iZTL, iKeysX, iValsX, iItemsX, fI0, fI, fPlus, fCatT, fAddS, fCatL, fRepT, fRepL, fIx, fLen, fAbs, fInt, fTup, fList, fAppend, fExtend, fPop, fPopAt, fMin2, fMax2, fNeg, fIsN, fNotN, isNone, fSum, fSumT, fInX, fIxX, fLenX, r1F, r2F, rgOk, compStep, wipeD, putB, keepD, startS, outsD, outD, mBody, mBodyO, sPar, yNil, yCons, xE, xO, setH, setHs, rdOk, List.set, bind_ite, atI_0, atI_1, atI_2, ixN_0, ixN_1, List.getElem?_cons_zero, eCallB, okL_1, okL_2, okL_3, okL_4, lentS, pinv, frzB, lendB, lent1, List.idxOf?, List.findIdx?, List.findIdx?.go, putS, putS1, oD1X, fEqXE, sizeLine_eq, a3]⟩
  · exact ⟨8, by decide, by decide, by simp [sSeq, sAsg, sOwn, sIf, sRet, sRetO, sRetV, sRetN, sDrop, sNext, sCont, sBreak, sAug, sFor, sSetL, eVar, eC, e1, e2, eB, eTup, eO, oB, o2, oLst, oCall, oDict0X, oLc, oLc2, aNil, aCons, tV, tAnd', tOr', tNot', tT', tYesF, truth', truth, eIf, eAnd, eOr, eNot, eCh, eMt, eMt0, eCall, eIsi, isaD, typeD, isDct, eCntT, eGetX, sPutX, frzV, frzs, val, vals, slD, slDat, cont, setC, isListD, free_eq, isFr_no, isFr_dat, isFr_own, isFr_bor, gN, gT, partsD, iL, iT, iR1, iR2, iEnL, iEnT, iZLL, iZTT, iZTL, iKeysX, iValsX, iItemsX, fI0, fI, fPlus, fCatT, fAddS, fCatL, fRepT, fRepL, fIx, fLen, fAbs, fInt, fTup, fList, fAppend, fExtend, fPop, fPopAt, fMin2, fMax2, fNeg, fIsN, fNotN, isNone, fSum, fSumT, fInX, fIxX, fLenX, r1F, r2F, rgOk, compStep, wipeD, putB, keepD, startS, outsD, outD, mBody, mBodyO, sPar, yNil, yCons, xE, xO, setH, setHs, rdOk, List.set, bind_ite, atI_0, atI_1, atI_2, ixN_0, ixN_1, List.getElem?_cons_zero, eCallB, okL_1, okL_2, okL_3, okL_4, lentS, pinv, frzB, lendB, lent1, List.idxOf?, List.findIdx?, List.findIdx?.go, putS, putS1, oD1X, fEqXE, sizeLine_eq, a3]⟩
  · exact ⟨8, by decide, by decide, by simp [sSeq, sAsg, sOwn, sIf, sRet, sRetO, sRetV, sRetN, sDrop, sNext, sCont, sBreak, sAug, sFor, sSetL, eVar, eC, e1, e2, eB, eTup, eO, oB, o2, oLst, oCall, oDict0X, oLc, oLc2, aNil, aCons, tV, tAnd', tOr', tNot', tT', tYesF, truth', truth, eIf, eAnd, eOr, eNot, eCh, eMt, eMt0, eCall, eIsi, isaD, typeD, isDct, eCntT, eGetX, sPutX, frzV, frzs, val, vals, slD, slDat, cont, setC, isListD, free_eq, isFr_no, isFr_dat, isFr_own, isFr_bor, gN, gT, partsD, iL, iT, iR1, iR2, iEnL, iEnT, iZLL, iZTT, iZTL, iKeysX, iValsX, iItemsX, fI0, fI, fPlus, fCatT, fAddS, fCatL, fRepT, fRepL, fIx, fLen, fAbs, fInt, fTup, fList, fAppend, fExtend, fPop, fPopAt, fMin2, fMax2, fNeg, fIsN, fNotN, isNone, fSum, fSumT, fInX, fIxX, fLenX, r1F, r2F, rgOk, compStep, wipeD, putB, keepD, startS, outsD, outD, mBody, mBodyO, sPar, yNil, yCons, xE, xO, setH, setHs, rdOk, List.set, bind_ite, atI_0, atI_1, atI_2, ixN_0, ixN_1, List.getElem?_cons_zero, eCallB, okL_1, okL_2, okL_3, okL_4, lentS, pinv, frzB, lendB, lent1, List.idxOf?, List.findIdx?, List.findIdx?.go, putS, putS1, oD1X, fEqXE, sizeLine_eq, a3]⟩
  · exact ⟨5, by decide, by decide, by simp [sSeq, sAsg, sOwn, sIf, sRet, sRetO, sRetV, sRetN, sDrop, sNext, sCont, sBreak, sAug, sFor, sSetL, eVar, eC, e1, e2, eB, eTup, eO, oB, o2, oLst, oCall, oDict0X, oLc, oLc2, aNil, aCons, tV, tAnd', tOr', tNot', tT', tYesF, truth', truth, eIf, eAnd, eOr, eNot, eCh, eMt, eMt0, eCall, eIsi, isaD, typeD, isDct, eCntT, eGetX, sPutX, frzV, frzs, val, vals, slD, slDat, cont, setC, isListD, free_eq, isFr_no, isFr_dat, isFr_own, isFr_bor, gN, gT, partsD, iL, iT, iR1, iR2, iEnL, iEnT, iZLL, iZTT, iZTL, iKeysX, iValsX, iItemsX, fI0, fI, fPlus, fCatT, fAddS, fCatL, fRepT, fRepL, fIx, fLen, fAbs, fInt, fTup, fList, fAppend, fExtend, fPop, fPopAt, fMin2, fMax2, fNeg, fIsN, fNotN, isNone, fSum, fSumT, fInX, fIxX, fLenX, r1F, r2F, rgOk, compStep, wipeD, putB, keepD, startS, outsD, outD, mBody, mBodyO, sPar, yNil, yCons, xE, xO, setH, setHs, rdOk, List.set, bind_ite, atI_0, atI_1, atI_2, ixN_0, ixN_1, List.getElem?_cons_zero, eCallB, okL_1, okL_2, okL_3, okL_4, lentS, pinv, frzB, lendB, lent1, List.idxOf?, List.findIdx?, List.findIdx?.go, putS, putS1, oD1X, fEqXE, sizeLine_eq, a3]⟩
  · exact ⟨3, by decide, by decide, by simp [sSeq, sAsg, sOwn, sIf, sRet, sRetO, sRetV, sRetN, sDrop, sNext, sCont, sBreak, sAug, sFor, sSetL, eVar, eC, e1, e2, eB, eTup, eO, oB, o2, oLst, oCall, oDict0X, oLc, oLc2, aNil, aCons, tV, tAnd', tOr', tNot', tT', tYesF, truth', truth, eIf, eAnd, eOr, eNot, eCh, eMt, eMt0, eCall, eIsi, isaD, typeD, isDct, eCntT, eGetX, sPutX, frzV, frzs, val, vals, slD, slDat, cont, setC, isListD, free_eq, isFr_no, isFr_dat, isFr_own, isFr_bor, gN, gT, partsD, iL, iT, iR1, iR2, iEnL, iEnT, iZLL, iZTT, iZTL, iKeysX, iValsX, iItemsX, fI0, fI, fPlus, fCatT, fAddS, fCatL, fRepT, fRepL, fIx, fLen, fAbs, fInt, fTup, fList, fAppend, fExtend, fPop, fPopAt, fMin2, fMax2, fNeg, fIsN, fNotN, isNone, fSum, fSumT, fInX, fIxX, fLenX, r1F, r2F, rgOk, compStep, wipeD, putB, keepD, startS, outsD, outD, mBody, mBodyO, sPar, yNil, yCons, xE, xO, setH, setHs, rdOk, List.set, bind_ite, atI_0, atI_1, atI_2, ixN_0, ixN_1, List.getElem?_cons_zero, eCallB, okL_1, okL_2, okL_3, okL_4, lentS, pinv, frzB, lendB, lent1, List.idxOf?, List.findIdx?, List.findIdx?.go, putS, putS1, oD1X, fEqXE, sizeLine_eq, a3]⟩
  · exact ⟨3, by decide, by decide, by simp [sSeq, sAsg, sOwn, sIf, sRet, sRetO, sRetV, sRetN, sDrop, sNext, sCont, sBreak, sAug, sFor, sSetL, eVar, eC, e1, e2, eB, eTup, eO, oB, o2, oLst, oCall, oDict0X, oLc, oLc2, aNil, aCons, tV, tAnd', tOr', tNot', tT', tYesF, truth', truth, eIf, eAnd, eOr, eNot, eCh, eMt, eMt0, eCall, eIsi, isaD, typeD, isDct, eCntT, eGetX, sPutX, frzV, frzs, val, vals, slD, slDat, cont, setC, isListD, free_eq, isFr_no, isFr_dat, isFr_own, isFr_bor, gN, gT, partsD, iL, iT, iR1, iR2, iEnL, iEnT, iZLL, iZTT, iZTL, iKeysX, iValsX, iItemsX, fI0, fI, fPlus, fCatT, fAddS, fCatL, fRepT, fRepL, fIx, fLen, fAbs, fInt, fTup, fList, fAppend, fExtend, fPop, fPopAt, fMin2, fMax2, fNeg, fIsN, fNotN, isNone, fSum, fSumT, fInX, fIxX, fLenX, r1F, r2F, rgOk, compStep, wipeD, putB, keepD, startS, outsD, outD, mBody, mBodyO, sPar, yNil, yCons, xE, xO, setH, setHs, rdOk, List.set, bind_ite, atI_0, atI_1, atI_2, ixN_0, ixN_1, List.getElem?_cons_zero, eCallB, okL_1, okL_2, okL_3, okL_4, lentS, pinv, frzB, lendB, lent1, List.idxOf?, List.findIdx?, List.findIdx?.go, putS, putS1, oD1X, fEqXE, sizeLine_eq, a3]⟩
  · exact ⟨6, by decide, by decide, by simp [sSeq, sAsg, sOwn, sIf, sRet, sRetO, sRetV, sRetN, sDrop, sNext, sCont, sBreak, sAug, sFor, sSetL, eVar, eC, e1, e2, eB, eTup, eO, oB, o2, oLst, oCall, oDict0X, oLc, oLc2, aNil, aCons, tV, tAnd', tOr', tNot', tT', tYesF, truth', truth, eIf, eAnd, eOr, eNot, eCh, eMt, eMt0, eCall, eIsi, isaD, typeD, isDct, eCntT, eGetX, sPutX, frzV, frzs, val, vals, slD, slDat, cont, setC, isListD, free_eq, isFr_no, isFr_dat, isFr_own, isFr_bor, gN, gT, partsD, iL, iT, iR1, iR2, iEnL, iEnT, iZLL, iZTT, iZTL, iKeysX, iValsX, iItemsX, fI0, fI, fPlus, fCatT, fAddS, fCatL, fRepT, fRepL, fIx, fLen, fAbs, fInt, fTup, fList, fAppend, fExtend, fPop, fPopAt, fMin2, fMax2, fNeg, fIsN, fNotN, isNone, fSum, fSumT, fInX, fIxX, fLenX, r1F, r2F, rgOk, compStep, wipeD, putB, keepD, startS, outsD, outD, mBody, mBodyO, sPar, yNil, yCons, xE, xO, setH, setHs, rdOk, List.set, bind_ite, atI_0, atI_1, atI_2, ixN_0, ixN_1, List.getElem?_cons_zero, eCallB, okL_1, okL_2, okL_3, okL_4, lentS, pinv, frzB, lendB, lent1, List.idxOf?, List.findIdx?, List.findIdx?.go, putS, putS1, oD1X, fEqXE, sizeLine_eq, a3]⟩
  · exact ⟨4, by decide, by decide, by simp [sSeq, sAsg, sOwn, sIf, sRet, sRetO, sRetV, sRetN, sDrop, sNext, sCont, sBreak, sAug, sFor, sSetL, eVar, eC, e1, e2, eB, eTup, eO, oB, o2, oLst, oCall, oDict0X, oLc, oLc2, aNil, aCons, tV, tAnd', tOr', tNot', tT', tYesF, truth', truth, eIf, eAnd, eOr, eNot, eCh, eMt, eMt0, eCall, eIsi, isaD, typeD, isDct, eCntT, eGetX, sPutX, frzV, frzs, val, vals, slD, slDat, cont, setC, isListD, free_eq, isFr_no, isFr_dat, isFr_own, isFr_bor, gN, gT, partsD, iL, iT, iR1, iR2, iEnL, iEnT, iZLL, iZTT, iZTL, iKeysX, iValsX, iItemsX, fI0, fI, fPlus, fCatT, fAddS, fCatL, fRepT, fRepL, fIx, fLen, fAbs, fInt, fTup, fList, fAppend, fExtend, fPop, fPopAt, fMin2, fMax2, fNeg, fIsN, fNotN, isNone, fSum, fSumT, fInX, fIxX, fLenX, r1F, r2F, rgOk, compStep, wipeD, putB, keepD, startS, outsD, outD, mBody, mBodyO, sPar, yNil, yCons, xE, xO, setH, setHs, rdOk, List.set, bind_ite, atI_0, atI_1, atI_2, ixN_0, ixN_1, List.getElem?_cons_zero, eCallB, okL_1, okL_2, okL_3, okL_4, lentS, pinv, frzB, lendB, lent1, List.idxOf?, List.findIdx?, List.findIdx?.go, putS, putS1, oD1X, fEqXE, sizeLine_eq, a3]⟩
  · exact ⟨3, by decide, by decide, by simp [sSeq, sAsg, sOwn, sIf, sRet, sRetO, sRetV, sRetN, sDrop, sNext, sCont, sBreak, sAug, sFor, sSetL, eVar, eC, e1, e2, eB, eTup, eO, oB, o2, oLst, oCall, oDict0X, oLc, oLc2, aNil, aCons, tV, tAnd', tOr', tNot', tT', tYesF, truth', truth, eIf, eAnd, eOr, eNot, eCh, eMt, eMt0, eCall, eIsi, isaD, typeD, isDct, eCntT, eGetX, sPutX, frzV, frzs, val, vals, slD, slDat, cont, setC, isListD, free_eq, isFr_no, isFr_dat, isFr_own, isFr_bor, gN, gT, partsD, iL, iT, iR1, iR2, iEnL, iEnT, iZLL, iZTT, iZTL, iKeysX, iValsX, iItemsX, fI0, fI, fPlus, fCatT, fAddS, fCatL, fRepT, fRepL, fIx, fLen, fAbs, fInt, fTup, fList, fAppend, fExtend, fPop, fPopAt, fMin2, fMax2, fNeg, fIsN, fNotN, isNone, fSum, fSumT, fInX, fIxX, fLenX, r1F, r2F, rgOk, compStep, wipeD, putB, keepD, startS, outsD, outD, mBody, mBodyO, sPar, yNil, yCons, xE, xO, setH, setHs, rdOk, List.set, bind_ite, atI_0, atI_1, atI_2, ixN_0, ixN_1, List.getElem?_cons_zero, eCallB, okL_1, okL_2, okL_3, okL_4, lentS, pinv, frzB, lendB, lent1, List.idxOf?, List.findIdx?, List.findIdx?.go, putS, putS1, oD1X, fEqXE, sizeLine_eq, a3]⟩
  · exact ⟨2, by decide, by decide, by simp [sSeq, sAsg, sOwn, sIf, sRet, sRetO, sRetV, sRetN, sDrop, sNext, sCont, sBreak, sAug, sFor, sSetL, eVar, eC, e1, e2, eB, eTup, eO, oB, o2, oLst, oCall, oDict0X, oLc, oLc2, aNil, aCons, tV, tAnd', tOr', tNot', tT', tYesF, truth', truth, eIf, eAnd, eOr, eNot, eCh, eMt, eMt0, eCall, eIsi, isaD, typeD, isDct, eCntT, eGetX, sPutX, frzV, frzs, val, vals, slD, slDat, cont, setC, isListD, free_eq, isFr_no, isFr_dat, isFr_own, isFr_bor, gN, gT, partsD, iL, iT, iR1, iR2, iEnL, iEnT, iZLL, iZTT, iZTL, iKeysX, iValsX, iItemsX, fI0, fI, fPlus, fCatT, fAddS, fCatL, fRepT, fRepL, fIx, fLen, fAbs, fInt, fTup, fList, fAppend, fExtend, fPop, fPopAt, fMin2, fMax2, fNeg, fIsN, fNotN, isNone, fSum, fSumT, fInX, fIxX, fLenX, r1F, r2F, rgOk, compStep, wipeD, putB, keepD, startS, outsD, outD, mBody, mBodyO, sPar, yNil, yCons, xE, xO, setH, setHs, rdOk, List.set, bind_ite, atI_0, atI_1, atI_2, ixN_0, ixN_1, List.getElem?_cons_zero, eCallB, okL_1, okL_2, okL_3, okL_4, lentS, pinv, frzB, lendB, lent1, List.idxOf?, List.findIdx?, List.findIdx?.go, putS, putS1, oD1X, fEqXE, sizeLine_eq, a3]⟩
theorem e_set {p : DT} (hp : PotN p) : ∃ (b : List Kd) (f : Int × Int × Int) (p' : DT), m__law_set [p] = some (.tuple [bskD b, frD f], [p']) ∧ BskOk b ∧ 1 ≤ f.2.2 ∧ f.2.2 ≤ 3 ∧ PotN p' := by
  obtain ⟨r1, p1, h1, r10, r11, hp1⟩ := e_take hp (n := 3) (by decide) (by decide)
  obtain ⟨r2, p2, h2, r20, r21, hp2⟩ := e_take hp1 (n := 3) (by decide) (by decide)
  obtain ⟨r3, p3, h3, r30, r31, hp3⟩ := e_take hp2 (n := 4) (by decide) (by decide)
  obtain ⟨sc, hsc, hsc'⟩ : ∃ sc : Int, atI [PyData.int 1, .int 1, .int 1000000000000000000000000000000] r2 = some (.int sc) ∧ (sc = 1 ∨ sc = 10 ^ 30) := by
    obtain ⟨v, hv, hv'⟩ := pick3 (PyData.int 1) (.int 1) (.int 1000000000000000000000000000000) r20 r21
    rcases hv' with rfl | rfl | rfl
    · exact ⟨1, hv, .inl rfl⟩
    · exact ⟨1, hv, .inl rfl⟩
    · exact ⟨_, hv, .inr rfl⟩
  have hss : sc.natAbs < 2 ^ 3000 := by rcases hsc' with rfl | rfl <;> decide +kernel
  obtain ⟨pl, pl1, pl8, hpl⟩ := e_place (p := p3) (sc := sc) r10 r11 r30 r31
  obtain ⟨p4, ks, s5, s6, h4, hp4, hl, hk, f5, f6⟩ := e_kinds pl1 pl8 (hd := 1 + r1) (sc := sc) (mk := 1 + r3) hp3 hss (by omega) (by omega)
  -- perhaps the last kind's wisp is the first one's
  obtain ⟨p5, ks5, h5, hp5, hl5, hk5⟩ : ∃ (p5 : DT) (ks5 : List Kd), (sIf (tAnd' (tV (e2 fGt (eVar 3) (eC (.int 1)))) (tV (e2 fEq (eCallB [true, false] m__law_take (aCons (eVar 0) (aCons (eC (.int 6)) aNil))) (eC (.int 0)))))
      (sSetL 5 (e1 fNeg (eC (.int 1))) (eTup (aCons (e2 fIx (e2 fIx (eVar 5) (eC (.int 0))) (eC (.int 0))) (aCons (e2 fIx (e2 fIx (eVar 5) (e1 fNeg (eC (.int 1)))) (eC (.int 1))) aNil))))
      sNext) [.bor p4, .dat (.int (1 + r1)), .dat (.int sc), .dat (.int (1 + r3)), .dat (.int pl), .own (.list (ks.map kindD)), s5, s6, .no, .no] = some (.nx [.bor p5, .dat (.int (1 + r1)), .dat (.int sc), .dat (.int (1 + r3)), .dat (.int pl), .own (.list (ks5.map kindD)), s5, s6, .no, .no]) ∧ PotN p5 ∧ ks5.length = ks.length ∧ (∀ k ∈ ks5, WspOk k.1 ∧ ManyOk k.2) := by
    by_cases hm : 1 < 1 + r3
    · obtain ⟨r5, p5, h5, r50, r51, hp5⟩ := e_take hp4 (n := 6) (by decide) (by decide)
      have s6' : SeqAt.shaped (.int r5) = true := rfl
      have s0' : SeqAt.shaped (.int 0) = true := rfl
      by_cases hz : r5 = 0
      · subst hz
        have hl2 : 2 ≤ ks.length := by omega
        obtain ⟨k0, hk0⟩ := lt_at (l := ks) (i := 0) (by omega)
        obtain ⟨kl, hkl⟩ := lt_at (l := ks) (i := ks.length - 1) (by omega)
        have a0 : atI (ks.map kindD) 0 = some (kindD k0) := atI_nat (j := 0) (by rw [List.getElem?_map, hk0]; rfl)
        have al : atI (ks.map kindD) (-1) = some (kindD kl) := atI_m1 (by rw [List.length_map, List.getElem?_map, hkl]; rfl)
        have ix : ixN ks.length (-1) = some (ks.length - 1) := ixN_m1 (by omega)
        refine ⟨p5, ks.set (ks.length - 1) (k0.1, kl.2), ?_, hp5, by rw [List.length_set], ?_⟩
        · have e0 : fEq (.int 0) (.int 0) = some (.bool true) := rfl
          rw [List.map_set]
          simp [sSeq, sAsg, sOwn, sIf, sRet, sRetO, sRetV, sRetN, sDrop, sNext, sCont, sBreak, sAug, sFor, sSetL, eVar, eC, e1, e2, eB, eTup, eO, oB, o2, oLst, oCall, oDict0X, oLc, oLc2, aNil, aCons, tV, tAnd', tOr', tNot', tT', tYesF, truth', truth, eIf, eAnd, eOr, eNot, eCh, eMt, eMt0, eCall, eIsi, isaD, typeD, isDct, eCntT, eGetX, sPutX, frzV, frzs, val, vals, slD, slDat, cont, setC, isListD, free_eq, isFr_no, isFr_dat, isFr_own, isFr_bor, gN, gT, partsD, iL, iT, iR1, iR2, iEnL, iEnT, iZLL, iZTT, iZTL, iKeysX, iValsX, iItemsX, fI0, fI, fPlus, fCatT, fAddS, fCatL, fRepT, fRepL, fIx, fLen, fAbs, fInt, fTup, fList, fAppend, fExtend, fPop, fPopAt, fMin2, fMax2, fNeg, fIsN, fNotN, isNone, fSum, fSumT, fInX, fIxX, fLenX, r1F, r2F, rgOk, compStep, wipeD, putB, keepD, startS, outsD, outD, mBody, mBodyO, sPar, yNil, yCons, xE, xO, setH, setHs, rdOk, List.set, bind_ite, atI_0, atI_1, atI_2, ixN_0, ixN_1, List.getElem?_cons_zero, eCallB, okL_1, okL_2, okL_3, okL_4, lentS, pinv, frzB, lendB, lent1, List.idxOf?, List.findIdx?, List.findIdx?.go, putS, putS1, oD1X, fEqXE, hm, h5, e0, a0, al, ix, kindD, sizeLine_eq]
        · intro k hk'
          rcases List.mem_or_eq_of_mem_set hk' with h | rfl
          · exact hk k h
          · exact ⟨(hk _ (List.mem_of_getElem? hk0)).1, (hk _ (List.mem_of_getElem? hkl)).2⟩
      · have e0 : fEq (.int r5) (.int 0) = some (.bool false) := by
          show some (PyData.bool (PyData.eqv (.int r5) (.int 0))) = _
          simp [PyData.eqv, hz]
        exact ⟨p5, ks, by simp [sSeq, sAsg, sOwn, sIf, sRet, sRetO, sRetV, sRetN, sDrop, sNext, sCont, sBreak, sAug, sFor, sSetL, eVar, eC, e1, e2, eB, eTup, eO, oB, o2, oLst, oCall, oDict0X, oLc, oLc2, aNil, aCons, tV, tAnd', tOr', tNot', tT', tYesF, truth', truth, eIf, eAnd, eOr, eNot, eCh, eMt, eMt0, eCall, eIsi, isaD, typeD, isDct, eCntT, eGetX, sPutX, frzV, frzs, val, vals, slD, slDat, cont, setC, isListD, free_eq, isFr_no, isFr_dat, isFr_own, isFr_bor, gN, gT, partsD, iL, iT, iR1, iR2, iEnL, iEnT, iZLL, iZTT, iZTL, iKeysX, iValsX, iItemsX, fI0, fI, fPlus, fCatT, fAddS, fCatL, fRepT, fRepL, fIx, fLen, fAbs, fInt, fTup, fList, fAppend, fExtend, fPop, fPopAt, fMin2, fMax2, fNeg, fIsN, fNotN, isNone, fSum, fSumT, fInX, fIxX, fLenX, r1F, r2F, rgOk, compStep, wipeD, putB, keepD, startS, outsD, outD, mBody, mBodyO, sPar, yNil, yCons, xE, xO, setH, setHs, rdOk, List.set, bind_ite, atI_0, atI_1, atI_2, ixN_0, ixN_1, List.getElem?_cons_zero, eCallB, okL_1, okL_2, okL_3, okL_4, lentS, pinv, frzB, lendB, lent1, List.idxOf?, List.findIdx?, List.findIdx?.go, putS, putS1, oD1X, fEqXE, hm, h5, e0], hp5, rfl, hk⟩
    · exact ⟨p4, ks, by simp [sSeq, sAsg, sOwn, sIf, sRet, sRetO, sRetV, sRetN, sDrop, sNext, sCont, sBreak, sAug, sFor, sSetL, eVar, eC, e1, e2, eB, eTup, eO, oB, o2, oLst, oCall, oDict0X, oLc, oLc2, aNil, aCons, tV, tAnd', tOr', tNot', tT', tYesF, truth', truth, eIf, eAnd, eOr, eNot, eCh, eMt, eMt0, eCall, eIsi, isaD, typeD, isDct, eCntT, eGetX, sPutX, frzV, frzs, val, vals, slD, slDat, cont, setC, isListD, free_eq, isFr_no, isFr_dat, isFr_own, isFr_bor, gN, gT, partsD, iL, iT, iR1, iR2, iEnL, iEnT, iZLL, iZTT, iZTL, iKeysX, iValsX, iItemsX, fI0, fI, fPlus, fCatT, fAddS, fCatL, fRepT, fRepL, fIx, fLen, fAbs, fInt, fTup, fList, fAppend, fExtend, fPop, fPopAt, fMin2, fMax2, fNeg, fIsN, fNotN, isNone, fSum, fSumT, fInX, fIxX, fLenX, r1F, r2F, rgOk, compStep, wipeD, putB, keepD, startS, outsD, outD, mBody, mBodyO, sPar, yNil, yCons, xE, xO, setH, setHs, rdOk, List.set, bind_ite, atI_0, atI_1, atI_2, ixN_0, ixN_1, List.getElem?_cons_zero, eCallB, okL_1, okL_2, okL_3, okL_4, lentS, pinv, frzB, lendB, lent1, List.idxOf?, List.findIdx?, List.findIdx?.go, putS, putS1, oD1X, fEqXE, hm], hp4, rfl, hk⟩
  obtain ⟨r6, p6, h6, r60, r61, hp6⟩ := e_take hp5 (n := 5) (by decide) (by decide)
  obtain ⟨r7, p7, h7, r70, r71, hp7⟩ := e_take hp6 (n := 4) (by decide) (by decide)
  obtain ⟨r8, p8, h8, r80, r81, hp8⟩ := e_take hp7 (n := 2) (by decide) (by decide)
  obtain ⟨r9, p9, h9, r90, r91, hp9⟩ := e_take hp8 (n := 2) (by decide) (by decide)
  obtain ⟨v8, e8, q8⟩ : ∃ v : Int, atI [PyData.int 0, .int (sc - 1)] r8 = some (.int v) ∧ True := by
    obtain ⟨v, hv, hv'⟩ := pick2 (PyData.int 0) (.int (sc - 1)) r80 r81
    rcases hv' with rfl | rfl
    · exact ⟨_, hv, trivial⟩
    · exact ⟨_, hv, trivial⟩
  obtain ⟨v9, e9, q9⟩ : ∃ v : Int, atI [PyData.int 0, .int (sc - 1)] r9 = some (.int v) ∧ True := by
    obtain ⟨v, hv, hv'⟩ := pick2 (PyData.int 0) (.int (sc - 1)) r90 r91
    rcases hv' with rfl | rfl
    · exact ⟨_, hv, trivial⟩
    · exact ⟨_, hv, trivial⟩
  have cp : CPow 10 30 := by unfold CPow; decide
  have c1 : CMulW (1 + r6) sc := wide_mul (a := 8) (b := 3000) (by have : (2:Nat) ^ 8 = 256 := rfl; omega) hss (by decide) (by decide) (by decide)
  have c2 : CMulW (1 + r6 + r7) sc := wide_mul (a := 8) (b := 3000) (by have : (2:Nat) ^ 8 = 256 := rfl; omega) hss (by decide) (by decide) (by decide)
  refine ⟨ks5, ((1 + r6) * sc - v8, (1 + r6 + r7) * sc + v9, 1 + r1), p9, ?_, ⟨by omega, by omega, hk5⟩, by show 1 ≤ 1 + r1; omega, by show 1 + r1 ≤ 3; omega, hp9⟩
  refine mB_rt (δ := [.bor p9, .dat (.int (1 + r1)), .dat (.int sc), .dat (.int (1 + r3)), .dat (.int pl), .own (.list (ks5.map kindD)), s5, s6, .dat (.int ((1 + r6) * sc - v8)), .dat (.int (1 + r6 + r7))]) rfl ?_ rfl
  refine seq_to (δ' := [.bor p3, .dat (.int (1 + r1)), .dat (.int sc), .dat (.int (1 + r3)), .no, .no, .no, .no, .no, .no]) (by simp [sSeq, sAsg, sOwn, sIf, sRet, sRetO, sRetV, sRetN, sDrop, sNext, sCont, sBreak, sAug, sFor, sSetL, eVar, eC, e1, e2, eB, eTup, eO, oB, o2, oLst, oCall, oDict0X, oLc, oLc2, aNil, aCons, tV, tAnd', tOr', tNot', tT', tYesF, truth', truth, eIf, eAnd, eOr, eNot, eCh, eMt, eMt0, eCall, eIsi, isaD, typeD, isDct, eCntT, eGetX, sPutX, frzV, frzs, val, vals, slD, slDat, cont, setC, isListD, free_eq, isFr_no, isFr_dat, isFr_own, isFr_bor, gN, gT, partsD, iL, iT, iR1, iR2, iEnL, iEnT, iZLL, iZTT, iZTL, iKeysX, iValsX, iItemsX, fI0, fI, fPlus, fCatT, fAddS, fCatL, fRepT, fRepL, fIx, fLen, fAbs, fInt, fTup, fList, fAppend, fExtend, fPop, fPopAt, fMin2, fMax2, fNeg, fIsN, fNotN, isNone, fSum, fSumT, fInX, fIxX, fLenX, r1F, r2F, rgOk, compStep, wipeD, putB, keepD, startS, outsD, outD, mBody, mBodyO, sPar, yNil, yCons, xE, xO, setH, setHs, rdOk, List.set, bind_ite, atI_0, atI_1, atI_2, ixN_0, ixN_1, List.getElem?_cons_zero, eCallB, okL_1, okL_2, okL_3, okL_4, lentS, pinv, frzB, lendB, lent1, List.idxOf?, List.findIdx?, List.findIdx?.go, putS, putS1, oD1X, fEqXE, h1, h2, h3, hsc, cp, sizeLine_eq]) ?_
  refine seq_to hpl (seq_to h4 (seq_to h5 ?_))
  refine seq_to (δ' := [.bor p6, .dat (.int (1 + r1)), .dat (.int sc), .dat (.int (1 + r3)), .dat (.int pl), .own (.list (ks5.map kindD)), s5, s6, .dat (.int (1 + r6)), .no]) (by simp [sSeq, sAsg, sOwn, sIf, sRet, sRetO, sRetV, sRetN, sDrop, sNext, sCont, sBreak, sAug, sFor, sSetL, eVar, eC, e1, e2, eB, eTup, eO, oB, o2, oLst, oCall, oDict0X, oLc, oLc2, aNil, aCons, tV, tAnd', tOr', tNot', tT', tYesF, truth', truth, eIf, eAnd, eOr, eNot, eCh, eMt, eMt0, eCall, eIsi, isaD, typeD, isDct, eCntT, eGetX, sPutX, frzV, frzs, val, vals, slD, slDat, cont, setC, isListD, free_eq, isFr_no, isFr_dat, isFr_own, isFr_bor, gN, gT, partsD, iL, iT, iR1, iR2, iEnL, iEnT, iZLL, iZTT, iZTL, iKeysX, iValsX, iItemsX, fI0, fI, fPlus, fCatT, fAddS, fCatL, fRepT, fRepL, fIx, fLen, fAbs, fInt, fTup, fList, fAppend, fExtend, fPop, fPopAt, fMin2, fMax2, fNeg, fIsN, fNotN, isNone, fSum, fSumT, fInX, fIxX, fLenX, r1F, r2F, rgOk, compStep, wipeD, putB, keepD, startS, outsD, outD, mBody, mBodyO, sPar, yNil, yCons, xE, xO, setH, setHs, rdOk, List.set, bind_ite, atI_0, atI_1, atI_2, ixN_0, ixN_1, List.getElem?_cons_zero, eCallB, okL_1, okL_2, okL_3, okL_4, lentS, pinv, frzB, lendB, lent1, List.idxOf?, List.findIdx?, List.findIdx?.go, putS, putS1, oD1X, fEqXE, h6]) ?_
  refine seq_to (δ' := [.bor p7, .dat (.int (1 + r1)), .dat (.int sc), .dat (.int (1 + r3)), .dat (.int pl), .own (.list (ks5.map kindD)), s5, s6, .dat (.int (1 + r6)), .dat (.int (1 + r6 + r7))]) (by simp [sSeq, sAsg, sOwn, sIf, sRet, sRetO, sRetV, sRetN, sDrop, sNext, sCont, sBreak, sAug, sFor, sSetL, eVar, eC, e1, e2, eB, eTup, eO, oB, o2, oLst, oCall, oDict0X, oLc, oLc2, aNil, aCons, tV, tAnd', tOr', tNot', tT', tYesF, truth', truth, eIf, eAnd, eOr, eNot, eCh, eMt, eMt0, eCall, eIsi, isaD, typeD, isDct, eCntT, eGetX, sPutX, frzV, frzs, val, vals, slD, slDat, cont, setC, isListD, free_eq, isFr_no, isFr_dat, isFr_own, isFr_bor, gN, gT, partsD, iL, iT, iR1, iR2, iEnL, iEnT, iZLL, iZTT, iZTL, iKeysX, iValsX, iItemsX, fI0, fI, fPlus, fCatT, fAddS, fCatL, fRepT, fRepL, fIx, fLen, fAbs, fInt, fTup, fList, fAppend, fExtend, fPop, fPopAt, fMin2, fMax2, fNeg, fIsN, fNotN, isNone, fSum, fSumT, fInX, fIxX, fLenX, r1F, r2F, rgOk, compStep, wipeD, putB, keepD, startS, outsD, outD, mBody, mBodyO, sPar, yNil, yCons, xE, xO, setH, setHs, rdOk, List.set, bind_ite, atI_0, atI_1, atI_2, ixN_0, ixN_1, List.getElem?_cons_zero, eCallB, okL_1, okL_2, okL_3, okL_4, lentS, pinv, frzB, lendB, lent1, List.idxOf?, List.findIdx?, List.findIdx?.go, putS, putS1, oD1X, fEqXE, h7]) ?_
  refine seq_to (δ' := [.bor p8, .dat (.int (1 + r1)), .dat (.int sc), .dat (.int (1 + r3)), .dat (.int pl), .own (.list (ks5.map kindD)), s5, s6, .dat (.int ((1 + r6) * sc - v8)), .dat (.int (1 + r6 + r7))]) (by simp [sSeq, sAsg, sOwn, sIf, sRet, sRetO, sRetV, sRetN, sDrop, sNext, sCont, sBreak, sAug, sFor, sSetL, eVar, eC, e1, e2, eB, eTup, eO, oB, o2, oLst, oCall, oDict0X, oLc, oLc2, aNil, aCons, tV, tAnd', tOr', tNot', tT', tYesF, truth', truth, eIf, eAnd, eOr, eNot, eCh, eMt, eMt0, eCall, eIsi, isaD, typeD, isDct, eCntT, eGetX, sPutX, frzV, frzs, val, vals, slD, slDat, cont, setC, isListD, free_eq, isFr_no, isFr_dat, isFr_own, isFr_bor, gN, gT, partsD, iL, iT, iR1, iR2, iEnL, iEnT, iZLL, iZTT, iZTL, iKeysX, iValsX, iItemsX, fI0, fI, fPlus, fCatT, fAddS, fCatL, fRepT, fRepL, fIx, fLen, fAbs, fInt, fTup, fList, fAppend, fExtend, fPop, fPopAt, fMin2, fMax2, fNeg, fIsN, fNotN, isNone, fSum, fSumT, fInX, fIxX, fLenX, r1F, r2F, rgOk, compStep, wipeD, putB, keepD, startS, outsD, outD, mBody, mBodyO, sPar, yNil, yCons, xE, xO, setH, setHs, rdOk, List.set, bind_ite, atI_0, atI_1, atI_2, ixN_0, ixN_1, List.getElem?_cons_zero, eCallB, okL_1, okL_2, okL_3, okL_4, lentS, pinv, frzB, lendB, lent1, List.idxOf?, List.findIdx?, List.findIdx?.go, putS, putS1, oD1X, fEqXE, h8, c1, e8, sizeLine_eq]) ?_
  simp [sSeq, sAsg, sOwn, sIf, sRet, sRetO, sRetV, sRetN, sDrop, sNext, sCont, sBreak, sAug, sFor, sSetL, eVar, eC, e1, e2, eB, eTup, eO, oB, o2, oLst, oCall, oDict0X, oLc, oLc2, aNil, aCons, tV, tAnd', tOr', tNot', tT', tYesF, truth', truth, eIf, eAnd, eOr, eNot, eCh, eMt, eMt0, eCall, eIsi, isaD, typeD, isDct, eCntT, eGetX, sPutX, frzV, frzs, val, vals, slD, slDat, cont, setC, isListD, free_eq, isFr_no, isFr_dat, isFr_own, isFr_bor, gN, gT, partsD, iL, iT, iR1, iR2, iEnL, iEnT, iZLL, iZTT, iZTL, iKeysX, iValsX, iItemsX, fI0, fI, fPlus, fCatT, fAddS, fCatL, fRepT, fRepL, fIx, fLen, fAbs, fInt, fTup, fList, fAppend, fExtend, fPop, fPopAt, fMin2, fMax2, fNeg, fIsN, fNotN, isNone, fSum, fSumT, fInX, fIxX, fLenX, r1F, r2F, rgOk, compStep, wipeD, putB, keepD, startS, outsD, outD, mBody, mBodyO, sPar, yNil, yCons, xE, xO, setH, setHs, rdOk, List.set, bind_ite, atI_0, atI_1, atI_2, ixN_0, ixN_1, List.getElem?_cons_zero, eCallB, okL_1, okL_2, okL_3, okL_4, lentS, pinv, frzB, lendB, lent1, List.idxOf?, List.findIdx?, List.findIdx?.go, putS, putS1, oD1X, fEqXE, h9, c2, e9, sizeLine_eq, bskD, frD]
/-! ### how thick, how long, by kinds and ages -/
theorem thick_core {u : SF} {w : Wsp} {k : Int} (hu : ∀ (k' : Int) (t l : Int), u [.dat (wspD w), .dat (.int k'), .dat (.int t), .dat (.int l)] = some (.nx [.dat (wspD w), .dat (.int (k' - l)), .dat (.int t), .dat (.int l)])) : mBody [false, false] 2 (sSeq (sFor (iT (e2 fIx (eVar 0) (eC (.int 1)))) (gT [(gN 2), (gN 3)])
    (sSeq (sIf (tV (e2 fLt (eVar 1) (eVar 3)))
    (sRet (eVar 2))
    sNext)
    u))
    (sRet (eC (.int 0)))) [wspD w, .int k] = some (.int (stepAt w.2 k), [.none, .none]) := by
  obtain ⟨o, e, h⟩ := loop_to (enc := stepD) (g := gT [gN 2, gN 3]) (b := sSeq (sIf (tV (e2 fLt (eVar 1) (eVar 3))) (sRet (eVar 2)) sNext) u) (B := fun _ => False) (R := fun x δ => x = .int (stepAt w.2 k)) w.2
    (fun r δ => ∃ (k' : Int) (s2 s3 : Sl), δ = [.dat (wspD w), .dat (.int k'), s2, s3] ∧ isFr s2 = true ∧ isFr s3 = true ∧ stepAt r k' = stepAt w.2 k)
    [.dat (wspD w), .dat (.int k), .no, .no]
    (by
      rintro ⟨t, l⟩ r δ ⟨k', s2, s3, rfl, f2, f3, hk⟩
      by_cases c : k' < l
      · refine ⟨.rt (.int t) [.dat (wspD w), .dat (.int k'), .dat (.int t), .dat (.int l)], ?_, ?_⟩
        · simp [sSeq, sAsg, sOwn, sIf, sRet, sRetO, sRetV, sRetN, sDrop, sNext, sCont, sBreak, sAug, sFor, sSetL, eVar, eC, e1, e2, eB, eTup, eO, oB, o2, oLst, oCall, oDict0X, oLc, oLc2, aNil, aCons, tV, tAnd', tOr', tNot', tT', tYesF, truth', truth, eIf, eAnd, eOr, eNot, eCh, eMt, eMt0, eCall, eIsi, isaD, typeD, isDct, eCntT, eGetX, sPutX, frzV, frzs, val, vals, slD, slDat, cont, setC, isListD, free_eq, isFr_no, isFr_dat, isFr_own, isFr_bor, gN, gT, partsD, iL, iT, iR1, iR2, iEnL, iEnT, iZLL, iZTT, iZTL, iKeysX, iValsX, iItemsX, fI0, fI, fPlus, fCatT, fAddS, fCatL, fRepT, fRepL, fIx, fLen, fAbs, fInt, fTup, fList, fAppend, fExtend, fPop, fPopAt, fMin2, fMax2, fNeg, fIsN, fNotN, isNone, fSum, fSumT, fInX, fIxX, fLenX, r1F, r2F, rgOk, compStep, wipeD, putB, keepD, startS, outsD, outD, mBody, mBodyO, sPar, yNil, yCons, xE, xO, setH, setHs, rdOk, List.set, bind_ite, atI_0, atI_1, atI_2, ixN_0, ixN_1, List.getElem?_cons_zero, eCallB, okL_1, okL_2, okL_3, okL_4, lentS, pinv, frzB, lendB, lent1, List.idxOf?, List.findIdx?, List.findIdx?.go, putS, putS1, oD1X, fEqXE, stepD, f2, f3, c]
        · show PyData.int t = .int (stepAt w.2 k)
          rw [← hk]
          simp [stepAt, c]
      · refine ⟨.nx [.dat (wspD w), .dat (.int (k' - l)), .dat (.int t), .dat (.int l)], ?_, k' - l, _, _, rfl, rfl, rfl, ?_⟩
        · simp [sSeq, sAsg, sOwn, sIf, sRet, sRetO, sRetV, sRetN, sDrop, sNext, sCont, sBreak, sAug, sFor, sSetL, eVar, eC, e1, e2, eB, eTup, eO, oB, o2, oLst, oCall, oDict0X, oLc, oLc2, aNil, aCons, tV, tAnd', tOr', tNot', tT', tYesF, truth', truth, eIf, eAnd, eOr, eNot, eCh, eMt, eMt0, eCall, eIsi, isaD, typeD, isDct, eCntT, eGetX, sPutX, frzV, frzs, val, vals, slD, slDat, cont, setC, isListD, free_eq, isFr_no, isFr_dat, isFr_own, isFr_bor, gN, gT, partsD, iL, iT, iR1, iR2, iEnL, iEnT, iZLL, iZTT, iZTL, iKeysX, iValsX, iItemsX, fI0, fI, fPlus, fCatT, fAddS, fCatL, fRepT, fRepL, fIx, fLen, fAbs, fInt, fTup, fList, fAppend, fExtend, fPop, fPopAt, fMin2, fMax2, fNeg, fIsN, fNotN, isNone, fSum, fSumT, fInX, fIxX, fLenX, r1F, r2F, rgOk, compStep, wipeD, putB, keepD, startS, outsD, outD, mBody, mBodyO, sPar, yNil, yCons, xE, xO, setH, setHs, rdOk, List.set, bind_ite, atI_0, atI_1, atI_2, ixN_0, ixN_1, List.getElem?_cons_zero, eCallB, okL_1, okL_2, okL_3, okL_4, lentS, pinv, frzB, lendB, lent1, List.idxOf?, List.findIdx?, List.findIdx?.go, putS, putS1, oD1X, fEqXE, stepD, f2, f3, c, hu]
        · rw [← hk]
          simp [stepAt, c])
    ⟨k, .no, .no, rfl, rfl, rfl, rfl⟩
  have hf : sFor (iT (e2 fIx (eVar 0) (eC (.int 1)))) (gT [(gN 2), (gN 3)]) (sSeq (sIf (tV (e2 fLt (eVar 1) (eVar 3))) (sRet (eVar 2)) sNext) u) [.dat (wspD w), .dat (.int k), .no, .no] = some o := by
    rw [← e]
    simp [sFor, iT, e2, eVar, eC, val, fIx, wspD, atI_1, frzV]
  cases o with
  | nx δ =>
    rcases h with ⟨k', s2, s3, rfl, _, _, hk⟩ | h
    · refine mB_rt (δ := [.dat (wspD w), .dat (.int k'), s2, s3]) rfl (seq_to hf ?_) rfl
      rw [← hk]
      rfl
    · exact h.elim
  | rt x δ =>
    have h : x = .int (stepAt w.2 k) := h
    subst h
    exact mB_rt rfl (seq_rt hf) rfl
  | _ => exact h.elim
theorem e_thick (w : Wsp) (k : Int) : m_thick_at [wspD w, .int k] = some (.int (stepAt w.2 k), [.none, .none]) := thick_core fun k' t l => by simp [sSeq, sAsg, sOwn, sIf, sRet, sRetO, sRetV, sRetN, sDrop, sNext, sCont, sBreak, sAug, sFor, sSetL, eVar, eC, e1, e2, eB, eTup, eO, oB, o2, oLst, oCall, oDict0X, oLc, oLc2, aNil, aCons, tV, tAnd', tOr', tNot', tT', tYesF, truth', truth, eIf, eAnd, eOr, eNot, eCh, eMt, eMt0, eCall, eIsi, isaD, typeD, isDct, eCntT, eGetX, sPutX, frzV, frzs, val, vals, slD, slDat, cont, setC, isListD, free_eq, isFr_no, isFr_dat, isFr_own, isFr_bor, gN, gT, partsD, iL, iT, iR1, iR2, iEnL, iEnT, iZLL, iZTT, iZTL, iKeysX, iValsX, iItemsX, fI0, fI, fPlus, fCatT, fAddS, fCatL, fRepT, fRepL, fIx, fLen, fAbs, fInt, fTup, fList, fAppend, fExtend, fPop, fPopAt, fMin2, fMax2, fNeg, fIsN, fNotN, isNone, fSum, fSumT, fInX, fIxX, fLenX, r1F, r2F, rgOk, compStep, wipeD, putB, keepD, startS, outsD, outD, mBody, mBodyO, sPar, yNil, yCons, xE, xO, setH, setHs, rdOk, List.set, bind_ite, atI_0, atI_1, atI_2, ixN_0, ixN_1, List.getElem?_cons_zero, eCallB, okL_1, okL_2, okL_3, okL_4, lentS, pinv, frzB, lendB, lent1, List.idxOf?, List.findIdx?, List.findIdx?.go, putS, putS1, oD1X, fEqXE]
theorem e_at (w : Wsp) (k : Int) : m__law_at [wspD w, .int k] = some (.int (stepAt w.2 k), [.none, .none]) := thick_core fun k' t l => by simp [sSeq, sAsg, sOwn, sIf, sRet, sRetO, sRetV, sRetN, sDrop, sNext, sCont, sBreak, sAug, sFor, sSetL, eVar, eC, e1, e2, eB, eTup, eO, oB, o2, oLst, oCall, oDict0X, oLc, oLc2, aNil, aCons, tV, tAnd', tOr', tNot', tT', tYesF, truth', truth, eIf, eAnd, eOr, eNot, eCh, eMt, eMt0, eCall, eIsi, isaD, typeD, isDct, eCntT, eGetX, sPutX, frzV, frzs, val, vals, slD, slDat, cont, setC, isListD, free_eq, isFr_no, isFr_dat, isFr_own, isFr_bor, gN, gT, partsD, iL, iT, iR1, iR2, iEnL, iEnT, iZLL, iZTT, iZTL, iKeysX, iValsX, iItemsX, fI0, fI, fPlus, fCatT, fAddS, fCatL, fRepT, fRepL, fIx, fLen, fAbs, fInt, fTup, fList, fAppend, fExtend, fPop, fPopAt, fMin2, fMax2, fNeg, fIsN, fNotN, isNone, fSum, fSumT, fInX, fIxX, fLenX, r1F, r2F, rgOk, compStep, wipeD, putB, keepD, startS, outsD, outD, mBody, mBodyO, sPar, yNil, yCons, xE, xO, setH, setHs, rdOk, List.set, bind_ite, atI_0, atI_1, atI_2, ixN_0, ixN_1, List.getElem?_cons_zero, eCallB, okL_1, okL_2, okL_3, okL_4, lentS, pinv, frzB, lendB, lent1, List.idxOf?, List.findIdx?, List.findIdx?.go, putS, putS1, oD1X, fEqXE]
theorem e_length2 (w : Wsp) (hl : w.2.length ≤ sizeLine) : m__law_length [wspD w] = some (.int (lenW w), [.none]) := e_length w hl
/-- the ages of what runs -/
abbrev Ag := List (Int × Int)
def agD (a : Ag) : DT := .tuple (a.map stepD)
def KindIn (b : List Kd) (a : Ag) : Prop := ∀ p ∈ a, ∃ j : Nat, p.1 = (j : Int) ∧ j < b.length
theorem bsk_at {b : List Kd} {j : Nat} (h : j < b.length) : atI (b.map kindD) (j : Int) = some (kindD b[j]) := atI_nat (by rw [List.getElem?_map, List.getElem?_eq_getElem h]; rfl)
def wspAt (b : List Kd) (k : Int) : Wsp := ((b[k.toNat]?).map (·.1)).getD (0, [])
theorem wsp_at {b : List Kd} {j : Nat} (h : j < b.length) : wspAt b (j : Int) = b[j].1 := by
  unfold wspAt
  rw [Int.toNat_natCast, List.getElem?_eq_getElem h]
  rfl
def thickOf (b : List Kd) (a : Ag) : Int := (a.map fun p => stepAt (wspAt b p.1).2 p.2).sum
theorem ints_map {α : Type} (f : α → Int) (l : List α) : intsD (l.map fun x => PyData.int (f x)) = some (l.map f) := by
  rw [show (l.map fun x => PyData.int (f x)) = (l.map f).map PyData.int by simp]
  exact intsD_of
theorem e_thickness {b : List Kd} {a : Ag} (hk : KindIn b a) (hl : a.length ≤ sizeLine) : m_thickness_of [bskD b, agD a] = some (.int (thickOf b a), [.none, .none]) := by
  have h := lc_map (enc := stepD) (it := iT (eVar 1)) (vs := [2, 3]) (g := gT [gN 2, gN 3]) (t := tYesF) (e := eCall m_thick_at (aCons (e2 fIx (e2 fIx (eVar 0) (eVar 2)) (eC (.int 0))) (aCons (eVar 3) aNil))) (δ := [.dat (bskD b), .dat (agD a), .no, .no]) (δ' := [.dat (bskD b), .dat (agD a), .no, .no]) (fun p => .int (stepAt (wspAt b p.1).2 p.2)) a rfl (fun p hp => by
    obtain ⟨k, ag⟩ := p
    obtain ⟨j, hj, hjl⟩ := hk _ hp
    simp only at hj
    subst hj
    simp [sSeq, sAsg, sOwn, sIf, sRet, sRetO, sRetV, sRetN, sDrop, sNext, sCont, sBreak, sAug, sFor, sSetL, eVar, eC, e1, e2, eB, eTup, eO, oB, o2, oLst, oCall, oDict0X, oLc, oLc2, aNil, aCons, tV, tAnd', tOr', tNot', tT', tYesF, truth', truth, eIf, eAnd, eOr, eNot, eCh, eMt, eMt0, eCall, eIsi, isaD, typeD, isDct, eCntT, eGetX, sPutX, frzV, frzs, val, vals, slD, slDat, cont, setC, isListD, free_eq, isFr_no, isFr_dat, isFr_own, isFr_bor, gN, gT, partsD, iL, iT, iR1, iR2, iEnL, iEnT, iZLL, iZTT, iZTL, iKeysX, iValsX, iItemsX, fI0, fI, fPlus, fCatT, fAddS, fCatL, fRepT, fRepL, fIx, fLen, fAbs, fInt, fTup, fList, fAppend, fExtend, fPop, fPopAt, fMin2, fMax2, fNeg, fIsN, fNotN, isNone, fSum, fSumT, fInX, fIxX, fLenX, r1F, r2F, rgOk, compStep, wipeD, putB, keepD, startS, outsD, outD, mBody, mBodyO, sPar, yNil, yCons, xE, xO, setH, setHs, rdOk, List.set, bind_ite, atI_0, atI_1, atI_2, ixN_0, ixN_1, List.getElem?_cons_zero, eCallB, okL_1, okL_2, okL_3, okL_4, lentS, pinv, frzB, lendB, lent1, List.idxOf?, List.findIdx?, List.findIdx?.go, putS, putS1, oD1X, fEqXE, stepD, bskD, bsk_at hjl, kindD, e_thick, wsp_at hjl]) hl
  refine m_ret (δ := [.dat (bskD b), .dat (agD a), .no, .no]) rfl ?_ rfl
  simp [sSeq, sAsg, sOwn, sIf, sRet, sRetO, sRetV, sRetN, sDrop, sNext, sCont, sBreak, sAug, sSetL, eVar, eC, e1, e2, eB, eTup, eO, oB, o2, oLst, oCall, oDict0X, aNil, aCons, tV, tAnd', tOr', tNot', tT', tYesF, truth', truth, eIf, eAnd, eOr, eNot, eCh, eMt, eMt0, eIsi, isaD, typeD, isDct, eCntT, eGetX, sPutX, frzV, frzs, val, vals, slD, slDat, cont, setC, isListD, free_eq, isFr_no, isFr_dat, isFr_own, isFr_bor, gN, gT, partsD, iL, iT, iR1, iR2, iEnL, iEnT, iZLL, iZTT, iZTL, iKeysX, iValsX, iItemsX, fI0, fI, fPlus, fCatT, fAddS, fCatL, fRepT, fRepL, fIx, fLen, fAbs, fInt, fTup, fList, fAppend, fExtend, fPop, fPopAt, fMin2, fMax2, fNeg, fIsN, fNotN, isNone, fSum, fSumT, fInX, fIxX, fLenX, r1F, r2F, rgOk, wipeD, putB, keepD, startS, outsD, outD, mBody, mBodyO, sPar, yNil, yCons, xE, xO, setH, setHs, rdOk, List.set, bind_ite, atI_0, atI_1, atI_2, ixN_0, ixN_1, List.getElem?_cons_zero, okL_1, okL_2, okL_3, okL_4, lentS, pinv, frzB, lendB, lent1, List.idxOf?, List.findIdx?, List.findIdx?.go, putS, putS1, oD1X, fEqXE, h, ints_map]
  rfl
/-- the ages a place later -/
def older (b : List Kd) (a : Ag) : Ag := (a.filter fun p => decide (p.2 + 1 < lenW (wspAt b p.1))).map fun p => (p.1, p.2 + 1)
theorem nk_step (p : Int × Int) : nkOf (stepD p) = some (.tup [.num p.1, .num p.2]) := by
  simp [stepD, nkOf, nksOf]
theorem ok_pairs (a : Ag) (hl : a.length ≤ sizeLine) : okSort (a.map stepD) := by
  refine ⟨?_, .inl fun d hd => ?_, by rw [List.length_map]; exact hl, fun d hd => ?_⟩
  · intro d hd d' hd'
    obtain ⟨p, _, rfl⟩ := List.mem_map.mp hd
    obtain ⟨q, _, rfl⟩ := List.mem_map.mp hd'
    simp [stepD, PySem.W.alike, PySem.W.alikeAll]
  · obtain ⟨p, _, rfl⟩ := List.mem_map.mp hd
    exact ⟨_, _, rfl⟩
  · obtain ⟨p, _, rfl⟩ := List.mem_map.mp hd
    exact ⟨rfl, by simp [stepD, PyData.depth, PyData.depthAll]⟩
def unS : DT → Int × Int
  | .tuple [.int i, .int j] => (i, j)
  | _ => (0, 0)
theorem sort_pairs (a : Ag) : ∃ a' : Ag, a'.Perm a ∧ sortD (a.map stepD) = a'.map stepD := by
  have inj : ∀ p q : Int × Int, stepD p = stepD q → p = q := fun p q h => by
    simp only [stepD, PyData.tuple.injEq, List.cons.injEq, PyData.int.injEq, and_true] at h
    exact Prod.ext h.1 h.2
  obtain ⟨a', h1, h2⟩ : ∃ a' : Ag, sortD (a.map stepD) = a'.map stepD ∧ True := by
    have : ∀ l : List DT, (∀ d ∈ l, ∃ p, d = stepD p) → ∃ a' : Ag, l = a'.map stepD := by
      intro l
      induction l with
      | nil => exact fun _ => ⟨[], rfl⟩
      | cons d r ih =>
        intro h
        obtain ⟨p, rfl⟩ := h d List.mem_cons_self
        obtain ⟨r', rfl⟩ := ih fun x m => h x (List.mem_cons_of_mem _ m)
        exact ⟨p :: r', rfl⟩
    obtain ⟨a', h⟩ := this (sortD (a.map stepD)) fun d hd => by
      obtain ⟨p, _, rfl⟩ := List.mem_map.mp ((sort_perm _).mem_iff.mp hd)
      exact ⟨p, rfl⟩
    exact ⟨a', h, trivial⟩
  refine ⟨a', ?_, h1⟩
  have := sort_perm (a.map stepD)
  rw [h1] at this
  have := this.map unS
  rw [List.map_map, List.map_map] at this
  have e : (unS ∘ stepD) = id := rfl
  rw [e, List.map_id, List.map_id] at this
  exact this
noncomputable def sorted (a : Ag) : Ag := (sort_pairs a).choose
theorem sorted_perm (a : Ag) : (sorted a).Perm a := (sort_pairs a).choose_spec.1
theorem sorted_eq (a : Ag) : sortD (a.map stepD) = (sorted a).map stepD := (sort_pairs a).choose_spec.2
theorem older_fm (b : List Kd) (a : Ag) : a.filterMap (fun p => if p.2 + 1 < lenW (wspAt b p.1) then some (stepD (p.1, p.2 + 1)) else none) = (older b a).map stepD := by
  unfold older
  induction a with
  | nil => rfl
  | cons p r ih =>
    by_cases c : p.2 + 1 < lenW (wspAt b p.1)
    · simp [List.filterMap_cons, List.filter_cons, c, ih]
    · simp [List.filterMap_cons, List.filter_cons, c, ih]
theorem e_aged {b : List Kd} {a : Ag} (hb : BskOk b) (hk : KindIn b a) (hl : a.length ≤ 60) : m_aged [bskD b, agD a] = some (agD (sorted (older b a)), [.none, .none]) := by
  have hz : a.length ≤ sizeLine := by rw [sizeLine_eq]; omega
  have h := lc_fm (enc := stepD) (it := iT (eVar 1)) (vs := [2, 3]) (g := gT [gN 2, gN 3]) (t := (tV (e2 fLt (e2 fPlus (eVar 3) (eC (.int 1))) (eCall m_length_of (aCons (e2 fIx (e2 fIx (eVar 0) (eVar 2)) (eC (.int 0))) aNil))))) (e := (eTup (aCons (eVar 2) (aCons (e2 fPlus (eVar 3) (eC (.int 1))) aNil)))) (δ := [.dat (bskD b), .dat (agD a), .no, .no]) (δ' := [.dat (bskD b), .dat (agD a), .no, .no]) (fun p => if p.2 + 1 < lenW (wspAt b p.1) then some (stepD (p.1, p.2 + 1)) else none) a rfl (fun p hp => by
    obtain ⟨k, ag⟩ := p
    obtain ⟨j, hj, hjl⟩ := hk _ hp
    simp only at hj
    subst hj
    have hw := (hb.ok _ (List.getElem_mem hjl)).1.len
    have e1 := e_length b[j].1 (by rw [sizeLine_eq]; omega)
    by_cases c : ag + 1 < lenW b[j].1
    · simp [sSeq, sAsg, sOwn, sIf, sRet, sRetO, sRetV, sRetN, sDrop, sNext, sCont, sBreak, sAug, sFor, sSetL, eVar, eC, e1, e2, eB, eTup, eO, oB, o2, oLst, oCall, oDict0X, oLc, oLc2, aNil, aCons, tV, tAnd', tOr', tNot', tT', tYesF, truth', truth, eIf, eAnd, eOr, eNot, eCh, eMt, eMt0, eCall, eIsi, isaD, typeD, isDct, eCntT, eGetX, sPutX, frzV, frzs, val, vals, slD, slDat, cont, setC, isListD, free_eq, isFr_no, isFr_dat, isFr_own, isFr_bor, gN, gT, partsD, iL, iT, iR1, iR2, iEnL, iEnT, iZLL, iZTT, iZTL, iKeysX, iValsX, iItemsX, fI0, fI, fPlus, fCatT, fAddS, fCatL, fRepT, fRepL, fIx, fLen, fAbs, fInt, fTup, fList, fAppend, fExtend, fPop, fPopAt, fMin2, fMax2, fNeg, fIsN, fNotN, isNone, fSum, fSumT, fInX, fIxX, fLenX, r1F, r2F, rgOk, compStep, wipeD, putB, keepD, startS, outsD, outD, mBody, mBodyO, sPar, yNil, yCons, xE, xO, setH, setHs, rdOk, List.set, bind_ite, atI_0, atI_1, atI_2, ixN_0, ixN_1, List.getElem?_cons_zero, eCallB, okL_1, okL_2, okL_3, okL_4, lentS, pinv, frzB, lendB, lent1, List.idxOf?, List.findIdx?, List.findIdx?.go, putS, putS1, oD1X, fEqXE, stepD, bskD, bsk_at hjl, kindD, e1, wsp_at hjl, c, sizeLine_eq]
    · simp [sSeq, sAsg, sOwn, sIf, sRet, sRetO, sRetV, sRetN, sDrop, sNext, sCont, sBreak, sAug, sFor, sSetL, eVar, eC, e1, e2, eB, eTup, eO, oB, o2, oLst, oCall, oDict0X, oLc, oLc2, aNil, aCons, tV, tAnd', tOr', tNot', tT', tYesF, truth', truth, eIf, eAnd, eOr, eNot, eCh, eMt, eMt0, eCall, eIsi, isaD, typeD, isDct, eCntT, eGetX, sPutX, frzV, frzs, val, vals, slD, slDat, cont, setC, isListD, free_eq, isFr_no, isFr_dat, isFr_own, isFr_bor, gN, gT, partsD, iL, iT, iR1, iR2, iEnL, iEnT, iZLL, iZTT, iZTL, iKeysX, iValsX, iItemsX, fI0, fI, fPlus, fCatT, fAddS, fCatL, fRepT, fRepL, fIx, fLen, fAbs, fInt, fTup, fList, fAppend, fExtend, fPop, fPopAt, fMin2, fMax2, fNeg, fIsN, fNotN, isNone, fSum, fSumT, fInX, fIxX, fLenX, r1F, r2F, rgOk, compStep, wipeD, putB, keepD, startS, outsD, outD, mBody, mBodyO, sPar, yNil, yCons, xE, xO, setH, setHs, rdOk, List.set, bind_ite, atI_0, atI_1, atI_2, ixN_0, ixN_1, List.getElem?_cons_zero, eCallB, okL_1, okL_2, okL_3, okL_4, lentS, pinv, frzB, lendB, lent1, List.idxOf?, List.findIdx?, List.findIdx?.go, putS, putS1, oD1X, fEqXE, stepD, bskD, bsk_at hjl, kindD, e1, wsp_at hjl, c]) hz
  rw [older_fm] at h
  have ho : (older b a).length ≤ sizeLine := by
    unfold older
    rw [List.length_map]
    exact Nat.le_trans (List.length_filter_le ..) hz
  refine m_ret (δ := [.dat (bskD b), .dat (agD a), .no, .no]) rfl ?_ rfl
  simp [sSeq, sAsg, sOwn, sIf, sRet, sRetO, sRetV, sRetN, sDrop, sNext, sCont, sBreak, sAug, sSetL, eVar, eC, e1, e2, eB, eTup, eO, oB, o2, oLst, oCall, oDict0X, aNil, aCons, tV, tAnd', tOr', tNot', tT', tYesF, truth', truth, eIf, eAnd, eOr, eNot, eCh, eMt, eMt0, eIsi, isaD, typeD, isDct, eCntT, eGetX, sPutX, frzV, frzs, val, vals, slD, slDat, cont, setC, isListD, free_eq, isFr_no, isFr_dat, isFr_own, isFr_bor, gN, gT, partsD, iL, iT, iR1, iR2, iEnL, iEnT, iZLL, iZTT, iZTL, iKeysX, iValsX, iItemsX, fI0, fI, fPlus, fCatT, fAddS, fCatL, fRepT, fRepL, fIx, fLen, fAbs, fInt, fTup, fList, fAppend, fExtend, fPop, fPopAt, fMin2, fMax2, fNeg, fIsN, fNotN, isNone, fSum, fSumT, fInX, fIxX, fLenX, r1F, r2F, rgOk, wipeD, putB, keepD, startS, outsD, outD, mBody, mBodyO, sPar, yNil, yCons, xE, xO, setH, setHs, rdOk, List.set, bind_ite, atI_0, atI_1, atI_2, ixN_0, ixN_1, List.getElem?_cons_zero, okL_1, okL_2, okL_3, okL_4, lentS, pinv, frzB, lendB, lent1, List.idxOf?, List.findIdx?, List.findIdx?.go, putS, putS1, oD1X, fEqXE, h, fSortL, ok_pairs _ ho, sorted_eq]
  rfl
/-! ### what may go on -/
def subStep (h : Int) (ch : List Ag) (p : Int × Int) : List Ag := ch ++ (ch.filter fun s => decide ((s.length : Int) < h)).map (· ++ [p])
def subsF (a : Ag) (h : Int) : List Ag := a.foldl (subStep h) [[]]
theorem subStep_len (h : Int) (ch : List Ag) (p : Int × Int) : (subStep h ch p).length ≤ 2 * ch.length := by
  unfold subStep
  rw [List.length_append, List.length_map]
  have := List.length_filter_le (fun s : Ag => decide ((s.length : Int) < h)) ch
  omega
theorem subStep_fm (h : Int) (ch : List Ag) (p : Int × Int) : ch.filterMap (fun s => if (s.length : Int) < h then some (agD (s ++ [p])) else none) = ((ch.filter fun s => decide ((s.length : Int) < h)).map (· ++ [p])).map agD := by
  induction ch with
  | nil => rfl
  | cons s r ih =>
    by_cases c : (s.length : Int) < h
    · simp [List.filterMap_cons, List.filter_cons, c, ih]
    · simp [List.filterMap_cons, List.filter_cons, c, ih]
theorem e_kept {a : Ag} {h : Int} (hl : a.length ≤ 10) (hh : h ≤ 1000) : m_kept_from [agD a, .int h] = some (.list ((subsF a h).map agD), [.none, .none]) := by
  have bnd : ∀ (r : Ag) (ch : List Ag), (r.foldl (subStep h) ch).length ≤ 2 ^ r.length * ch.length := by
    intro r
    induction r with
    | nil => intro ch; simp
    | cons p r ih =>
      intro ch
      have h1 := ih (subStep h ch p)
      have h2 := subStep_len h ch p
      have h3 := Nat.mul_le_mul_left (2 ^ r.length) h2
      rw [List.foldl_cons, List.length_cons, Nat.pow_succ]
      calc _ ≤ _ := h1
        _ ≤ _ := h3
        _ = _ := by rw [Nat.mul_assoc]
  obtain ⟨δ', e, ch, s3, rfl, f3, hch⟩ := loop_all (enc := stepD) (g := gN 3) (b := sOwn 2 (o2 fCatL (eVar 2) (eO (oLc (iL (eVar 2)) [4] (gN 4) (tV (e2 fLt (eB fLen (aCons (eVar 4) aNil)) (eVar 1))) (e2 fPlus (eVar 4) (eTup (aCons (eVar 3) aNil))))))) a
    (fun r δ => ∃ (ch : List Ag) (s3 : Sl), δ = [.dat (agD a), .dat (.int h), .own (.list (ch.map agD)), s3, .no] ∧ isFr s3 = true ∧ r.foldl (subStep h) ch = subsF a h ∧ ch.length * 2 ^ r.length ≤ 2 ^ 10 ∧ ∀ s ∈ ch, s.length + r.length ≤ 10)
    [.dat (agD a), .dat (.int h), .own (.list ([[]].map agD)), .no, .no]
    (by
      rintro p r δ ⟨ch, s3, rfl, f3, hch, hb, hs⟩
      rw [List.length_cons, Nat.pow_succ] at hb
      have hpos : 1 ≤ 2 ^ r.length := Nat.one_le_two_pow
      have hc : ch.length * 2 ≤ 2 ^ 10 := by
        have : ch.length * 2 * 1 ≤ ch.length * 2 * 2 ^ r.length := Nat.mul_le_mul_left _ hpos
        rw [Nat.mul_comm (2 ^ r.length) 2, ← Nat.mul_assoc] at hb
        omega
      have h1 := lc_fm (enc := agD) (it := iL (eVar 2)) (vs := [4]) (g := gN 4) (t := tV (e2 fLt (eB fLen (aCons (eVar 4) aNil)) (eVar 1))) (e := e2 fPlus (eVar 4) (eTup (aCons (eVar 3) aNil))) (δ := [.dat (agD a), .dat (.int h), .own (.list (ch.map agD)), .dat (stepD p), .no]) (δ' := [.dat (agD a), .dat (.int h), .dat (.list (ch.map agD)), .dat (stepD p), .no]) (fun s => if (s.length : Int) < h then some (agD (s ++ [p])) else none) ch (by simp [sSeq, sAsg, sOwn, sIf, sRet, sRetO, sRetV, sRetN, sDrop, sNext, sCont, sBreak, sAug, sFor, sSetL, eVar, eC, e1, e2, eB, eTup, eO, oB, o2, oLst, oCall, oDict0X, oLc, oLc2, aNil, aCons, tV, tAnd', tOr', tNot', tT', tYesF, truth', truth, eIf, eAnd, eOr, eNot, eCh, eMt, eMt0, eCall, eIsi, isaD, typeD, isDct, eCntT, eGetX, sPutX, frzV, frzs, val, vals, slD, slDat, cont, setC, isListD, free_eq, isFr_no, isFr_dat, isFr_own, isFr_bor, gN, gT, partsD, iL, iT, iR1, iR2, iEnL, iEnT, iZLL, iZTT, iZTL, iKeysX, iValsX, iItemsX, fI0, fI, fPlus, fCatT, fAddS, fCatL, fRepT, fRepL, fIx, fLen, fAbs, fInt, fTup, fList, fAppend, fExtend, fPop, fPopAt, fMin2, fMax2, fNeg, fIsN, fNotN, isNone, fSum, fSumT, fInX, fIxX, fLenX, r1F, r2F, rgOk, compStep, wipeD, putB, keepD, startS, outsD, outD, mBody, mBodyO, sPar, yNil, yCons, xE, xO, setH, setHs, rdOk, List.set, bind_ite, atI_0, atI_1, atI_2, ixN_0, ixN_1, List.getElem?_cons_zero, eCallB, okL_1, okL_2, okL_3, okL_4, lentS, pinv, frzB, lendB, lent1, List.idxOf?, List.findIdx?, List.findIdx?.go, putS, putS1, oD1X, fEqXE]) (fun s hs' => by
        have := hs s hs'
        rw [List.length_cons] at this
        by_cases c : (s.length : Int) < h
        · simp [sSeq, sAsg, sOwn, sIf, sRet, sRetO, sRetV, sRetN, sDrop, sNext, sCont, sBreak, sAug, sFor, sSetL, eVar, eC, e1, e2, eB, eTup, eO, oB, o2, oLst, oCall, oDict0X, oLc, oLc2, aNil, aCons, tV, tAnd', tOr', tNot', tT', tYesF, truth', truth, eIf, eAnd, eOr, eNot, eCh, eMt, eMt0, eCall, eIsi, isaD, typeD, isDct, eCntT, eGetX, sPutX, frzV, frzs, val, vals, slD, slDat, cont, setC, isListD, free_eq, isFr_no, isFr_dat, isFr_own, isFr_bor, gN, gT, partsD, iL, iT, iR1, iR2, iEnL, iEnT, iZLL, iZTT, iZTL, iKeysX, iValsX, iItemsX, fI0, fI, fPlus, fCatT, fAddS, fCatL, fRepT, fRepL, fIx, fLen, fAbs, fInt, fTup, fList, fAppend, fExtend, fPop, fPopAt, fMin2, fMax2, fNeg, fIsN, fNotN, isNone, fSum, fSumT, fInX, fIxX, fLenX, r1F, r2F, rgOk, compStep, wipeD, putB, keepD, startS, outsD, outD, mBody, mBodyO, sPar, yNil, yCons, xE, xO, setH, setHs, rdOk, List.set, bind_ite, atI_0, atI_1, atI_2, ixN_0, ixN_1, List.getElem?_cons_zero, eCallB, okL_1, okL_2, okL_3, okL_4, lentS, pinv, frzB, lendB, lent1, List.idxOf?, List.findIdx?, List.findIdx?.go, putS, putS1, oD1X, fEqXE, agD, c, sizeLine_eq]
          omega
        · simp [sSeq, sAsg, sOwn, sIf, sRet, sRetO, sRetV, sRetN, sDrop, sNext, sCont, sBreak, sAug, sFor, sSetL, eVar, eC, e1, e2, eB, eTup, eO, oB, o2, oLst, oCall, oDict0X, oLc, oLc2, aNil, aCons, tV, tAnd', tOr', tNot', tT', tYesF, truth', truth, eIf, eAnd, eOr, eNot, eCh, eMt, eMt0, eCall, eIsi, isaD, typeD, isDct, eCntT, eGetX, sPutX, frzV, frzs, val, vals, slD, slDat, cont, setC, isListD, free_eq, isFr_no, isFr_dat, isFr_own, isFr_bor, gN, gT, partsD, iL, iT, iR1, iR2, iEnL, iEnT, iZLL, iZTT, iZTL, iKeysX, iValsX, iItemsX, fI0, fI, fPlus, fCatT, fAddS, fCatL, fRepT, fRepL, fIx, fLen, fAbs, fInt, fTup, fList, fAppend, fExtend, fPop, fPopAt, fMin2, fMax2, fNeg, fIsN, fNotN, isNone, fSum, fSumT, fInX, fIxX, fLenX, r1F, r2F, rgOk, compStep, wipeD, putB, keepD, startS, outsD, outD, mBody, mBodyO, sPar, yNil, yCons, xE, xO, setH, setHs, rdOk, List.set, bind_ite, atI_0, atI_1, atI_2, ixN_0, ixN_1, List.getElem?_cons_zero, eCallB, okL_1, okL_2, okL_3, okL_4, lentS, pinv, frzB, lendB, lent1, List.idxOf?, List.findIdx?, List.findIdx?.go, putS, putS1, oD1X, fEqXE, agD, c]) (by rw [sizeLine_eq]; omega)
      rw [subStep_fm] at h1
      have h2 := List.length_filter_le (fun s : Ag => decide ((s.length : Int) < h)) ch
      refine ⟨_, ?_, subStep h ch p, .dat (stepD p), rfl, rfl, hch, ?_, ?_⟩
      · simp [sSeq, sAsg, sOwn, sIf, sRet, sRetO, sRetV, sRetN, sDrop, sNext, sCont, sBreak, sAug, sSetL, eVar, eC, e1, e2, eB, eTup, eO, oB, o2, oLst, oCall, oDict0X, aNil, aCons, tV, tAnd', tOr', tNot', tT', tYesF, truth', truth, eIf, eAnd, eOr, eNot, eCh, eMt, eMt0, eIsi, isaD, typeD, isDct, eCntT, eGetX, sPutX, frzV, frzs, val, vals, slD, slDat, cont, setC, isListD, free_eq, isFr_no, isFr_dat, isFr_own, isFr_bor, gN, gT, partsD, iL, iT, iR1, iR2, iEnL, iEnT, iZLL, iZTT, iZTL, iKeysX, iValsX, iItemsX, fI0, fI, fPlus, fCatT, fAddS, fCatL, fRepT, fRepL, fIx, fLen, fAbs, fInt, fTup, fList, fAppend, fExtend, fPop, fPopAt, fMin2, fMax2, fNeg, fIsN, fNotN, isNone, fSum, fSumT, fInX, fIxX, fLenX, r1F, r2F, rgOk, wipeD, putB, keepD, startS, outsD, outD, mBody, mBodyO, sPar, yNil, yCons, xE, xO, setH, setHs, rdOk, List.set, bind_ite, atI_0, atI_1, atI_2, ixN_0, ixN_1, List.getElem?_cons_zero, okL_1, okL_2, okL_3, okL_4, lentS, pinv, frzB, lendB, lent1, List.idxOf?, List.findIdx?, List.findIdx?.go, putS, putS1, oD1X, fEqXE, f3, h1, sizeLine_eq, subStep]
        omega
      · have h3 := subStep_len h ch p
        calc _ ≤ 2 * ch.length * 2 ^ r.length := Nat.mul_le_mul_right _ h3
          _ = ch.length * (2 ^ r.length * 2) := by rw [Nat.mul_comm 2, Nat.mul_assoc, Nat.mul_comm 2]
          _ ≤ _ := hb
      · intro s hs'
        unfold subStep at hs'
        rcases List.mem_append.mp hs' with h4 | h4
        · have := hs s h4
          rw [List.length_cons] at this
          omega
        · obtain ⟨t, h5, rfl⟩ := List.mem_map.mp h4
          have := hs t (List.mem_filter.mp h5).1
          rw [List.length_cons] at this
          rw [List.length_append, List.length_singleton]
          omega)
    ⟨[[]], .no, rfl, rfl, rfl, by simpa using Nat.pow_le_pow_right (by decide) hl, fun s hs => by cases List.mem_singleton.mp hs; simpa using hl⟩
  have hch : ch = subsF a h := hch.1
  subst hch
  refine mB_rt (δ := [.dat (agD a), .dat (.int h), .dat (.list ((subsF a h).map agD)), s3, .no]) rfl ?_ rfl
  refine seq_to (δ' := [.dat (agD a), .dat (.int h), .own (.list ([[]].map agD)), .no, .no]) (by simp [sSeq, sAsg, sOwn, sIf, sRet, sRetO, sRetV, sRetN, sDrop, sNext, sCont, sBreak, sAug, sFor, sSetL, eVar, eC, e1, e2, eB, eTup, eO, oB, o2, oLst, oCall, oDict0X, oLc, oLc2, aNil, aCons, tV, tAnd', tOr', tNot', tT', tYesF, truth', truth, eIf, eAnd, eOr, eNot, eCh, eMt, eMt0, eCall, eIsi, isaD, typeD, isDct, eCntT, eGetX, sPutX, frzV, frzs, val, vals, slD, slDat, cont, setC, isListD, free_eq, isFr_no, isFr_dat, isFr_own, isFr_bor, gN, gT, partsD, iL, iT, iR1, iR2, iEnL, iEnT, iZLL, iZTT, iZTL, iKeysX, iValsX, iItemsX, fI0, fI, fPlus, fCatT, fAddS, fCatL, fRepT, fRepL, fIx, fLen, fAbs, fInt, fTup, fList, fAppend, fExtend, fPop, fPopAt, fMin2, fMax2, fNeg, fIsN, fNotN, isNone, fSum, fSumT, fInX, fIxX, fLenX, r1F, r2F, rgOk, compStep, wipeD, putB, keepD, startS, outsD, outD, mBody, mBodyO, sPar, yNil, yCons, xE, xO, setH, setHs, rdOk, List.set, bind_ite, atI_0, atI_1, atI_2, ixN_0, ixN_1, List.getElem?_cons_zero, eCallB, okL_1, okL_2, okL_3, okL_4, lentS, pinv, frzB, lendB, lent1, List.idxOf?, List.findIdx?, List.findIdx?.go, putS, putS1, oD1X, fEqXE, agD, sizeLine_eq]) ?_
  refine seq_to (δ' := [.dat (agD a), .dat (.int h), .own (.list ((subsF a h).map agD)), s3, .no]) ?_ (by simp [sSeq, sAsg, sOwn, sIf, sRet, sRetO, sRetV, sRetN, sDrop, sNext, sCont, sBreak, sAug, sFor, sSetL, eVar, eC, e1, e2, eB, eTup, eO, oB, o2, oLst, oCall, oDict0X, oLc, oLc2, aNil, aCons, tV, tAnd', tOr', tNot', tT', tYesF, truth', truth, eIf, eAnd, eOr, eNot, eCh, eMt, eMt0, eCall, eIsi, isaD, typeD, isDct, eCntT, eGetX, sPutX, frzV, frzs, val, vals, slD, slDat, cont, setC, isListD, free_eq, isFr_no, isFr_dat, isFr_own, isFr_bor, gN, gT, partsD, iL, iT, iR1, iR2, iEnL, iEnT, iZLL, iZTT, iZTL, iKeysX, iValsX, iItemsX, fI0, fI, fPlus, fCatT, fAddS, fCatL, fRepT, fRepL, fIx, fLen, fAbs, fInt, fTup, fList, fAppend, fExtend, fPop, fPopAt, fMin2, fMax2, fNeg, fIsN, fNotN, isNone, fSum, fSumT, fInX, fIxX, fLenX, r1F, r2F, rgOk, compStep, wipeD, putB, keepD, startS, outsD, outD, mBody, mBodyO, sPar, yNil, yCons, xE, xO, setH, setHs, rdOk, List.set, bind_ite, atI_0, atI_1, atI_2, ixN_0, ixN_1, List.getElem?_cons_zero, eCallB, okL_1, okL_2, okL_3, okL_4, lentS, pinv, frzB, lendB, lent1, List.idxOf?, List.findIdx?, List.findIdx?.go, putS, putS1, oD1X, fEqXE])
  rw [← e]
  rfl
/-! ### what may be laid -/
abbrev Mny := List (Option Int)
def mnD (m : Mny) : DT := .tuple (m.map optD)
abbrev Lot := List Nat
def lotD (l : Lot) : DT := .tuple (l.map fun (c : Nat) => PyData.int (c : Int))
def cntF (m : Option Int) (left : Int) : Nat := match m with
  | none => (left + 1).toNat
  | some x => (min x left + 1).toNat
def lotStep (room : Int) (ch : List Lot) (m : Option Int) : List Lot := ch.flatMap fun l => (List.range (cntF m (room - (l.sum : Nat)))).map fun c => l ++ [c]
def lotsF (ms : Mny) (room : Int) : List Lot := ms.foldl (lotStep room) [[]]
theorem cntF_le {m : Option Int} {left room : Int} (h : left ≤ room) : (cntF m left : Int) ≤ max 0 (room + 1) := by
  unfold cntF
  split
  · omega
  · next x =>
    have : min x left ≤ left := Int.min_le_right x left
    omega
theorem flat_len {α β : Type} (f : α → List β) (N : Nat) : ∀ (l : List α), (∀ x ∈ l, (f x).length ≤ N) → (l.flatMap f).length ≤ l.length * N
  | [], _ => by simp
  | x :: r, h => by
    rw [List.flatMap_cons, List.length_append, List.length_cons, Nat.succ_mul]
    have h1 := h x List.mem_cons_self
    have h2 := flat_len f N r fun y m => h y (List.mem_cons_of_mem _ m)
    omega
theorem lotStep_len (room : Int) (hr : room ≤ 3) (ch : List Lot) (m : Option Int) : (lotStep room ch m).length ≤ ch.length * 4 := by
  refine flat_len _ 4 ch fun l _ => ?_
  rw [List.length_map, List.length_range]
  have := cntF_le (m := m) (left := room - (l.sum : Nat)) (room := room) (by omega)
  omega
theorem nat_sum (l : Lot) : (l.map fun (c : Nat) => (c : Int)).sum = ((l.sum : Nat) : Int) := by
  induction l with
  | nil => rfl
  | cons x r ih => rw [List.map_cons, List.sum_cons, ih, List.sum_cons]; omega
theorem lots_ints (l : Lot) : intsD (l.map fun (c : Nat) => PyData.int (c : Int)) = some (l.map fun (c : Nat) => (c : Int)) := ints_map (fun c : Nat => (c : Int)) l
/-- what the law's walk over counts puts behind -/
theorem lots_while {s0 s1 s2 s7 : Sl} {m : Option Int} {room : Int} {l : Lot} {acc : List DT} (hm : ∀ x, m = some x → 0 ≤ x) (hr : room ≤ 3) (ha : acc.length ≤ 2 ^ 20) (hl : l.length ≤ 100) :
    ∃ s6, isFr s6 = true ∧ sWhile (tAnd' (tV (e2 fLe (e2 fPlus (eVar 6) (eB fSumT (aCons (eVar 5) aNil))) (eVar 1))) (tOr' (tV (e2 fIsN (eVar 3) (eC .none))) (tV (e2 fLe (eVar 6) (eVar 3)))))
      (sSeq (sDrop (eMt isListD 4 fAppend (aCons (e2 fPlus (eVar 5) (eTup (aCons (eVar 6) aNil))) aNil)))
      (sAsg (e2 fPlus (eVar 6) (eC (.int 1))) (gN 6)))
      [s0, .dat (.int room), s2, .dat (optD m), .own (.list acc), .dat (lotD l), .dat (.int 0)]
      = some (.nx [s0, .dat (.int room), s2, .dat (optD m), .own (.list (acc ++ ((List.range (cntF m (room - (l.sum : Nat)))).map fun c => lotD (l ++ [c])))), .dat (lotD l), s6]) := by
  generalize hN : cntF m (room - (l.sum : Nat)) = N
  have hN4 : N ≤ 4 := by
    have := cntF_le (m := m) (left := room - (l.sum : Nat)) (room := room) (by omega)
    omega
  have cond : ∀ c : Nat, ((c : Int) + ((l.sum : Nat) : Int) ≤ room ∧ (∀ x, m = some x → (c : Int) ≤ x)) ↔ c < N := by
    intro c
    rw [← hN]
    unfold cntF
    cases m with
    | none =>
      simp only [reduceCtorEq, false_implies, implies_true, and_true]
      omega
    | some x =>
      have hx := hm x rfl
      constructor
      · rintro ⟨h1, h2⟩
        have := h2 x rfl
        show c < (min x (room - (l.sum : Nat)) + 1).toNat
        have h3 : (c : Int) ≤ min x (room - (l.sum : Nat)) := by omega
        omega
      · intro h
        have h : c < (min x (room - (l.sum : Nat)) + 1).toNat := h
        have h3 : (c : Int) ≤ min x (room - (l.sum : Nat)) := by omega
        refine ⟨by omega, fun y e => by cases e; omega⟩
  obtain ⟨δ', e, s6, rfl, f6⟩ := while_all (c := tAnd' (tV (e2 fLe (e2 fPlus (eVar 6) (eB fSumT (aCons (eVar 5) aNil))) (eVar 1))) (tOr' (tV (e2 fIsN (eVar 3) (eC .none))) (tV (e2 fLe (eVar 6) (eVar 3)))))
    (b := sSeq (sDrop (eMt isListD 4 fAppend (aCons (e2 fPlus (eVar 5) (eTup (aCons (eVar 6) aNil))) aNil))) (sAsg (e2 fPlus (eVar 6) (eC (.int 1))) (gN 6)))
    (fun n δ => ∃ c : Nat, n = N - c ∧ c ≤ N ∧ δ = [s0, .dat (.int room), s2, .dat (optD m), .own (.list (acc ++ ((List.range c).map fun c => lotD (l ++ [c])))), .dat (lotD l), .dat (.int (c : Int))])
    (fun δ => ∃ s6, δ = [s0, .dat (.int room), s2, .dat (optD m), .own (.list (acc ++ ((List.range N).map fun c => lotD (l ++ [c])))), .dat (lotD l), s6] ∧ isFr s6 = true)
    (by
      rintro n δ ⟨c, rfl, hc, rfl⟩
      by_cases h : c < N
      · right
        obtain ⟨h1, h2⟩ := (cond c).mpr h
        refine ⟨[s0, .dat (.int room), s2, .dat (optD m), .own (.list (acc ++ ((List.range c).map fun c => lotD (l ++ [c])))), .dat (lotD l), .dat (.int (c : Int))], _, N - (c + 1), ?_, ?_, by omega, c + 1, rfl, h, rfl⟩
        · cases m with
          | none => simp [sSeq, sAsg, sOwn, sIf, sRet, sRetO, sRetV, sRetN, sDrop, sNext, sCont, sBreak, sAug, sFor, sSetL, eVar, eC, e1, e2, eB, eTup, eO, oB, o2, oLst, oCall, oDict0X, oLc, oLc2, aNil, aCons, tV, tAnd', tOr', tNot', tT', tYesF, truth', truth, eIf, eAnd, eOr, eNot, eCh, eMt, eMt0, eCall, eIsi, isaD, typeD, isDct, eCntT, eGetX, sPutX, frzV, frzs, val, vals, slD, slDat, cont, setC, isListD, free_eq, isFr_no, isFr_dat, isFr_own, isFr_bor, gN, gT, partsD, iL, iT, iR1, iR2, iEnL, iEnT, iZLL, iZTT, iZTL, iKeysX, iValsX, iItemsX, fI0, fI, fPlus, fCatT, fAddS, fCatL, fRepT, fRepL, fIx, fLen, fAbs, fInt, fTup, fList, fAppend, fExtend, fPop, fPopAt, fMin2, fMax2, fNeg, fIsN, fNotN, isNone, fSum, fSumT, fInX, fIxX, fLenX, r1F, r2F, rgOk, compStep, wipeD, putB, keepD, startS, outsD, outD, mBody, mBodyO, sPar, yNil, yCons, xE, xO, setH, setHs, rdOk, List.set, bind_ite, atI_0, atI_1, atI_2, ixN_0, ixN_1, List.getElem?_cons_zero, eCallB, okL_1, okL_2, okL_3, okL_4, lentS, pinv, frzB, lendB, lent1, List.idxOf?, List.findIdx?, List.findIdx?.go, putS, putS1, oD1X, fEqXE, lotD, lots_ints, nat_sum, h1, optD]
          | some x => simp [sSeq, sAsg, sOwn, sIf, sRet, sRetO, sRetV, sRetN, sDrop, sNext, sCont, sBreak, sAug, sFor, sSetL, eVar, eC, e1, e2, eB, eTup, eO, oB, o2, oLst, oCall, oDict0X, oLc, oLc2, aNil, aCons, tV, tAnd', tOr', tNot', tT', tYesF, truth', truth, eIf, eAnd, eOr, eNot, eCh, eMt, eMt0, eCall, eIsi, isaD, typeD, isDct, eCntT, eGetX, sPutX, frzV, frzs, val, vals, slD, slDat, cont, setC, isListD, free_eq, isFr_no, isFr_dat, isFr_own, isFr_bor, gN, gT, partsD, iL, iT, iR1, iR2, iEnL, iEnT, iZLL, iZTT, iZTL, iKeysX, iValsX, iItemsX, fI0, fI, fPlus, fCatT, fAddS, fCatL, fRepT, fRepL, fIx, fLen, fAbs, fInt, fTup, fList, fAppend, fExtend, fPop, fPopAt, fMin2, fMax2, fNeg, fIsN, fNotN, isNone, fSum, fSumT, fInX, fIxX, fLenX, r1F, r2F, rgOk, compStep, wipeD, putB, keepD, startS, outsD, outD, mBody, mBodyO, sPar, yNil, yCons, xE, xO, setH, setHs, rdOk, List.set, bind_ite, atI_0, atI_1, atI_2, ixN_0, ixN_1, List.getElem?_cons_zero, eCallB, okL_1, okL_2, okL_3, okL_4, lentS, pinv, frzB, lendB, lent1, List.idxOf?, List.findIdx?, List.findIdx?.go, putS, putS1, oD1X, fEqXE, lotD, lots_ints, nat_sum, h1, optD, h2 x rfl]
        · have q1 : l.length ≤ 16777215 := by omega
          have q2 : acc.length + c < 16777216 := by omega
          simp [sSeq, sAsg, sOwn, sIf, sRet, sRetO, sRetV, sRetN, sDrop, sNext, sCont, sBreak, sAug, sFor, sSetL, eVar, eC, e1, e2, eB, eTup, eO, oB, o2, oLst, oCall, oDict0X, oLc, oLc2, aNil, aCons, tV, tAnd', tOr', tNot', tT', tYesF, truth', truth, eIf, eAnd, eOr, eNot, eCh, eMt, eMt0, eCall, eIsi, isaD, typeD, isDct, eCntT, eGetX, sPutX, frzV, frzs, val, vals, slD, slDat, cont, setC, isListD, free_eq, isFr_no, isFr_dat, isFr_own, isFr_bor, gN, gT, partsD, iL, iT, iR1, iR2, iEnL, iEnT, iZLL, iZTT, iZTL, iKeysX, iValsX, iItemsX, fI0, fI, fPlus, fCatT, fAddS, fCatL, fRepT, fRepL, fIx, fLen, fAbs, fInt, fTup, fList, fAppend, fExtend, fPop, fPopAt, fMin2, fMax2, fNeg, fIsN, fNotN, isNone, fSum, fSumT, fInX, fIxX, fLenX, r1F, r2F, rgOk, compStep, wipeD, putB, keepD, startS, outsD, outD, mBody, mBodyO, sPar, yNil, yCons, xE, xO, setH, setHs, rdOk, List.set, bind_ite, atI_0, atI_1, atI_2, ixN_0, ixN_1, List.getElem?_cons_zero, eCallB, okL_1, okL_2, okL_3, okL_4, lentS, pinv, frzB, lendB, lent1, List.idxOf?, List.findIdx?, List.findIdx?.go, putS, putS1, oD1X, fEqXE, lotD, sizeLine_eq, List.range_succ, q1, q2]
      · left
        have ec : c = N := by omega
        subst ec
        refine ⟨[s0, .dat (.int room), s2, .dat (optD m), .own (.list (acc ++ ((List.range c).map fun c => lotD (l ++ [c])))), .dat (lotD l), .dat (.int (c : Int))], ?_, _, rfl, rfl⟩
        by_cases h1 : (c : Int) + ((l.sum : Nat) : Int) ≤ room
        · cases m with
          | none => exact absurd ((cond c).mp ⟨h1, fun x e => by cases e⟩) h
          | some x =>
            have h2 : ¬ (c : Int) ≤ x := fun z => h ((cond c).mp ⟨h1, fun y e => by cases e; exact z⟩)
            simp [sSeq, sAsg, sOwn, sIf, sRet, sRetO, sRetV, sRetN, sDrop, sNext, sCont, sBreak, sAug, sFor, sSetL, eVar, eC, e1, e2, eB, eTup, eO, oB, o2, oLst, oCall, oDict0X, oLc, oLc2, aNil, aCons, tV, tAnd', tOr', tNot', tT', tYesF, truth', truth, eIf, eAnd, eOr, eNot, eCh, eMt, eMt0, eCall, eIsi, isaD, typeD, isDct, eCntT, eGetX, sPutX, frzV, frzs, val, vals, slD, slDat, cont, setC, isListD, free_eq, isFr_no, isFr_dat, isFr_own, isFr_bor, gN, gT, partsD, iL, iT, iR1, iR2, iEnL, iEnT, iZLL, iZTT, iZTL, iKeysX, iValsX, iItemsX, fI0, fI, fPlus, fCatT, fAddS, fCatL, fRepT, fRepL, fIx, fLen, fAbs, fInt, fTup, fList, fAppend, fExtend, fPop, fPopAt, fMin2, fMax2, fNeg, fIsN, fNotN, isNone, fSum, fSumT, fInX, fIxX, fLenX, r1F, r2F, rgOk, compStep, wipeD, putB, keepD, startS, outsD, outD, mBody, mBodyO, sPar, yNil, yCons, xE, xO, setH, setHs, rdOk, List.set, bind_ite, atI_0, atI_1, atI_2, ixN_0, ixN_1, List.getElem?_cons_zero, eCallB, okL_1, okL_2, okL_3, okL_4, lentS, pinv, frzB, lendB, lent1, List.idxOf?, List.findIdx?, List.findIdx?.go, putS, putS1, oD1X, fEqXE, lotD, lots_ints, nat_sum, h1, optD, h2]
        · simp [sSeq, sAsg, sOwn, sIf, sRet, sRetO, sRetV, sRetN, sDrop, sNext, sCont, sBreak, sAug, sFor, sSetL, eVar, eC, e1, e2, eB, eTup, eO, oB, o2, oLst, oCall, oDict0X, oLc, oLc2, aNil, aCons, tV, tAnd', tOr', tNot', tT', tYesF, truth', truth, eIf, eAnd, eOr, eNot, eCh, eMt, eMt0, eCall, eIsi, isaD, typeD, isDct, eCntT, eGetX, sPutX, frzV, frzs, val, vals, slD, slDat, cont, setC, isListD, free_eq, isFr_no, isFr_dat, isFr_own, isFr_bor, gN, gT, partsD, iL, iT, iR1, iR2, iEnL, iEnT, iZLL, iZTT, iZTL, iKeysX, iValsX, iItemsX, fI0, fI, fPlus, fCatT, fAddS, fCatL, fRepT, fRepL, fIx, fLen, fAbs, fInt, fTup, fList, fAppend, fExtend, fPop, fPopAt, fMin2, fMax2, fNeg, fIsN, fNotN, isNone, fSum, fSumT, fInX, fIxX, fLenX, r1F, r2F, rgOk, compStep, wipeD, putB, keepD, startS, outsD, outD, mBody, mBodyO, sPar, yNil, yCons, xE, xO, setH, setHs, rdOk, List.set, bind_ite, atI_0, atI_1, atI_2, ixN_0, ixN_1, List.getElem?_cons_zero, eCallB, okL_1, okL_2, okL_3, okL_4, lentS, pinv, frzB, lendB, lent1, List.idxOf?, List.findIdx?, List.findIdx?.go, putS, putS1, oD1X, fEqXE, lotD, lots_ints, nat_sum, h1])
    N [s0, .dat (.int room), s2, .dat (optD m), .own (.list acc), .dat (lotD l), .dat (.int 0)] ⟨0, rfl, Nat.zero_le _, by simp⟩
  exact ⟨s6, f6, e⟩
def ManysOk (ms : Mny) : Prop := ms.length ≤ 4 ∧ ∀ m ∈ ms, ∀ x, m = some x → 0 ≤ x ∧ x ≤ 9
theorem lots_grow {ms : Mny} {room : Int} (hr : room ≤ 3) : ∀ (r : Mny) (ch : List Lot), (r.foldl (lotStep room) ch).length ≤ ch.length * 4 ^ r.length
  | [], ch => by simp
  | m :: r, ch => by
    rw [List.foldl_cons, List.length_cons, Nat.pow_succ]
    have h1 := lots_grow (ms := ms) hr r (lotStep room ch m)
    have h2 := lotStep_len room hr ch m
    calc _ ≤ _ := h1
      _ ≤ ch.length * 4 * 4 ^ r.length := Nat.mul_le_mul_right _ h2
      _ = _ := by rw [Nat.mul_assoc, Nat.mul_comm 4]
theorem e_lots {ms : Mny} {room : Int} (hm : ManysOk ms) (hr : room ≤ 3) : m__law_lots [mnD ms, .int room] = some (.list ((lotsF ms room).map lotD), [.none, .none]) := by
  obtain ⟨δ', e, ch, s3, s4, s5, s6, hδ, f3, f4, f5, f6, hch, _⟩ := loop_all (enc := optD) (g := gN 3) (b := sSeq (sOwn 4 (oLst aNil))
    (sSeq (sFor (iL (eVar 2)) (gN 5)
    (sSeq (sAsg (eC (.int 0)) (gN 6))
    (sWhile (tAnd' (tV (e2 fLe (e2 fPlus (eVar 6) (eB fSumT (aCons (eVar 5) aNil))) (eVar 1))) (tOr' (tV (e2 fIsN (eVar 3) (eC .none))) (tV (e2 fLe (eVar 6) (eVar 3)))))
    (sSeq (sDrop (eMt isListD 4 fAppend (aCons (e2 fPlus (eVar 5) (eTup (aCons (eVar 6) aNil))) aNil)))
    (sAsg (e2 fPlus (eVar 6) (eC (.int 1))) (gN 6))))))
    (sAsg (eVar 4) (gN 2)))) ms
    (fun r δ => ∃ (ch : List Lot) (s3 s4 s5 s6 : Sl), (δ = [.dat (mnD ms), .dat (.int room), .dat (.list (ch.map lotD)), s3, s4, s5, s6] ∨ δ = [.dat (mnD ms), .dat (.int room), .own (.list (ch.map lotD)), s3, s4, s5, s6]) ∧ isFr s3 = true ∧ isFr s4 = true ∧ isFr s5 = true ∧ isFr s6 = true ∧ r.foldl (lotStep room) ch = lotsF ms room ∧ ch.length * 4 ^ r.length ≤ 4 ^ 4 ∧ (∀ l ∈ ch, l.length + r.length ≤ 4) ∧ ∀ m ∈ r, m ∈ ms)
    [.dat (mnD ms), .dat (.int room), .own (.list ([[]].map lotD)), .no, .no, .no, .no]
    (by
      rintro m r δ ⟨ch, s3, s4, s5, s6, hδ, f3, f4, f5, f6, hch, hb, hl4, hms⟩
      rw [List.length_cons, Nat.pow_succ] at hb
      have hpos : 1 ≤ 4 ^ r.length := Nat.one_le_pow _ _ (by decide)
      have hc : ch.length ≤ 4 ^ 4 := by
        have : ch.length * 1 ≤ ch.length * (4 ^ r.length * 4) := Nat.mul_le_mul_left _ (by omega)
        omega
      have hm0 : ∀ x, m = some x → 0 ≤ x := fun x e => (hm.2 m (hms m List.mem_cons_self) x e).1
      -- the walk over the lots
      obtain ⟨δ2, e2', acc, s5', s6', rfl, f5', f6', hacc⟩ := loop_all (enc := lotD) (g := gN 5) (b := sSeq (sAsg (eC (.int 0)) (gN 6))
        (sWhile (tAnd' (tV (e2 fLe (e2 fPlus (eVar 6) (eB fSumT (aCons (eVar 5) aNil))) (eVar 1))) (tOr' (tV (e2 fIsN (eVar 3) (eC .none))) (tV (e2 fLe (eVar 6) (eVar 3)))))
        (sSeq (sDrop (eMt isListD 4 fAppend (aCons (e2 fPlus (eVar 5) (eTup (aCons (eVar 6) aNil))) aNil)))
        (sAsg (e2 fPlus (eVar 6) (eC (.int 1))) (gN 6))))) ch
        (fun q δ => ∃ (acc : List Lot) (s5 s6 : Sl), δ = [.dat (mnD ms), .dat (.int room), .dat (.list (ch.map lotD)), .dat (optD m), .own (.list (acc.map lotD)), s5, s6] ∧ isFr s5 = true ∧ isFr s6 = true ∧ acc ++ lotStep room q m = lotStep room ch m ∧ (∀ l ∈ q, l ∈ ch))
        [.dat (mnD ms), .dat (.int room), .dat (.list (ch.map lotD)), .dat (optD m), .own (.list (([] : List Lot).map lotD)), s5, s6]
        (by
          rintro l q δ ⟨acc, s5, s6, rfl, f5, f6, hacc, hq⟩
          have hle := lotStep_len room hr ch m
          have hal : acc.length ≤ 2 ^ 20 := by
            have : acc.length ≤ (lotStep room ch m).length := by rw [← hacc, List.length_append]; omega
            have : (4 : Nat) ^ 4 * 4 ≤ 2 ^ 20 := by decide
            omega
          have hll := hl4 l (hq l List.mem_cons_self)
          obtain ⟨s6', f6', e3⟩ := lots_while (s0 := .dat (mnD ms)) (s1 := .no) (s2 := .dat (.list (ch.map lotD))) (s7 := .no) (m := m) (room := room) (l := l) (acc := acc.map lotD) hm0 hr (by rw [List.length_map]; exact hal) (by omega)
          refine ⟨_, ?_, acc ++ ((List.range (cntF m (room - (l.sum : Nat)))).map fun c => l ++ [c]), .dat (lotD l), s6', rfl, rfl, f6', ?_, fun l' h => hq l' (List.mem_cons_of_mem _ h)⟩
          · have e4 : (gN 5 (lotD l) [.dat (mnD ms), .dat (.int room), .dat (.list (ch.map lotD)), .dat (optD m), .own (.list (acc.map lotD)), s5, s6]) = some [.dat (mnD ms), .dat (.int room), .dat (.list (ch.map lotD)), .dat (optD m), .own (.list (acc.map lotD)), .dat (lotD l), s6] := by simp [sSeq, sAsg, sOwn, sIf, sRet, sRetO, sRetV, sRetN, sDrop, sNext, sCont, sBreak, sAug, sFor, sSetL, eVar, eC, e1, e2, eB, eTup, eO, oB, o2, oLst, oCall, oDict0X, oLc, oLc2, aNil, aCons, tV, tAnd', tOr', tNot', tT', tYesF, truth', truth, eIf, eAnd, eOr, eNot, eCh, eMt, eMt0, eCall, eIsi, isaD, typeD, isDct, eCntT, eGetX, sPutX, frzV, frzs, val, vals, slD, slDat, cont, setC, isListD, free_eq, isFr_no, isFr_dat, isFr_own, isFr_bor, gN, gT, partsD, iL, iT, iR1, iR2, iEnL, iEnT, iZLL, iZTT, iZTL, iKeysX, iValsX, iItemsX, fI0, fI, fPlus, fCatT, fAddS, fCatL, fRepT, fRepL, fIx, fLen, fAbs, fInt, fTup, fList, fAppend, fExtend, fPop, fPopAt, fMin2, fMax2, fNeg, fIsN, fNotN, isNone, fSum, fSumT, fInX, fIxX, fLenX, r1F, r2F, rgOk, compStep, wipeD, putB, keepD, startS, outsD, outD, mBody, mBodyO, sPar, yNil, yCons, xE, xO, setH, setHs, rdOk, List.set, bind_ite, atI_0, atI_1, atI_2, ixN_0, ixN_1, List.getElem?_cons_zero, eCallB, okL_1, okL_2, okL_3, okL_4, lentS, pinv, frzB, lendB, lent1, List.idxOf?, List.findIdx?, List.findIdx?.go, putS, putS1, oD1X, fEqXE, f5]
            rw [e4, Option.bind_some]
            refine seq_to (δ' := [.dat (mnD ms), .dat (.int room), .dat (.list (ch.map lotD)), .dat (optD m), .own (.list (acc.map lotD)), .dat (lotD l), .dat (.int 0)]) (by simp [sSeq, sAsg, sOwn, sIf, sRet, sRetO, sRetV, sRetN, sDrop, sNext, sCont, sBreak, sAug, sFor, sSetL, eVar, eC, e1, e2, eB, eTup, eO, oB, o2, oLst, oCall, oDict0X, oLc, oLc2, aNil, aCons, tV, tAnd', tOr', tNot', tT', tYesF, truth', truth, eIf, eAnd, eOr, eNot, eCh, eMt, eMt0, eCall, eIsi, isaD, typeD, isDct, eCntT, eGetX, sPutX, frzV, frzs, val, vals, slD, slDat, cont, setC, isListD, free_eq, isFr_no, isFr_dat, isFr_own, isFr_bor, gN, gT, partsD, iL, iT, iR1, iR2, iEnL, iEnT, iZLL, iZTT, iZTL, iKeysX, iValsX, iItemsX, fI0, fI, fPlus, fCatT, fAddS, fCatL, fRepT, fRepL, fIx, fLen, fAbs, fInt, fTup, fList, fAppend, fExtend, fPop, fPopAt, fMin2, fMax2, fNeg, fIsN, fNotN, isNone, fSum, fSumT, fInX, fIxX, fLenX, r1F, r2F, rgOk, compStep, wipeD, putB, keepD, startS, outsD, outD, mBody, mBodyO, sPar, yNil, yCons, xE, xO, setH, setHs, rdOk, List.set, bind_ite, atI_0, atI_1, atI_2, ixN_0, ixN_1, List.getElem?_cons_zero, eCallB, okL_1, okL_2, okL_3, okL_4, lentS, pinv, frzB, lendB, lent1, List.idxOf?, List.findIdx?, List.findIdx?.go, putS, putS1, oD1X, fEqXE, f6]) ?_
            rw [e3]
            simp [List.map_append, List.map_map, Function.comp_def]
          · rw [← hacc]
            unfold lotStep
            rw [List.flatMap_cons, List.append_assoc])
        ⟨[], s5, s6, rfl, f5, f6, rfl, fun l h => h⟩
      have hacc : acc = lotStep room ch m := by
        have h := hacc.1
        rw [show lotStep room [] m = [] from rfl, List.append_nil] at h
        exact h
      subst hacc
      have hit : ∀ s4' : Sl, iL (eVar 2) ([.dat (mnD ms), .dat (.int room), .dat (.list (ch.map lotD)), .dat (optD m), s4', s5, s6]) = some (ch.map lotD, [.dat (mnD ms), .dat (.int room), .dat (.list (ch.map lotD)), .dat (optD m), s4', s5, s6]) := fun s4' => by simp [sSeq, sAsg, sOwn, sIf, sRet, sRetO, sRetV, sRetN, sDrop, sNext, sCont, sBreak, sAug, sFor, sSetL, eVar, eC, e1, e2, eB, eTup, eO, oB, o2, oLst, oCall, oDict0X, oLc, oLc2, aNil, aCons, tV, tAnd', tOr', tNot', tT', tYesF, truth', truth, eIf, eAnd, eOr, eNot, eCh, eMt, eMt0, eCall, eIsi, isaD, typeD, isDct, eCntT, eGetX, sPutX, frzV, frzs, val, vals, slD, slDat, cont, setC, isListD, free_eq, isFr_no, isFr_dat, isFr_own, isFr_bor, gN, gT, partsD, iL, iT, iR1, iR2, iEnL, iEnT, iZLL, iZTT, iZTL, iKeysX, iValsX, iItemsX, fI0, fI, fPlus, fCatT, fAddS, fCatL, fRepT, fRepL, fIx, fLen, fAbs, fInt, fTup, fList, fAppend, fExtend, fPop, fPopAt, fMin2, fMax2, fNeg, fIsN, fNotN, isNone, fSum, fSumT, fInX, fIxX, fLenX, r1F, r2F, rgOk, compStep, wipeD, putB, keepD, startS, outsD, outD, mBody, mBodyO, sPar, yNil, yCons, xE, xO, setH, setHs, rdOk, List.set, bind_ite, atI_0, atI_1, atI_2, ixN_0, ixN_1, List.getElem?_cons_zero, eCallB, okL_1, okL_2, okL_3, okL_4, lentS, pinv, frzB, lendB, lent1, List.idxOf?, List.findIdx?, List.findIdx?.go, putS, putS1, oD1X, fEqXE]
      have hit2 : ∀ s4' : Sl, iL (eVar 2) ([.dat (mnD ms), .dat (.int room), .own (.list (ch.map lotD)), .dat (optD m), s4', s5, s6]) = some (ch.map lotD, [.dat (mnD ms), .dat (.int room), .dat (.list (ch.map lotD)), .dat (optD m), s4', s5, s6]) := fun s4' => by simp [sSeq, sAsg, sOwn, sIf, sRet, sRetO, sRetV, sRetN, sDrop, sNext, sCont, sBreak, sAug, sFor, sSetL, eVar, eC, e1, e2, eB, eTup, eO, oB, o2, oLst, oCall, oDict0X, oLc, oLc2, aNil, aCons, tV, tAnd', tOr', tNot', tT', tYesF, truth', truth, eIf, eAnd, eOr, eNot, eCh, eMt, eMt0, eCall, eIsi, isaD, typeD, isDct, eCntT, eGetX, sPutX, frzV, frzs, val, vals, slD, slDat, cont, setC, isListD, free_eq, isFr_no, isFr_dat, isFr_own, isFr_bor, gN, gT, partsD, iL, iT, iR1, iR2, iEnL, iEnT, iZLL, iZTT, iZTL, iKeysX, iValsX, iItemsX, fI0, fI, fPlus, fCatT, fAddS, fCatL, fRepT, fRepL, fIx, fLen, fAbs, fInt, fTup, fList, fAppend, fExtend, fPop, fPopAt, fMin2, fMax2, fNeg, fIsN, fNotN, isNone, fSum, fSumT, fInX, fIxX, fLenX, r1F, r2F, rgOk, compStep, wipeD, putB, keepD, startS, outsD, outD, mBody, mBodyO, sPar, yNil, yCons, xE, xO, setH, setHs, rdOk, List.set, bind_ite, atI_0, atI_1, atI_2, ixN_0, ixN_1, List.getElem?_cons_zero, eCallB, okL_1, okL_2, okL_3, okL_4, lentS, pinv, frzB, lendB, lent1, List.idxOf?, List.findIdx?, List.findIdx?.go, putS, putS1, oD1X, fEqXE]
      refine ⟨[.dat (mnD ms), .dat (.int room), .dat (.list ((lotStep room ch m).map lotD)), .dat (optD m), .dat (.list ((lotStep room ch m).map lotD)), s5', s6'], ?_, lotStep room ch m, _, _, _, _, .inl rfl, rfl, rfl, f5', f6', hch, ?_, ?_, fun m' h => hms m' (List.mem_cons_of_mem _ h)⟩
      · rcases hδ with rfl | rfl
        · have e4 : (gN 3 (optD m) [.dat (mnD ms), .dat (.int room), .dat (.list (ch.map lotD)), s3, s4, s5, s6]) = some [.dat (mnD ms), .dat (.int room), .dat (.list (ch.map lotD)), .dat (optD m), s4, s5, s6] := by simp [sSeq, sAsg, sOwn, sIf, sRet, sRetO, sRetV, sRetN, sDrop, sNext, sCont, sBreak, sAug, sFor, sSetL, eVar, eC, e1, e2, eB, eTup, eO, oB, o2, oLst, oCall, oDict0X, oLc, oLc2, aNil, aCons, tV, tAnd', tOr', tNot', tT', tYesF, truth', truth, eIf, eAnd, eOr, eNot, eCh, eMt, eMt0, eCall, eIsi, isaD, typeD, isDct, eCntT, eGetX, sPutX, frzV, frzs, val, vals, slD, slDat, cont, setC, isListD, free_eq, isFr_no, isFr_dat, isFr_own, isFr_bor, gN, gT, partsD, iL, iT, iR1, iR2, iEnL, iEnT, iZLL, iZTT, iZTL, iKeysX, iValsX, iItemsX, fI0, fI, fPlus, fCatT, fAddS, fCatL, fRepT, fRepL, fIx, fLen, fAbs, fInt, fTup, fList, fAppend, fExtend, fPop, fPopAt, fMin2, fMax2, fNeg, fIsN, fNotN, isNone, fSum, fSumT, fInX, fIxX, fLenX, r1F, r2F, rgOk, compStep, wipeD, putB, keepD, startS, outsD, outD, mBody, mBodyO, sPar, yNil, yCons, xE, xO, setH, setHs, rdOk, List.set, bind_ite, atI_0, atI_1, atI_2, ixN_0, ixN_1, List.getElem?_cons_zero, eCallB, okL_1, okL_2, okL_3, okL_4, lentS, pinv, frzB, lendB, lent1, List.idxOf?, List.findIdx?, List.findIdx?.go, putS, putS1, oD1X, fEqXE, f3]
          rw [e4, Option.bind_some]
          refine seq_to (δ' := [.dat (mnD ms), .dat (.int room), .dat (.list (ch.map lotD)), .dat (optD m), .own (.list []), s5, s6]) (by simp [sSeq, sAsg, sOwn, sIf, sRet, sRetO, sRetV, sRetN, sDrop, sNext, sCont, sBreak, sAug, sFor, sSetL, eVar, eC, e1, e2, eB, eTup, eO, oB, o2, oLst, oCall, oDict0X, oLc, oLc2, aNil, aCons, tV, tAnd', tOr', tNot', tT', tYesF, truth', truth, eIf, eAnd, eOr, eNot, eCh, eMt, eMt0, eCall, eIsi, isaD, typeD, isDct, eCntT, eGetX, sPutX, frzV, frzs, val, vals, slD, slDat, cont, setC, isListD, free_eq, isFr_no, isFr_dat, isFr_own, isFr_bor, gN, gT, partsD, iL, iT, iR1, iR2, iEnL, iEnT, iZLL, iZTT, iZTL, iKeysX, iValsX, iItemsX, fI0, fI, fPlus, fCatT, fAddS, fCatL, fRepT, fRepL, fIx, fLen, fAbs, fInt, fTup, fList, fAppend, fExtend, fPop, fPopAt, fMin2, fMax2, fNeg, fIsN, fNotN, isNone, fSum, fSumT, fInX, fIxX, fLenX, r1F, r2F, rgOk, compStep, wipeD, putB, keepD, startS, outsD, outD, mBody, mBodyO, sPar, yNil, yCons, xE, xO, setH, setHs, rdOk, List.set, bind_ite, atI_0, atI_1, atI_2, ixN_0, ixN_1, List.getElem?_cons_zero, eCallB, okL_1, okL_2, okL_3, okL_4, lentS, pinv, frzB, lendB, lent1, List.idxOf?, List.findIdx?, List.findIdx?.go, putS, putS1, oD1X, fEqXE, f4]) ?_
          refine seq_to (δ' := [.dat (mnD ms), .dat (.int room), .dat (.list (ch.map lotD)), .dat (optD m), .own (.list ((lotStep room ch m).map lotD)), s5', s6']) ?_ (by simp [sSeq, sAsg, sOwn, sIf, sRet, sRetO, sRetV, sRetN, sDrop, sNext, sCont, sBreak, sAug, sFor, sSetL, eVar, eC, e1, e2, eB, eTup, eO, oB, o2, oLst, oCall, oDict0X, oLc, oLc2, aNil, aCons, tV, tAnd', tOr', tNot', tT', tYesF, truth', truth, eIf, eAnd, eOr, eNot, eCh, eMt, eMt0, eCall, eIsi, isaD, typeD, isDct, eCntT, eGetX, sPutX, frzV, frzs, val, vals, slD, slDat, cont, setC, isListD, free_eq, isFr_no, isFr_dat, isFr_own, isFr_bor, gN, gT, partsD, iL, iT, iR1, iR2, iEnL, iEnT, iZLL, iZTT, iZTL, iKeysX, iValsX, iItemsX, fI0, fI, fPlus, fCatT, fAddS, fCatL, fRepT, fRepL, fIx, fLen, fAbs, fInt, fTup, fList, fAppend, fExtend, fPop, fPopAt, fMin2, fMax2, fNeg, fIsN, fNotN, isNone, fSum, fSumT, fInX, fIxX, fLenX, r1F, r2F, rgOk, compStep, wipeD, putB, keepD, startS, outsD, outD, mBody, mBodyO, sPar, yNil, yCons, xE, xO, setH, setHs, rdOk, List.set, bind_ite, atI_0, atI_1, atI_2, ixN_0, ixN_1, List.getElem?_cons_zero, eCallB, okL_1, okL_2, okL_3, okL_4, lentS, pinv, frzB, lendB, lent1, List.idxOf?, List.findIdx?, List.findIdx?.go, putS, putS1, oD1X, fEqXE])
          unfold sFor
          rw [hit]
          exact e2'
        · have e4 : (gN 3 (optD m) [.dat (mnD ms), .dat (.int room), .own (.list (ch.map lotD)), s3, s4, s5, s6]) = some [.dat (mnD ms), .dat (.int room), .own (.list (ch.map lotD)), .dat (optD m), s4, s5, s6] := by simp [sSeq, sAsg, sOwn, sIf, sRet, sRetO, sRetV, sRetN, sDrop, sNext, sCont, sBreak, sAug, sFor, sSetL, eVar, eC, e1, e2, eB, eTup, eO, oB, o2, oLst, oCall, oDict0X, oLc, oLc2, aNil, aCons, tV, tAnd', tOr', tNot', tT', tYesF, truth', truth, eIf, eAnd, eOr, eNot, eCh, eMt, eMt0, eCall, eIsi, isaD, typeD, isDct, eCntT, eGetX, sPutX, frzV, frzs, val, vals, slD, slDat, cont, setC, isListD, free_eq, isFr_no, isFr_dat, isFr_own, isFr_bor, gN, gT, partsD, iL, iT, iR1, iR2, iEnL, iEnT, iZLL, iZTT, iZTL, iKeysX, iValsX, iItemsX, fI0, fI, fPlus, fCatT, fAddS, fCatL, fRepT, fRepL, fIx, fLen, fAbs, fInt, fTup, fList, fAppend, fExtend, fPop, fPopAt, fMin2, fMax2, fNeg, fIsN, fNotN, isNone, fSum, fSumT, fInX, fIxX, fLenX, r1F, r2F, rgOk, compStep, wipeD, putB, keepD, startS, outsD, outD, mBody, mBodyO, sPar, yNil, yCons, xE, xO, setH, setHs, rdOk, List.set, bind_ite, atI_0, atI_1, atI_2, ixN_0, ixN_1, List.getElem?_cons_zero, eCallB, okL_1, okL_2, okL_3, okL_4, lentS, pinv, frzB, lendB, lent1, List.idxOf?, List.findIdx?, List.findIdx?.go, putS, putS1, oD1X, fEqXE, f3]
          rw [e4, Option.bind_some]
          refine seq_to (δ' := [.dat (mnD ms), .dat (.int room), .own (.list (ch.map lotD)), .dat (optD m), .own (.list []), s5, s6]) (by simp [sSeq, sAsg, sOwn, sIf, sRet, sRetO, sRetV, sRetN, sDrop, sNext, sCont, sBreak, sAug, sFor, sSetL, eVar, eC, e1, e2, eB, eTup, eO, oB, o2, oLst, oCall, oDict0X, oLc, oLc2, aNil, aCons, tV, tAnd', tOr', tNot', tT', tYesF, truth', truth, eIf, eAnd, eOr, eNot, eCh, eMt, eMt0, eCall, eIsi, isaD, typeD, isDct, eCntT, eGetX, sPutX, frzV, frzs, val, vals, slD, slDat, cont, setC, isListD, free_eq, isFr_no, isFr_dat, isFr_own, isFr_bor, gN, gT, partsD, iL, iT, iR1, iR2, iEnL, iEnT, iZLL, iZTT, iZTL, iKeysX, iValsX, iItemsX, fI0, fI, fPlus, fCatT, fAddS, fCatL, fRepT, fRepL, fIx, fLen, fAbs, fInt, fTup, fList, fAppend, fExtend, fPop, fPopAt, fMin2, fMax2, fNeg, fIsN, fNotN, isNone, fSum, fSumT, fInX, fIxX, fLenX, r1F, r2F, rgOk, compStep, wipeD, putB, keepD, startS, outsD, outD, mBody, mBodyO, sPar, yNil, yCons, xE, xO, setH, setHs, rdOk, List.set, bind_ite, atI_0, atI_1, atI_2, ixN_0, ixN_1, List.getElem?_cons_zero, eCallB, okL_1, okL_2, okL_3, okL_4, lentS, pinv, frzB, lendB, lent1, List.idxOf?, List.findIdx?, List.findIdx?.go, putS, putS1, oD1X, fEqXE, f4]) ?_
          refine seq_to (δ' := [.dat (mnD ms), .dat (.int room), .dat (.list (ch.map lotD)), .dat (optD m), .own (.list ((lotStep room ch m).map lotD)), s5', s6']) ?_ (by simp [sSeq, sAsg, sOwn, sIf, sRet, sRetO, sRetV, sRetN, sDrop, sNext, sCont, sBreak, sAug, sFor, sSetL, eVar, eC, e1, e2, eB, eTup, eO, oB, o2, oLst, oCall, oDict0X, oLc, oLc2, aNil, aCons, tV, tAnd', tOr', tNot', tT', tYesF, truth', truth, eIf, eAnd, eOr, eNot, eCh, eMt, eMt0, eCall, eIsi, isaD, typeD, isDct, eCntT, eGetX, sPutX, frzV, frzs, val, vals, slD, slDat, cont, setC, isListD, free_eq, isFr_no, isFr_dat, isFr_own, isFr_bor, gN, gT, partsD, iL, iT, iR1, iR2, iEnL, iEnT, iZLL, iZTT, iZTL, iKeysX, iValsX, iItemsX, fI0, fI, fPlus, fCatT, fAddS, fCatL, fRepT, fRepL, fIx, fLen, fAbs, fInt, fTup, fList, fAppend, fExtend, fPop, fPopAt, fMin2, fMax2, fNeg, fIsN, fNotN, isNone, fSum, fSumT, fInX, fIxX, fLenX, r1F, r2F, rgOk, compStep, wipeD, putB, keepD, startS, outsD, outD, mBody, mBodyO, sPar, yNil, yCons, xE, xO, setH, setHs, rdOk, List.set, bind_ite, atI_0, atI_1, atI_2, ixN_0, ixN_1, List.getElem?_cons_zero, eCallB, okL_1, okL_2, okL_3, okL_4, lentS, pinv, frzB, lendB, lent1, List.idxOf?, List.findIdx?, List.findIdx?.go, putS, putS1, oD1X, fEqXE])
          unfold sFor
          rw [hit2]
          exact e2'
      · have h3 := lotStep_len room hr ch m
        calc _ ≤ ch.length * 4 * 4 ^ r.length := Nat.mul_le_mul_right _ h3
          _ = ch.length * (4 ^ r.length * 4) := by rw [Nat.mul_assoc, Nat.mul_comm 4]
          _ ≤ _ := hb
      · intro l hl
        unfold lotStep at hl
        obtain ⟨l', h1, h2⟩ := List.mem_flatMap.mp hl
        obtain ⟨c, _, rfl⟩ := List.mem_map.mp h2
        have := hl4 l' h1
        rw [List.length_cons] at this
        rw [List.length_append, List.length_singleton]
        omega)
    ⟨[[]], .no, .no, .no, .no, .inr rfl, rfl, rfl, rfl, rfl, rfl, by simpa using Nat.pow_le_pow_right (by decide) hm.1, fun l h => by cases List.mem_singleton.mp h; simpa using hm.1, fun m h => h⟩
  have hch : ch = lotsF ms room := hch
  subst hch
  have hs : sFor (iT (eVar 0)) (gN 3) (sSeq (sOwn 4 (oLst aNil))
    (sSeq (sFor (iL (eVar 2)) (gN 5)
    (sSeq (sAsg (eC (.int 0)) (gN 6))
    (sWhile (tAnd' (tV (e2 fLe (e2 fPlus (eVar 6) (eB fSumT (aCons (eVar 5) aNil))) (eVar 1))) (tOr' (tV (e2 fIsN (eVar 3) (eC .none))) (tV (e2 fLe (eVar 6) (eVar 3)))))
    (sSeq (sDrop (eMt isListD 4 fAppend (aCons (e2 fPlus (eVar 5) (eTup (aCons (eVar 6) aNil))) aNil)))
    (sAsg (e2 fPlus (eVar 6) (eC (.int 1))) (gN 6))))))
    (sAsg (eVar 4) (gN 2)))) [.dat (mnD ms), .dat (.int room), .own (.list ([[]].map lotD)), .no, .no, .no, .no] = some (.nx δ') := e
  refine mB_rt (δ := [.dat (mnD ms), .dat (.int room), .dat (.list ((lotsF ms room).map lotD)), s3, s4, s5, s6]) rfl ?_ rfl
  refine seq_to (δ' := [.dat (mnD ms), .dat (.int room), .own (.list ([[]].map lotD)), .no, .no, .no, .no]) (by simp [sSeq, sAsg, sOwn, sIf, sRet, sRetO, sRetV, sRetN, sDrop, sNext, sCont, sBreak, sAug, sFor, sSetL, eVar, eC, e1, e2, eB, eTup, eO, oB, o2, oLst, oCall, oDict0X, oLc, oLc2, aNil, aCons, tV, tAnd', tOr', tNot', tT', tYesF, truth', truth, eIf, eAnd, eOr, eNot, eCh, eMt, eMt0, eCall, eIsi, isaD, typeD, isDct, eCntT, eGetX, sPutX, frzV, frzs, val, vals, slD, slDat, cont, setC, isListD, free_eq, isFr_no, isFr_dat, isFr_own, isFr_bor, gN, gT, partsD, iL, iT, iR1, iR2, iEnL, iEnT, iZLL, iZTT, iZTL, iKeysX, iValsX, iItemsX, fI0, fI, fPlus, fCatT, fAddS, fCatL, fRepT, fRepL, fIx, fLen, fAbs, fInt, fTup, fList, fAppend, fExtend, fPop, fPopAt, fMin2, fMax2, fNeg, fIsN, fNotN, isNone, fSum, fSumT, fInX, fIxX, fLenX, r1F, r2F, rgOk, compStep, wipeD, putB, keepD, startS, outsD, outD, mBody, mBodyO, sPar, yNil, yCons, xE, xO, setH, setHs, rdOk, List.set, bind_ite, atI_0, atI_1, atI_2, ixN_0, ixN_1, List.getElem?_cons_zero, eCallB, okL_1, okL_2, okL_3, okL_4, lentS, pinv, frzB, lendB, lent1, List.idxOf?, List.findIdx?, List.findIdx?.go, putS, putS1, oD1X, fEqXE, lotD, sizeLine_eq]) ?_
  refine seq_to hs ?_
  rcases hδ with rfl | rfl
  · simp [sSeq, sAsg, sOwn, sIf, sRet, sRetO, sRetV, sRetN, sDrop, sNext, sCont, sBreak, sAug, sFor, sSetL, eVar, eC, e1, e2, eB, eTup, eO, oB, o2, oLst, oCall, oDict0X, oLc, oLc2, aNil, aCons, tV, tAnd', tOr', tNot', tT', tYesF, truth', truth, eIf, eAnd, eOr, eNot, eCh, eMt, eMt0, eCall, eIsi, isaD, typeD, isDct, eCntT, eGetX, sPutX, frzV, frzs, val, vals, slD, slDat, cont, setC, isListD, free_eq, isFr_no, isFr_dat, isFr_own, isFr_bor, gN, gT, partsD, iL, iT, iR1, iR2, iEnL, iEnT, iZLL, iZTT, iZTL, iKeysX, iValsX, iItemsX, fI0, fI, fPlus, fCatT, fAddS, fCatL, fRepT, fRepL, fIx, fLen, fAbs, fInt, fTup, fList, fAppend, fExtend, fPop, fPopAt, fMin2, fMax2, fNeg, fIsN, fNotN, isNone, fSum, fSumT, fInX, fIxX, fLenX, r1F, r2F, rgOk, compStep, wipeD, putB, keepD, startS, outsD, outD, mBody, mBodyO, sPar, yNil, yCons, xE, xO, setH, setHs, rdOk, List.set, bind_ite, atI_0, atI_1, atI_2, ixN_0, ixN_1, List.getElem?_cons_zero, eCallB, okL_1, okL_2, okL_3, okL_4, lentS, pinv, frzB, lendB, lent1, List.idxOf?, List.findIdx?, List.findIdx?.go, putS, putS1, oD1X, fEqXE]
  · simp [sSeq, sAsg, sOwn, sIf, sRet, sRetO, sRetV, sRetN, sDrop, sNext, sCont, sBreak, sAug, sFor, sSetL, eVar, eC, e1, e2, eB, eTup, eO, oB, o2, oLst, oCall, oDict0X, oLc, oLc2, aNil, aCons, tV, tAnd', tOr', tNot', tT', tYesF, truth', truth, eIf, eAnd, eOr, eNot, eCh, eMt, eMt0, eCall, eIsi, isaD, typeD, isDct, eCntT, eGetX, sPutX, frzV, frzs, val, vals, slD, slDat, cont, setC, isListD, free_eq, isFr_no, isFr_dat, isFr_own, isFr_bor, gN, gT, partsD, iL, iT, iR1, iR2, iEnL, iEnT, iZLL, iZTT, iZTL, iKeysX, iValsX, iItemsX, fI0, fI, fPlus, fCatT, fAddS, fCatL, fRepT, fRepL, fIx, fLen, fAbs, fInt, fTup, fList, fAppend, fExtend, fPop, fPopAt, fMin2, fMax2, fNeg, fIsN, fNotN, isNone, fSum, fSumT, fInX, fIxX, fLenX, r1F, r2F, rgOk, compStep, wipeD, putB, keepD, startS, outsD, outD, mBody, mBodyO, sPar, yNil, yCons, xE, xO, setH, setHs, rdOk, List.set, bind_ite, atI_0, atI_1, atI_2, ixN_0, ixN_1, List.getElem?_cons_zero, eCallB, okL_1, okL_2, okL_3, okL_4, lentS, pinv, frzB, lendB, lent1, List.idxOf?, List.findIdx?, List.findIdx?.go, putS, putS1, oD1X, fEqXE]
/-! the program's way -/
def expF : Int → Lot → List Int
  | _, [] => []
  | i, c :: r => List.replicate c i ++ expF (i + 1) r
theorem expF_snoc : ∀ (l : Lot) (i : Int) (c : Nat), expF i (l ++ [c]) = expF i l ++ List.replicate c (i + l.length)
  | [], i, c => by simp [expF]
  | x :: r, i, c => by
    rw [List.cons_append, expF, expF, expF_snoc r, List.append_assoc, List.length_cons]
    congr 3
    omega
theorem expF_len : ∀ (l : Lot) (i : Int), (expF i l).length = l.sum
  | [], _ => rfl
  | x :: r, i => by rw [expF, List.length_append, List.length_replicate, expF_len r, List.sum_cons]
def kdsD (l : List Int) : DT := .tuple (l.map PyData.int)
theorem rep_1 {α : Type} (x : α) : ∀ n : Nat, (List.replicate n [x]).flatten = List.replicate n x
  | 0 => rfl
  | n + 1 => by rw [List.replicate_succ, List.flatten_cons, rep_1 x n, List.replicate_succ]; rfl
theorem flat_eq {α β : Type} {f g : α → List β} : ∀ {l : List α}, (∀ x ∈ l, f x = g x) → l.flatMap f = l.flatMap g
  | [], _ => rfl
  | x :: r, h => by rw [List.flatMap_cons, List.flatMap_cons, h x List.mem_cons_self, flat_eq fun y m => h y (List.mem_cons_of_mem _ m)]
theorem e_laid {ms : Mny} {room : Int} (hm : ManysOk ms) (hr : room ≤ 3) (hr0 : 0 ≤ room) : m_laid_from [mnD ms, .int room] = some (.list (((lotsF ms room).map (expF 0)).map kdsD), [.none, .none]) := by
  obtain ⟨δ', e, k, ch, s3, s4, s5, rfl, f3, f4, f5, hch, _⟩ := loop_all (enc := fun p : Option Int × Nat => pairD (.int (p.2 : Nat)) (optD p.1)) (g := gT [gN 3, gN 4]) (b := sSeq (sAsg (eIf (tV (e2 fIsN (eVar 4) (eC .none))) (eVar 1) (eB fMin2 (aCons (eVar 4) (aCons (eVar 1) aNil)))) (gN 5))
    (sOwn 2 (oLc2 (iL (eVar 2)) [6, 7] (gN 6) tYesF (iR1 (aCons (e2 fPlus (eB fMin2 (aCons (eVar 5) (aCons (e2 fSub (eVar 1) (eB fLen (aCons (eVar 6) aNil))) aNil))) (eC (.int 1))) aNil)) [7] (gN 7) tYesF (e2 fPlus (eVar 6) (e2 fRepT (eTup (aCons (eVar 3) aNil)) (eVar 7)))))) ms.zipIdx
    (fun r δ => ∃ (k : Nat) (ch : List Lot) (s3 s4 s5 : Sl), δ = [.dat (mnD ms), .dat (.int room), .own (.list ((ch.map (expF 0)).map kdsD)), s3, s4, s5, .no, .no] ∧ isFr s3 = true ∧ isFr s4 = true ∧ isFr s5 = true ∧ (r.map (·.1)).foldl (lotStep room) ch = lotsF ms room ∧ r = (ms.zipIdx).drop k ∧ k + r.length = ms.length ∧ ch.length * 4 ^ r.length ≤ 4 ^ 4 ∧ (∀ l ∈ ch, l.length = k ∧ ((l.sum : Nat) : Int) ≤ room))
    [.dat (mnD ms), .dat (.int room), .own (.list (([[]].map (expF 0)).map kdsD)), .no, .no, .no, .no, .no]
    (by
      rintro ⟨m, i⟩ r δ ⟨k, ch, s3, s4, s5, rfl, f3, f4, f5, hch, hr', hk, hb, hl4⟩
      rw [List.length_cons] at hk hb
      rw [Nat.pow_succ] at hb
      have hkl : k < ms.length := by omega
      have hi : (ms.zipIdx)[k]? = some (m, i) := by
        have := congrArg (·[0]?) hr'
        simpa using this.symm
      rw [List.getElem?_zipIdx] at hi
      obtain ⟨m', hm', e0⟩ := Option.map_eq_some_iff.mp hi
      have ek : i = k := by
        have := (Prod.mk.inj e0).2
        omega
      have em : m' = m := (Prod.mk.inj e0).1
      subst ek em
      have hr2 : r = (ms.zipIdx).drop (i + 1) := by
        rw [← List.drop_drop, ← hr']
        rfl
      have hc : ch.length ≤ 4 ^ 4 := by
        have hpos : 1 ≤ 4 ^ r.length := Nat.one_le_pow _ _ (by decide)
        have : ch.length * 1 ≤ ch.length * (4 ^ r.length * 4) := Nat.mul_le_mul_left _ (by omega)
        omega
      generalize hmost : (match m' with | none => room | some x => if room < x then room else x : Int) = most
      have hmm := hm.2 m' (List.mem_of_getElem? hm')
      have hm0 : 0 ≤ most ∧ most ≤ 9 := by
        rw [← hmost]
        cases m' with
        | none =>
          simp only
          omega
        | some x =>
          have := hmm x rfl
          simp only
          split <;> omega
      have e1 : (sAsg (eIf (tV (e2 fIsN (eVar 4) (eC .none))) (eVar 1) (eB fMin2 (aCons (eVar 4) (aCons (eVar 1) aNil)))) (gN 5)) [.dat (mnD ms), .dat (.int room), .own (.list ((ch.map (expF 0)).map kdsD)), .dat (.int (i : Int)), .dat (optD m'), s5, .no, .no] = some (.nx [.dat (mnD ms), .dat (.int room), .own (.list ((ch.map (expF 0)).map kdsD)), .dat (.int (i : Int)), .dat (optD m'), .dat (.int most), .no, .no]) := by
        rw [← hmost]
        cases m' with
        | none => simp [sSeq, sAsg, sOwn, sIf, sRet, sRetO, sRetV, sRetN, sDrop, sNext, sCont, sBreak, sAug, sFor, sSetL, eVar, eC, e1, e2, eB, eTup, eO, oB, o2, oLst, oCall, oDict0X, oLc, oLc2, aNil, aCons, tV, tAnd', tOr', tNot', tT', tYesF, truth', truth, eIf, eAnd, eOr, eNot, eCh, eMt, eMt0, eCall, eIsi, isaD, typeD, isDct, eCntT, eGetX, sPutX, frzV, frzs, val, vals, slD, slDat, cont, setC, isListD, free_eq, isFr_no, isFr_dat, isFr_own, isFr_bor, gN, gT, partsD, iL, iT, iR1, iR2, iEnL, iEnT, iZLL, iZTT, iZTL, iKeysX, iValsX, iItemsX, fI0, fI, fPlus, fCatT, fAddS, fCatL, fRepT, fRepL, fIx, fLen, fAbs, fInt, fTup, fList, fAppend, fExtend, fPop, fPopAt, fMin2, fMax2, fNeg, fIsN, fNotN, isNone, fSum, fSumT, fInX, fIxX, fLenX, r1F, r2F, rgOk, compStep, wipeD, putB, keepD, startS, outsD, outD, mBody, mBodyO, sPar, yNil, yCons, xE, xO, setH, setHs, rdOk, List.set, bind_ite, atI_0, atI_1, atI_2, ixN_0, ixN_1, List.getElem?_cons_zero, eCallB, okL_1, okL_2, okL_3, okL_4, lentS, pinv, frzB, lendB, lent1, List.idxOf?, List.findIdx?, List.findIdx?.go, putS, putS1, oD1X, fEqXE, optD, f5]
        | some x => simp [sSeq, sAsg, sOwn, sIf, sRet, sRetO, sRetV, sRetN, sDrop, sNext, sCont, sBreak, sAug, sFor, sSetL, eVar, eC, e1, e2, eB, eTup, eO, oB, o2, oLst, oCall, oDict0X, oLc, oLc2, aNil, aCons, tV, tAnd', tOr', tNot', tT', tYesF, truth', truth, eIf, eAnd, eOr, eNot, eCh, eMt, eMt0, eCall, eIsi, isaD, typeD, isDct, eCntT, eGetX, sPutX, frzV, frzs, val, vals, slD, slDat, cont, setC, isListD, free_eq, isFr_no, isFr_dat, isFr_own, isFr_bor, gN, gT, partsD, iL, iT, iR1, iR2, iEnL, iEnT, iZLL, iZTT, iZTL, iKeysX, iValsX, iItemsX, fI0, fI, fPlus, fCatT, fAddS, fCatL, fRepT, fRepL, fIx, fLen, fAbs, fInt, fTup, fList, fAppend, fExtend, fPop, fPopAt, fMin2, fMax2, fNeg, fIsN, fNotN, isNone, fSum, fSumT, fInX, fIxX, fLenX, r1F, r2F, rgOk, compStep, wipeD, putB, keepD, startS, outsD, outD, mBody, mBodyO, sPar, yNil, yCons, xE, xO, setH, setHs, rdOk, List.set, bind_ite, atI_0, atI_1, atI_2, ixN_0, ixN_1, List.getElem?_cons_zero, eCallB, okL_1, okL_2, okL_3, okL_4, lentS, pinv, frzB, lendB, lent1, List.idxOf?, List.findIdx?, List.findIdx?.go, putS, putS1, oD1X, fEqXE, optD, f5]
      have hcnt : ∀ l : Lot, ((if room - (l.sum : Nat) < most then room - (l.sum : Nat) else most) + 1).toNat = cntF m' (room - (l.sum : Nat)) := fun l => by
        rw [← hmost]
        unfold cntF
        cases m' with
        | none =>
          simp only
          split <;> omega
        | some x =>
          simp only
          split <;> split <;> omega
      have h2 := lc2_flat (enc := fun l => kdsD (expF 0 l)) (it := iL (eVar 2)) (it1 := iR1 (aCons (e2 fPlus (eB fMin2 (aCons (eVar 5) (aCons (e2 fSub (eVar 1) (eB fLen (aCons (eVar 6) aNil))) aNil))) (eC (.int 1))) aNil)) (vs := [6, 7]) (vs1 := [7]) (g := gN 6) (g1 := gN 7) (t := tYesF) (t1 := tYesF) (e := e2 fPlus (eVar 6) (e2 fRepT (eTup (aCons (eVar 3) aNil)) (eVar 7)))
        (δ := [.dat (mnD ms), .dat (.int room), .own (.list ((ch.map (expF 0)).map kdsD)), .dat (.int (i : Int)), .dat (optD m'), .dat (.int most), .no, .no])
        (δ' := [.dat (mnD ms), .dat (.int room), .dat (.list ((ch.map (expF 0)).map kdsD)), .dat (.int (i : Int)), .dat (optD m'), .dat (.int most), .no, .no])
        (fun l => (List.range (cntF m' (room - (l.sum : Nat)))).map fun c => kdsD (expF 0 l ++ List.replicate c (i : Int))) ch (by simp [sSeq, sAsg, sOwn, sIf, sRet, sRetO, sRetV, sRetN, sDrop, sNext, sCont, sBreak, sAug, sFor, sSetL, eVar, eC, e1, e2, eB, eTup, eO, oB, o2, oLst, oCall, oDict0X, oLc, oLc2, aNil, aCons, tV, tAnd', tOr', tNot', tT', tYesF, truth', truth, eIf, eAnd, eOr, eNot, eCh, eMt, eMt0, eCall, eIsi, isaD, typeD, isDct, eCntT, eGetX, sPutX, frzV, frzs, val, vals, slD, slDat, cont, setC, isListD, free_eq, isFr_no, isFr_dat, isFr_own, isFr_bor, gN, gT, partsD, iL, iT, iR1, iR2, iEnL, iEnT, iZLL, iZTT, iZTL, iKeysX, iValsX, iItemsX, fI0, fI, fPlus, fCatT, fAddS, fCatL, fRepT, fRepL, fIx, fLen, fAbs, fInt, fTup, fList, fAppend, fExtend, fPop, fPopAt, fMin2, fMax2, fNeg, fIsN, fNotN, isNone, fSum, fSumT, fInX, fIxX, fLenX, r1F, r2F, rgOk, compStep, wipeD, putB, keepD, startS, outsD, outD, mBody, mBodyO, sPar, yNil, yCons, xE, xO, setH, setHs, rdOk, List.set, bind_ite, atI_0, atI_1, atI_2, ixN_0, ixN_1, List.getElem?_cons_zero, eCallB, okL_1, okL_2, okL_3, okL_4, lentS, pinv, frzB, lendB, lent1, List.idxOf?, List.findIdx?, List.findIdx?.go, putS, putS1, oD1X, fEqXE, List.map_map, Function.comp_def]) (fun l hl acc hacc => by
          obtain ⟨hl1, hl2⟩ := hl4 l hl
          rw [List.length_map, List.length_range] at hacc
          have hN : cntF m' (room - (l.sum : Nat)) ≤ 4 := by
            have := cntF_le (m := m') (left := room - (l.sum : Nat)) (room := room) (by omega)
            omega
          have h3 := inn_fm (enc := fun c : Nat => PyData.int (c : Int)) (vs := [7]) (g := gN 7) (t := tYesF) (e := e2 fPlus (eVar 6) (e2 fRepT (eTup (aCons (eVar 3) aNil)) (eVar 7)))
            (δ := [.dat (mnD ms), .dat (.int room), .dat (.list ((ch.map (expF 0)).map kdsD)), .dat (.int (i : Int)), .dat (optD m'), .dat (.int most), .dat (kdsD (expF 0 l)), .no])
            (fun c => some (kdsD (expF 0 l ++ List.replicate c (i : Int)))) (List.range (cntF m' (room - (l.sum : Nat)))) acc (fun c hc => by
              have hc4 : (c : Int) ≤ 1000 := by
                have := List.mem_range.mp hc
                omega
              have hcl : l.sum + c ≤ 16777216 := by omega
              simp [sSeq, sAsg, sOwn, sIf, sRet, sRetO, sRetV, sRetN, sDrop, sNext, sCont, sBreak, sAug, sFor, sSetL, eVar, eC, e1, e2, eB, eTup, eO, oB, o2, oLst, oCall, oDict0X, oLc, oLc2, aNil, aCons, tV, tAnd', tOr', tNot', tT', tYesF, truth', truth, eIf, eAnd, eOr, eNot, eCh, eMt, eMt0, eCall, eIsi, isaD, typeD, isDct, eCntT, eGetX, sPutX, frzV, frzs, val, vals, slD, slDat, cont, setC, isListD, free_eq, isFr_no, isFr_dat, isFr_own, isFr_bor, gN, gT, partsD, iL, iT, iR1, iR2, iEnL, iEnT, iZLL, iZTT, iZTL, iKeysX, iValsX, iItemsX, fI0, fI, fPlus, fCatT, fAddS, fCatL, fRepT, fRepL, fIx, fLen, fAbs, fInt, fTup, fList, fAppend, fExtend, fPop, fPopAt, fMin2, fMax2, fNeg, fIsN, fNotN, isNone, fSum, fSumT, fInX, fIxX, fLenX, r1F, r2F, rgOk, compStep, wipeD, putB, keepD, startS, outsD, outD, mBody, mBodyO, sPar, yNil, yCons, xE, xO, setH, setHs, rdOk, List.set, bind_ite, atI_0, atI_1, atI_2, ixN_0, ixN_1, List.getElem?_cons_zero, eCallB, okL_1, okL_2, okL_3, okL_4, lentS, pinv, frzB, lendB, lent1, List.idxOf?, List.findIdx?, List.findIdx?.go, putS, putS1, oD1X, fEqXE, sizeLine_eq, kdsD, rep_1, hc4, expF_len, hcl]) (by rw [List.length_range]; exact hacc)
          have h4 : iR1 (aCons (e2 fPlus (eB fMin2 (aCons (eVar 5) (aCons (e2 fSub (eVar 1) (eB fLen (aCons (eVar 6) aNil))) aNil))) (eC (.int 1))) aNil) [.dat (mnD ms), .dat (.int room), .dat (.list ((ch.map (expF 0)).map kdsD)), .dat (.int (i : Int)), .dat (optD m'), .dat (.int most), .dat (kdsD (expF 0 l)), .no] = some ((List.range (cntF m' (room - (l.sum : Nat)))).map fun (i : Nat) => PyData.int (i : Int), [.dat (mnD ms), .dat (.int room), .dat (.list ((ch.map (expF 0)).map kdsD)), .dat (.int (i : Int)), .dat (optD m'), .dat (.int most), .dat (kdsD (expF 0 l)), .no]) := by
            rw [← hcnt l]
            refine range_of (r := .d (.int ((if room - (l.sum : Nat) < most then room - (l.sum : Nat) else most) + 1))) ?_ rfl ?_ ?_
            · simp [sSeq, sAsg, sOwn, sIf, sRet, sRetO, sRetV, sRetN, sDrop, sNext, sCont, sBreak, sAug, sFor, sSetL, eVar, eC, e1, e2, eB, eTup, eO, oB, o2, oLst, oCall, oDict0X, oLc, oLc2, aNil, aCons, tV, tAnd', tOr', tNot', tT', tYesF, truth', truth, eIf, eAnd, eOr, eNot, eCh, eMt, eMt0, eCall, eIsi, isaD, typeD, isDct, eCntT, eGetX, sPutX, frzV, frzs, val, vals, slD, slDat, cont, setC, isListD, free_eq, isFr_no, isFr_dat, isFr_own, isFr_bor, gN, gT, partsD, iL, iT, iR1, iR2, iEnL, iEnT, iZLL, iZTT, iZTL, iKeysX, iValsX, iItemsX, fI0, fI, fPlus, fCatT, fAddS, fCatL, fRepT, fRepL, fIx, fLen, fAbs, fInt, fTup, fList, fAppend, fExtend, fPop, fPopAt, fMin2, fMax2, fNeg, fIsN, fNotN, isNone, fSum, fSumT, fInX, fIxX, fLenX, r1F, r2F, rgOk, compStep, wipeD, putB, keepD, startS, outsD, outD, mBody, mBodyO, sPar, yNil, yCons, xE, xO, setH, setHs, rdOk, List.set, bind_ite, atI_0, atI_1, atI_2, ixN_0, ixN_1, List.getElem?_cons_zero, eCallB, okL_1, okL_2, okL_3, okL_4, lentS, pinv, frzB, lendB, lent1, List.idxOf?, List.findIdx?, List.findIdx?.go, putS, putS1, oD1X, fEqXE, kdsD, expF_len]
            · split <;> omega
            · split <;> omega
          unfold step2
          simp only [wipeD, tYesF, gN, free_eq, List.set, Option.bind_some, if_true, List.getElem?_cons_succ, List.getElem?_cons_zero, Option.any_some, isFr_no]
          rw [h4]
          simp only [Option.bind_some]
          rw [h3]
          simp [putB, keepD])
        (by
          refine Nat.le_trans (flat_len _ 4 ch fun l hl => ?_) (by rw [sizeLine_eq]; have : (4:Nat)^4 = 256 := rfl; omega)
          rw [List.length_map, List.length_range]
          have := cntF_le (m := m') (left := room - (l.sum : Nat)) (room := room) (by omega)
          omega)
      have h5 : (ch.flatMap fun l => (List.range (cntF m' (room - (l.sum : Nat)))).map fun c => kdsD (expF 0 l ++ List.replicate c (i : Int))) = (((lotStep room ch m').map (expF 0)).map kdsD) := by
        unfold lotStep
        rw [List.map_flatMap, List.map_flatMap]
        refine flat_eq fun l hl => ?_
        rw [List.map_map, List.map_map]
        refine List.map_congr_left fun c _ => ?_
        show kdsD _ = kdsD (expF 0 (l ++ [c]))
        rw [expF_snoc, (hl4 l hl).1, Int.zero_add]
      rw [h5] at h2
      refine ⟨_, ?_, i + 1, lotStep room ch m', .dat (.int (i : Int)), .dat (optD m'), .dat (.int most), rfl, rfl, rfl, rfl, ?_, hr2, by omega, ?_, ?_⟩
      · have e4 : (gT [gN 3, gN 4] (pairD (.int (i : Int)) (optD m')) [.dat (mnD ms), .dat (.int room), .own (.list ((ch.map (expF 0)).map kdsD)), s3, s4, s5, .no, .no]) = some [.dat (mnD ms), .dat (.int room), .own (.list ((ch.map (expF 0)).map kdsD)), .dat (.int (i : Int)), .dat (optD m'), s5, .no, .no] := by simp [sSeq, sAsg, sOwn, sIf, sRet, sRetO, sRetV, sRetN, sDrop, sNext, sCont, sBreak, sAug, sFor, sSetL, eVar, eC, e1, e2, eB, eTup, eO, oB, o2, oLst, oCall, oDict0X, oLc, oLc2, aNil, aCons, tV, tAnd', tOr', tNot', tT', tYesF, truth', truth, eIf, eAnd, eOr, eNot, eCh, eMt, eMt0, eCall, eIsi, isaD, typeD, isDct, eCntT, eGetX, sPutX, frzV, frzs, val, vals, slD, slDat, cont, setC, isListD, free_eq, isFr_no, isFr_dat, isFr_own, isFr_bor, gN, gT, partsD, iL, iT, iR1, iR2, iEnL, iEnT, iZLL, iZTT, iZTL, iKeysX, iValsX, iItemsX, fI0, fI, fPlus, fCatT, fAddS, fCatL, fRepT, fRepL, fIx, fLen, fAbs, fInt, fTup, fList, fAppend, fExtend, fPop, fPopAt, fMin2, fMax2, fNeg, fIsN, fNotN, isNone, fSum, fSumT, fInX, fIxX, fLenX, r1F, r2F, rgOk, compStep, wipeD, putB, keepD, startS, outsD, outD, mBody, mBodyO, sPar, yNil, yCons, xE, xO, setH, setHs, rdOk, List.set, bind_ite, atI_0, atI_1, atI_2, ixN_0, ixN_1, List.getElem?_cons_zero, eCallB, okL_1, okL_2, okL_3, okL_4, lentS, pinv, frzB, lendB, lent1, List.idxOf?, List.findIdx?, List.findIdx?.go, putS, putS1, oD1X, fEqXE, f3, f4]
        rw [e4, Option.bind_some]
        refine seq_to e1 ?_
        unfold sOwn
        rw [h2]
        simp [sSeq, sAsg, sOwn, sIf, sRet, sRetO, sRetV, sRetN, sDrop, sNext, sCont, sBreak, sAug, sFor, sSetL, eVar, eC, e1, e2, eB, eTup, eO, oB, o2, oLst, oCall, oDict0X, oLc, oLc2, aNil, aCons, tV, tAnd', tOr', tNot', tT', tYesF, truth', truth, eIf, eAnd, eOr, eNot, eCh, eMt, eMt0, eCall, eIsi, isaD, typeD, isDct, eCntT, eGetX, sPutX, frzV, frzs, val, vals, slD, slDat, cont, setC, isListD, free_eq, isFr_no, isFr_dat, isFr_own, isFr_bor, gN, gT, partsD, iL, iT, iR1, iR2, iEnL, iEnT, iZLL, iZTT, iZTL, iKeysX, iValsX, iItemsX, fI0, fI, fPlus, fCatT, fAddS, fCatL, fRepT, fRepL, fIx, fLen, fAbs, fInt, fTup, fList, fAppend, fExtend, fPop, fPopAt, fMin2, fMax2, fNeg, fIsN, fNotN, isNone, fSum, fSumT, fInX, fIxX, fLenX, r1F, r2F, rgOk, compStep, wipeD, putB, keepD, startS, outsD, outD, mBody, mBodyO, sPar, yNil, yCons, xE, xO, setH, setHs, rdOk, List.set, bind_ite, atI_0, atI_1, atI_2, ixN_0, ixN_1, List.getElem?_cons_zero, eCallB, okL_1, okL_2, okL_3, okL_4, lentS, pinv, frzB, lendB, lent1, List.idxOf?, List.findIdx?, List.findIdx?.go, putS, putS1, oD1X, fEqXE]
      · rw [List.map_cons, List.foldl_cons] at hch
        exact hch
      · have h3 := lotStep_len room hr ch m'
        calc _ ≤ ch.length * 4 * 4 ^ r.length := Nat.mul_le_mul_right _ h3
          _ = ch.length * (4 ^ r.length * 4) := by rw [Nat.mul_assoc, Nat.mul_comm 4]
          _ ≤ _ := hb
      · intro l hl
        unfold lotStep at hl
        obtain ⟨l', h6, h7⟩ := List.mem_flatMap.mp hl
        obtain ⟨c, hc', rfl⟩ := List.mem_map.mp h7
        obtain ⟨g1, g2⟩ := hl4 l' h6
        have g3 := List.mem_range.mp hc'
        have g4 := cntF_le (m := m') (left := room - (l'.sum : Nat)) (room := room - (l'.sum : Nat)) (by omega)
        refine ⟨by rw [List.length_append, List.length_singleton, g1], ?_⟩
        rw [List.sum_append]
        simp only [List.sum_cons, List.sum_nil]
        omega)
    ⟨0, [[]], .no, .no, .no, rfl, rfl, rfl, rfl, by simp [lotsF], rfl, by simp, by simpa using Nat.pow_le_pow_right (by decide) hm.1, fun l h => by cases List.mem_singleton.mp h; exact ⟨rfl, hr0⟩⟩
  have hch : ch = lotsF ms room := hch
  subst hch
  refine mB_rt (δ := [.dat (mnD ms), .dat (.int room), .dat (.list (((lotsF ms room).map (expF 0)).map kdsD)), s3, s4, s5, .no, .no]) rfl ?_ rfl
  refine seq_to (δ' := [.dat (mnD ms), .dat (.int room), .own (.list (([[]].map (expF 0)).map kdsD)), .no, .no, .no, .no, .no]) (by simp [sSeq, sAsg, sOwn, sIf, sRet, sRetO, sRetV, sRetN, sDrop, sNext, sCont, sBreak, sAug, sFor, sSetL, eVar, eC, e1, e2, eB, eTup, eO, oB, o2, oLst, oCall, oDict0X, oLc, oLc2, aNil, aCons, tV, tAnd', tOr', tNot', tT', tYesF, truth', truth, eIf, eAnd, eOr, eNot, eCh, eMt, eMt0, eCall, eIsi, isaD, typeD, isDct, eCntT, eGetX, sPutX, frzV, frzs, val, vals, slD, slDat, cont, setC, isListD, free_eq, isFr_no, isFr_dat, isFr_own, isFr_bor, gN, gT, partsD, iL, iT, iR1, iR2, iEnL, iEnT, iZLL, iZTT, iZTL, iKeysX, iValsX, iItemsX, fI0, fI, fPlus, fCatT, fAddS, fCatL, fRepT, fRepL, fIx, fLen, fAbs, fInt, fTup, fList, fAppend, fExtend, fPop, fPopAt, fMin2, fMax2, fNeg, fIsN, fNotN, isNone, fSum, fSumT, fInX, fIxX, fLenX, r1F, r2F, rgOk, compStep, wipeD, putB, keepD, startS, outsD, outD, mBody, mBodyO, sPar, yNil, yCons, xE, xO, setH, setHs, rdOk, List.set, bind_ite, atI_0, atI_1, atI_2, ixN_0, ixN_1, List.getElem?_cons_zero, eCallB, okL_1, okL_2, okL_3, okL_4, lentS, pinv, frzB, lendB, lent1, List.idxOf?, List.findIdx?, List.findIdx?.go, putS, putS1, oD1X, fEqXE, kdsD, expF, sizeLine_eq]) ?_
  refine seq_to (δ' := [.dat (mnD ms), .dat (.int room), .own (.list (((lotsF ms room).map (expF 0)).map kdsD)), s3, s4, s5, .no, .no]) ?_ (by simp [sSeq, sAsg, sOwn, sIf, sRet, sRetO, sRetV, sRetN, sDrop, sNext, sCont, sBreak, sAug, sFor, sSetL, eVar, eC, e1, e2, eB, eTup, eO, oB, o2, oLst, oCall, oDict0X, oLc, oLc2, aNil, aCons, tV, tAnd', tOr', tNot', tT', tYesF, truth', truth, eIf, eAnd, eOr, eNot, eCh, eMt, eMt0, eCall, eIsi, isaD, typeD, isDct, eCntT, eGetX, sPutX, frzV, frzs, val, vals, slD, slDat, cont, setC, isListD, free_eq, isFr_no, isFr_dat, isFr_own, isFr_bor, gN, gT, partsD, iL, iT, iR1, iR2, iEnL, iEnT, iZLL, iZTT, iZTL, iKeysX, iValsX, iItemsX, fI0, fI, fPlus, fCatT, fAddS, fCatL, fRepT, fRepL, fIx, fLen, fAbs, fInt, fTup, fList, fAppend, fExtend, fPop, fPopAt, fMin2, fMax2, fNeg, fIsN, fNotN, isNone, fSum, fSumT, fInX, fIxX, fLenX, r1F, r2F, rgOk, compStep, wipeD, putB, keepD, startS, outsD, outD, mBody, mBodyO, sPar, yNil, yCons, xE, xO, setH, setHs, rdOk, List.set, bind_ite, atI_0, atI_1, atI_2, ixN_0, ixN_1, List.getElem?_cons_zero, eCallB, okL_1, okL_2, okL_3, okL_4, lentS, pinv, frzB, lendB, lent1, List.idxOf?, List.findIdx?, List.findIdx?.go, putS, putS1, oD1X, fEqXE])
  have hz : enumF (ms.map optD) = ms.zipIdx.map fun p => pairD (.int (p.2 : Nat)) (optD p.1) := by
    unfold enumF
    rw [List.zipIdx_map, List.map_map]
    rfl
  have hit : iEnT (eVar 0) [.dat (mnD ms), .dat (.int room), .own (.list (([[]].map (expF 0)).map kdsD)), .no, .no, .no, .no, .no] = some (ms.zipIdx.map fun p => pairD (.int (p.2 : Nat)) (optD p.1), [.dat (mnD ms), .dat (.int room), .own (.list (([[]].map (expF 0)).map kdsD)), .no, .no, .no, .no, .no]) := by
    rw [← hz]
    simp [sSeq, sAsg, sOwn, sIf, sRet, sRetO, sRetV, sRetN, sDrop, sNext, sCont, sBreak, sAug, sFor, sSetL, eVar, eC, e1, e2, eB, eTup, eO, oB, o2, oLst, oCall, oDict0X, oLc, oLc2, aNil, aCons, tV, tAnd', tOr', tNot', tT', tYesF, truth', truth, eIf, eAnd, eOr, eNot, eCh, eMt, eMt0, eCall, eIsi, isaD, typeD, isDct, eCntT, eGetX, sPutX, frzV, frzs, val, vals, slD, slDat, cont, setC, isListD, free_eq, isFr_no, isFr_dat, isFr_own, isFr_bor, gN, gT, partsD, iL, iT, iR1, iR2, iEnL, iEnT, iZLL, iZTT, iZTL, iKeysX, iValsX, iItemsX, fI0, fI, fPlus, fCatT, fAddS, fCatL, fRepT, fRepL, fIx, fLen, fAbs, fInt, fTup, fList, fAppend, fExtend, fPop, fPopAt, fMin2, fMax2, fNeg, fIsN, fNotN, isNone, fSum, fSumT, fInX, fIxX, fLenX, r1F, r2F, rgOk, compStep, wipeD, putB, keepD, startS, outsD, outD, mBody, mBodyO, sPar, yNil, yCons, xE, xO, setH, setHs, rdOk, List.set, bind_ite, atI_0, atI_1, atI_2, ixN_0, ixN_1, List.getElem?_cons_zero, eCallB, okL_1, okL_2, okL_3, okL_4, lentS, pinv, frzB, lendB, lent1, List.idxOf?, List.findIdx?, List.findIdx?.go, putS, putS1, oD1X, fEqXE, mnD]
  unfold sFor
  rw [hit]
  exact e
/-! ### what is left, what may come -/
abbrev St := Ag × Mny
def stD (s : St) : DT := .tuple [agD s.1, mnD s.2]
def restL (ms : Mny) (l : Lot) : Mny := List.zipWith (fun m c => m.map fun x => x - (c : Int)) ms l
theorem expF_lo : ∀ (l : Lot) (k : Int), ∀ x ∈ expF k l, k ≤ x
  | [], _, x, h => by cases h
  | c :: r, k, x, h => by
    rw [expF] at h
    rcases List.mem_append.mp h with h | h
    · rw [List.eq_of_mem_replicate h]
      exact Int.le_refl _
    · have := expF_lo r (k + 1) x h
      omega
theorem expF_hi : ∀ (l : Lot) (k : Int), ∀ x ∈ expF k l, x < k + l.length
  | [], _, x, h => by cases h
  | c :: r, k, x, h => by
    rw [expF] at h
    rw [List.length_cons]
    rcases List.mem_append.mp h with h | h
    · rw [List.eq_of_mem_replicate h]
      omega
    · have := expF_hi r (k + 1) x h
      omega
theorem expF_count : ∀ (l : Lot) (k : Int) (i : Nat) (c : Nat), l[i]? = some c → (expF k l).count (k + i) = c
  | [], _, _, _, h => by simp at h
  | x :: r, k, 0, c, h => by
    cases Option.some.inj h
    rw [expF, List.count_append, List.count_replicate]
    have : (expF (k + 1) r).count (k + ((0 : Nat) : Int)) = 0 := List.count_eq_zero.mpr fun m => by
      have := expF_lo r (k + 1) _ m
      omega
    rw [this]
    simp
  | x :: r, k, i + 1, c, h => by
    have h : r[i]? = some c := h
    rw [expF, List.count_append, List.count_replicate]
    have := expF_count r (k + 1) i c h
    rw [show k + ((i + 1 : Nat) : Int) = k + 1 + (i : Int) by omega, this]
    have : ¬ (k == k + 1 + (i : Int)) = true := by simp; omega
    rw [if_neg this, Nat.zero_add]
theorem e_behind {ms : Mny} {l : Lot} (hl : l.length = ms.length) (hz : ms.length ≤ 100) : m_manys_behind [mnD ms, kdsD (expF 0 l)] = some (mnD (restL ms l), [.none, .none]) := by
  have hzip : enumF (ms.map optD) = ms.zipIdx.map fun p => pairD (.int (p.2 : Nat)) (optD p.1) := by
    unfold enumF
    rw [List.zipIdx_map, List.map_map]
    rfl
  have h := lc_map (enc := fun p : Option Int × Nat => pairD (.int (p.2 : Nat)) (optD p.1)) (it := iEnT (eVar 0)) (vs := [2, 3]) (g := gT [gN 2, gN 3]) (t := tYesF) (e := eIf (tV (e2 fIsN (eVar 3) (eC .none))) (eC .none) (e2 fSub (eVar 3) (eCntT (eVar 1) (eVar 2)))) (δ := [.dat (mnD ms), .dat (kdsD (expF 0 l)), .no, .no]) (δ' := [.dat (mnD ms), .dat (kdsD (expF 0 l)), .no, .no]) (fun p => optD (p.1.map fun x => x - ((expF 0 l).count (p.2 : Int) : Nat))) ms.zipIdx (by rw [← hzip]; simp [sSeq, sAsg, sOwn, sIf, sRet, sRetO, sRetV, sRetN, sDrop, sNext, sCont, sBreak, sAug, sFor, sSetL, eVar, eC, e1, e2, eB, eTup, eO, oB, o2, oLst, oCall, oDict0X, oLc, oLc2, aNil, aCons, tV, tAnd', tOr', tNot', tT', tYesF, truth', truth, eIf, eAnd, eOr, eNot, eCh, eMt, eMt0, eCall, eIsi, isaD, typeD, isDct, eCntT, eGetX, sPutX, frzV, frzs, val, vals, slD, slDat, cont, setC, isListD, free_eq, isFr_no, isFr_dat, isFr_own, isFr_bor, gN, gT, partsD, iL, iT, iR1, iR2, iEnL, iEnT, iZLL, iZTT, iZTL, iKeysX, iValsX, iItemsX, fI0, fI, fPlus, fCatT, fAddS, fCatL, fRepT, fRepL, fIx, fLen, fAbs, fInt, fTup, fList, fAppend, fExtend, fPop, fPopAt, fMin2, fMax2, fNeg, fIsN, fNotN, isNone, fSum, fSumT, fInX, fIxX, fLenX, r1F, r2F, rgOk, compStep, wipeD, putB, keepD, startS, outsD, outD, mBody, mBodyO, sPar, yNil, yCons, xE, xO, setH, setHs, rdOk, List.set, bind_ite, atI_0, atI_1, atI_2, ixN_0, ixN_1, List.getElem?_cons_zero, eCallB, okL_1, okL_2, okL_3, okL_4, lentS, pinv, frzB, lendB, lent1, List.idxOf?, List.findIdx?, List.findIdx?.go, putS, putS1, oD1X, fEqXE, mnD]) (fun p hp => by
    obtain ⟨m, i⟩ := p
    have hi : intsD ((expF 0 l).map PyData.int) = some (expF 0 l) := intsD_of
    cases m with
    | none => simp [sSeq, sAsg, sOwn, sIf, sRet, sRetO, sRetV, sRetN, sDrop, sNext, sCont, sBreak, sAug, sFor, sSetL, eVar, eC, e1, e2, eB, eTup, eO, oB, o2, oLst, oCall, oDict0X, oLc, oLc2, aNil, aCons, tV, tAnd', tOr', tNot', tT', tYesF, truth', truth, eIf, eAnd, eOr, eNot, eCh, eMt, eMt0, eCall, eIsi, isaD, typeD, isDct, eCntT, eGetX, sPutX, frzV, frzs, val, vals, slD, slDat, cont, setC, isListD, free_eq, isFr_no, isFr_dat, isFr_own, isFr_bor, gN, gT, partsD, iL, iT, iR1, iR2, iEnL, iEnT, iZLL, iZTT, iZTL, iKeysX, iValsX, iItemsX, fI0, fI, fPlus, fCatT, fAddS, fCatL, fRepT, fRepL, fIx, fLen, fAbs, fInt, fTup, fList, fAppend, fExtend, fPop, fPopAt, fMin2, fMax2, fNeg, fIsN, fNotN, isNone, fSum, fSumT, fInX, fIxX, fLenX, r1F, r2F, rgOk, compStep, wipeD, putB, keepD, startS, outsD, outD, mBody, mBodyO, sPar, yNil, yCons, xE, xO, setH, setHs, rdOk, List.set, bind_ite, atI_0, atI_1, atI_2, ixN_0, ixN_1, List.getElem?_cons_zero, eCallB, okL_1, okL_2, okL_3, okL_4, lentS, pinv, frzB, lendB, lent1, List.idxOf?, List.findIdx?, List.findIdx?.go, putS, putS1, oD1X, fEqXE, optD]
    | some x => simp [sSeq, sAsg, sOwn, sIf, sRet, sRetO, sRetV, sRetN, sDrop, sNext, sCont, sBreak, sAug, sFor, sSetL, eVar, eC, e1, e2, eB, eTup, eO, oB, o2, oLst, oCall, oDict0X, oLc, oLc2, aNil, aCons, tV, tAnd', tOr', tNot', tT', tYesF, truth', truth, eIf, eAnd, eOr, eNot, eCh, eMt, eMt0, eCall, eIsi, isaD, typeD, isDct, eCntT, eGetX, sPutX, frzV, frzs, val, vals, slD, slDat, cont, setC, isListD, free_eq, isFr_no, isFr_dat, isFr_own, isFr_bor, gN, gT, partsD, iL, iT, iR1, iR2, iEnL, iEnT, iZLL, iZTT, iZTL, iKeysX, iValsX, iItemsX, fI0, fI, fPlus, fCatT, fAddS, fCatL, fRepT, fRepL, fIx, fLen, fAbs, fInt, fTup, fList, fAppend, fExtend, fPop, fPopAt, fMin2, fMax2, fNeg, fIsN, fNotN, isNone, fSum, fSumT, fInX, fIxX, fLenX, r1F, r2F, rgOk, compStep, wipeD, putB, keepD, startS, outsD, outD, mBody, mBodyO, sPar, yNil, yCons, xE, xO, setH, setHs, rdOk, List.set, bind_ite, atI_0, atI_1, atI_2, ixN_0, ixN_1, List.getElem?_cons_zero, eCallB, okL_1, okL_2, okL_3, okL_4, lentS, pinv, frzB, lendB, lent1, List.idxOf?, List.findIdx?, List.findIdx?.go, putS, putS1, oD1X, fEqXE, optD, kdsD, hi]) (by rw [List.length_zipIdx, sizeLine_eq]; omega)
  have h2 : (ms.zipIdx.map fun p => optD (p.1.map fun x => x - ((expF 0 l).count (p.2 : Int) : Nat))) = (restL ms l).map optD := by
    refine List.ext_getElem? fun i => ?_
    unfold restL
    rw [List.getElem?_map, List.getElem?_map, List.getElem?_zipIdx, List.getElem?_zipWith]
    by_cases c : i < ms.length
    · obtain ⟨m, hm⟩ := lt_at c
      obtain ⟨x, hx⟩ := lt_at (l := l) (i := i) (by omega)
      have hcnt := expF_count l 0 i x hx
      rw [Int.zero_add] at hcnt
      rw [hm, hx]
      simp [hcnt]
    · rw [List.getElem?_eq_none (by omega)]
      simp
  rw [h2] at h
  refine m_ret (δ := [.dat (mnD ms), .dat (kdsD (expF 0 l)), .no, .no]) rfl ?_ rfl
  simp [sSeq, sAsg, sOwn, sIf, sRet, sRetO, sRetV, sRetN, sDrop, sNext, sCont, sBreak, sAug, sSetL, eVar, eC, e1, e2, eB, eTup, eO, oB, o2, oLst, oCall, oDict0X, aNil, aCons, tV, tAnd', tOr', tNot', tT', tYesF, truth', truth, eIf, eAnd, eOr, eNot, eCh, eMt, eMt0, eIsi, isaD, typeD, isDct, eCntT, eGetX, sPutX, frzV, frzs, val, vals, slD, slDat, cont, setC, isListD, free_eq, isFr_no, isFr_dat, isFr_own, isFr_bor, gN, gT, partsD, iL, iT, iR1, iR2, iEnL, iEnT, iZLL, iZTT, iZTL, iKeysX, iValsX, iItemsX, fI0, fI, fPlus, fCatT, fAddS, fCatL, fRepT, fRepL, fIx, fLen, fAbs, fInt, fTup, fList, fAppend, fExtend, fPop, fPopAt, fMin2, fMax2, fNeg, fIsN, fNotN, isNone, fSum, fSumT, fInX, fIxX, fLenX, r1F, r2F, rgOk, wipeD, putB, keepD, startS, outsD, outD, mBody, mBodyO, sPar, yNil, yCons, xE, xO, setH, setHs, rdOk, List.set, bind_ite, atI_0, atI_1, atI_2, ixN_0, ixN_1, List.getElem?_cons_zero, okL_1, okL_2, okL_3, okL_4, lentS, pinv, frzB, lendB, lent1, List.idxOf?, List.findIdx?, List.findIdx?.go, putS, putS1, oD1X, fEqXE, h]
  rfl
def runOf (kept : Ag) (l : Lot) : Ag := kept ++ (expF 0 l).map fun k => (k, 0)
def okRun (b : List Kd) (f : Int × Int × Int) (r : Ag) : Bool := decide (f.1 ≤ thickOf b r) && decide (thickOf b r ≤ f.2.1)
noncomputable def comeOf (b : List Kd) (ms : Mny) (kept : Ag) (l : Lot) : St := (sorted (older b (runOf kept l)), restL ms l)
/-- what comes of what is kept -/
noncomputable def inner (b : List Kd) (f : Int × Int × Int) (ms : Mny) (kept : Ag) : List Lot := (lotsF ms (f.2.2 - kept.length)).filter fun l => okRun b f (runOf kept l)
noncomputable def chD (b : List Kd) (ms : Mny) (p : Ag × Lot) : DT := .tuple [agD p.1, kdsD (expF 0 p.2), stD (comeOf b ms p.1 p.2)]
structure StOk (b : List Kd) (h : Int) (s : St) : Prop where
  kin : KindIn b s.1
  len : (s.1.length : Int) ≤ h
  rest : s.2.length = b.length
  many : ManysOk s.2
theorem subs_sub (h : Int) (h0 : 0 ≤ h) : ∀ (a : Ag) (ch : List Ag), (∀ s ∈ ch, (s.length : Int) ≤ h) → ∀ s ∈ a.foldl (subStep h) ch, (s.length : Int) ≤ h ∧ ∀ p ∈ s, p ∈ a ∨ ∃ t ∈ ch, p ∈ t
  | [], ch, hc, s, hs => ⟨hc s hs, fun p hp => .inr ⟨s, hs, hp⟩⟩
  | q :: r, ch, hc, s, hs => by
    rw [List.foldl_cons] at hs
    have hstep : ∀ t ∈ subStep h ch q, (t.length : Int) ≤ h ∧ ∀ p ∈ t, p = q ∨ ∃ u ∈ ch, p ∈ u := by
      intro t ht
      unfold subStep at ht
      rcases List.mem_append.mp ht with ht | ht
      · exact ⟨hc t ht, fun p hp => .inr ⟨t, ht, hp⟩⟩
      · obtain ⟨u, hu, rfl⟩ := List.mem_map.mp ht
        obtain ⟨hu1, hu2⟩ := List.mem_filter.mp hu
        have hu2 := of_decide_eq_true hu2
        refine ⟨by rw [List.length_append, List.length_singleton]; omega, fun p hp => ?_⟩
        rcases List.mem_append.mp hp with hp | hp
        · exact .inr ⟨u, hu1, hp⟩
        · exact .inl (List.mem_singleton.mp hp)
    obtain ⟨h1, h2⟩ := subs_sub h h0 r _ (fun t ht => (hstep t ht).1) s hs
    refine ⟨h1, fun p hp => ?_⟩
    rcases h2 p hp with h3 | ⟨t, ht, hpt⟩
    · exact .inl (List.mem_cons_of_mem _ h3)
    · rcases (hstep t ht).2 p hpt with rfl | h4
      · exact .inl List.mem_cons_self
      · exact .inr h4
theorem lots_mem {room : Int} : ∀ (ms : Mny) (ch : List Lot), ∀ l ∈ ms.foldl (lotStep room) ch, ∃ l0 ∈ ch, l.length = l0.length + ms.length ∧ (((l0.sum : Nat) : Int) ≤ max 0 room → ((l.sum : Nat) : Int) ≤ max 0 room)
  | [], ch, l, h => ⟨l, h, rfl, id⟩
  | m :: r, ch, l, h => by
    rw [List.foldl_cons] at h
    obtain ⟨l1, h1, h2, h3⟩ := lots_mem r _ l h
    unfold lotStep at h1
    obtain ⟨l0, h4, h5⟩ := List.mem_flatMap.mp h1
    obtain ⟨c, h6, rfl⟩ := List.mem_map.mp h5
    have h7 := List.mem_range.mp h6
    have h8 := cntF_le (m := m) (left := room - (l0.sum : Nat)) (room := room - (l0.sum : Nat)) (by omega)
    refine ⟨l0, h4, by rw [h2, List.length_append, List.length_singleton, List.length_cons]; omega, fun h9 => h3 ?_⟩
    rw [List.sum_append]
    simp only [List.sum_cons, List.sum_nil]
    omega
/-! ### the choices -/
theorem subs_len (a : Ag) (h : Int) : (subsF a h).length ≤ 2 ^ a.length := by
  have bnd : ∀ (r : Ag) (ch : List Ag), (r.foldl (subStep h) ch).length ≤ 2 ^ r.length * ch.length := by
    intro r
    induction r with
    | nil => intro ch; simp
    | cons p r ih =>
      intro ch
      have h1 := ih (subStep h ch p)
      have h2 := subStep_len h ch p
      have h3 := Nat.mul_le_mul_left (2 ^ r.length) h2
      rw [List.foldl_cons, List.length_cons, Nat.pow_succ]
      calc _ ≤ _ := h1
        _ ≤ _ := h3
        _ = _ := by rw [Nat.mul_assoc]
  have := bnd a [[]]
  rw [List.length_singleton, Nat.mul_one] at this
  exact this
theorem lots_len {ms : Mny} {room : Int} (hr : room ≤ 3) (hm : ms.length ≤ 4) : (lotsF ms room).length ≤ 256 := by
  have := lots_grow (ms := ms) hr ms [[]]
  have h2 : 4 ^ ms.length ≤ 4 ^ 4 := Nat.pow_le_pow_right (by decide) hm
  have : (lotsF ms room).length ≤ 1 * 4 ^ ms.length := this
  omega
noncomputable def gOf (b : List Kd) (f : Int × Int × Int) (ms : Mny) (kept : Ag) : List DT := (inner b f ms kept).map fun l => chD b ms (kept, l)
noncomputable def choF (b : List Kd) (f : Int × Int × Int) (s : St) : List DT := (subsF s.1 f.2.2).flatMap (gOf b f s.2)
theorem run_kind {b : List Kd} {kept : Ag} {l : Lot} (hk : KindIn b kept) (hl : l.length = b.length) : KindIn b (runOf kept l) := by
  intro p hp
  unfold runOf at hp
  rcases List.mem_append.mp hp with hp | hp
  · exact hk p hp
  · obtain ⟨k, hk', rfl⟩ := List.mem_map.mp hp
    have h1 := expF_lo l 0 k hk'
    have h2 := expF_hi l 0 k hk'
    refine ⟨k.toNat, ?_, by omega⟩
    show k = _
    omega
theorem e_choices {b : List Kd} {f : Int × Int × Int} {s : St} (hb : BskOk b) (h1 : 1 ≤ f.2.2) (h3 : f.2.2 ≤ 3) (hs : StOk b f.2.2 s) : m_choices_of [bskD b, frD f, stD s] = some (.list (choF b f s), [.none, .none, .none]) := by
  have hsub := subs_sub f.2.2 (by omega) s.1 [[]] (fun t ht => by cases List.mem_singleton.mp ht; exact by show ((0 : Nat) : Int) ≤ _; omega)
  have hlen : ∀ k, k ∈ subsF s.1 f.2.2 → (k.length : Int) ≤ f.2.2 ∧ KindIn b k := fun k hk => by
    obtain ⟨q1, q2⟩ := hsub k hk
    refine ⟨q1, fun p hp => ?_⟩
    rcases q2 p hp with h | ⟨t, ht, hpt⟩
    · exact hs.kin p h
    · cases List.mem_singleton.mp ht
      cases hpt
  have hl4 : s.2.length ≤ 4 := hs.many.1
  have hal : s.1.length ≤ 3 := by have := hs.len; omega
  have hg : ∀ k, k ∈ subsF s.1 f.2.2 → (gOf b f s.2 k).length ≤ 256 := fun k hk => by
    unfold gOf inner
    rw [List.length_map]
    exact Nat.le_trans (List.length_filter_le ..) (lots_len (by have := (hlen k hk).1; omega) hl4)
  have htot : (choF b f s).length ≤ 2048 := by
    refine Nat.le_trans (flat_len _ 256 _ hg) ?_
    have := subs_len s.1 f.2.2
    have : 2 ^ s.1.length ≤ 2 ^ 3 := Nat.pow_le_pow_right (by decide) hal
    omega
  let D (acc : List DT) (s9 s10 s11 : Sl) : DS := [.dat (bskD b), .dat (frD f), .dat (stD s), .dat (.int f.1), .dat (.int f.2.1), .dat (.int f.2.2), .dat (agD s.1), .dat (mnD s.2), .own (.list acc), s9, s10, s11, .no]
  let body : SF := sFor (iL (eCall m_laid_from (aCons (eVar 7) (aCons (e2 fSub (eVar 5) (eB fLen (aCons (eVar 9) aNil))) aNil)))) (gN 10)
    (sSeq (sAsg (e2 fPlus (eVar 9) (eB fTup (aCons (eO (oLc (iT (eVar 10)) [12] (gN 12) tYesF (eTup (aCons (eVar 12) (aCons (eC (.int 0)) aNil))))) aNil))) (gN 11))
    (sIf (tV (eCh fLe fLe (eVar 3) (eCall m_thickness_of (aCons (eVar 0) (aCons (eVar 11) aNil))) (eVar 4)))
    (sDrop (eMt isListD 8 fAppend (aCons (eTup (aCons (eVar 9) (aCons (eVar 10) (aCons (eTup (aCons (eCall m_aged (aCons (eVar 0) (aCons (eVar 11) aNil))) (aCons (eCall m_manys_behind (aCons (eVar 7) (aCons (eVar 10) aNil))) aNil))) aNil)))) aNil)))
    sNext))
  obtain ⟨δ', e, acc, s9, s10, s11, rfl, f9, f10, f11, hacc, _⟩ := loop_all (enc := agD) (g := gN 9) (b := body) (subsF s.1 f.2.2)
    (fun r δ => ∃ (acc : List DT) (s9 s10 s11 : Sl), δ = D acc s9 s10 s11 ∧ isFr s9 = true ∧ isFr s10 = true ∧ isFr s11 = true ∧ acc ++ r.flatMap (gOf b f s.2) = choF b f s ∧ ∀ k ∈ r, k ∈ subsF s.1 f.2.2)
    (D [] .no .no .no)
    (by
      rintro kept r δ ⟨acc, s9, s10, s11, rfl, f9, f10, f11, hacc, hr⟩
      obtain ⟨hkl, hkk⟩ := hlen kept (hr kept List.mem_cons_self)
      have hlaid := e_laid (ms := s.2) (room := f.2.2 - kept.length) hs.many (by omega) (by omega)
      have hroom : f.2.2 - (kept.length : Int) ≤ 3 := by omega
      rw [List.flatMap_cons] at hacc
      have haccl : acc.length ≤ 2048 := by
        have := congrArg List.length hacc
        rw [List.length_append] at this
        omega
      -- the walk over the lots
      obtain ⟨δ2, e2', acc2, s10', s11', rfl, f10', f11', hacc2, _⟩ := loop_all (enc := fun l => kdsD (expF 0 l)) (g := gN 10) (b := sSeq (sAsg (e2 fPlus (eVar 9) (eB fTup (aCons (eO (oLc (iT (eVar 10)) [12] (gN 12) tYesF (eTup (aCons (eVar 12) (aCons (eC (.int 0)) aNil))))) aNil))) (gN 11))
        (sIf (tV (eCh fLe fLe (eVar 3) (eCall m_thickness_of (aCons (eVar 0) (aCons (eVar 11) aNil))) (eVar 4)))
        (sDrop (eMt isListD 8 fAppend (aCons (eTup (aCons (eVar 9) (aCons (eVar 10) (aCons (eTup (aCons (eCall m_aged (aCons (eVar 0) (aCons (eVar 11) aNil))) (aCons (eCall m_manys_behind (aCons (eVar 7) (aCons (eVar 10) aNil))) aNil))) aNil)))) aNil)))
        sNext)) (lotsF s.2 (f.2.2 - kept.length))
        (fun q δ => ∃ (acc2 : List DT) (s10 s11 : Sl), δ = D acc2 (.dat (agD kept)) s10 s11 ∧ isFr s10 = true ∧ isFr s11 = true ∧ acc2 ++ ((q.filter fun l => okRun b f (runOf kept l)).map fun l => chD b s.2 (kept, l)) = acc ++ gOf b f s.2 kept ∧ ∀ l ∈ q, l ∈ lotsF s.2 (f.2.2 - kept.length))
        (D acc (.dat (agD kept)) s10 s11)
        (by
          rintro l q δ ⟨acc2, s10, s11, rfl, f10, f11, hacc2, hq⟩
          obtain ⟨l0, hl0, hl1, hl2⟩ := lots_mem s.2 [[]] l (hq l List.mem_cons_self)
          cases List.mem_singleton.mp hl0
          have hll : l.length = s.2.length := by rw [hl1]; simp
          have hls : ((l.sum : Nat) : Int) ≤ 3 := by
            have := hl2 (by show ((0 : Nat) : Int) ≤ _; omega)
            omega
          have hrl : (runOf kept l).length ≤ 60 := by
            unfold runOf
            rw [List.length_append, List.length_map, expF_len]
            omega
          have hrk := run_kind hkk (hll.trans hs.rest)
          have ht := e_thickness hrk (by rw [sizeLine_eq]; omega)
          have ha := e_aged hb hrk hrl
          have hm := e_behind (ms := s.2) (l := l) hll (by omega)
          have hacc2l : acc2.length < 16777216 := by
            have h := congrArg List.length hacc2
            rw [List.length_append, List.length_append] at h
            have := hg kept (hr kept List.mem_cons_self)
            omega
          have hlc := lc_map (enc := PyData.int) (it := iT (eVar 10)) (vs := [12]) (g := gN 12) (t := tYesF) (e := eTup (aCons (eVar 12) (aCons (eC (.int 0)) aNil))) (δ := D acc2 (.dat (agD kept)) (.dat (kdsD (expF 0 l))) s11) (δ' := D acc2 (.dat (agD kept)) (.dat (kdsD (expF 0 l))) s11) (fun k => stepD (k, 0)) (expF 0 l) (by simp [sSeq, sAsg, sOwn, sIf, sRet, sRetO, sRetV, sRetN, sDrop, sNext, sCont, sBreak, sAug, sFor, sSetL, eVar, eC, e1, e2, eB, eTup, eO, oB, o2, oLst, oCall, oDict0X, oLc, oLc2, aNil, aCons, tV, tAnd', tOr', tNot', tT', tYesF, truth', truth, eIf, eAnd, eOr, eNot, eCh, eMt, eMt0, eCall, eIsi, isaD, typeD, isDct, eCntT, eGetX, sPutX, frzV, frzs, val, vals, slD, slDat, cont, setC, isListD, free_eq, isFr_no, isFr_dat, isFr_own, isFr_bor, gN, gT, partsD, iL, iT, iR1, iR2, iEnL, iEnT, iZLL, iZTT, iZTL, iKeysX, iValsX, iItemsX, fI0, fI, fPlus, fCatT, fAddS, fCatL, fRepT, fRepL, fIx, fLen, fAbs, fInt, fTup, fList, fAppend, fExtend, fPop, fPopAt, fMin2, fMax2, fNeg, fIsN, fNotN, isNone, fSum, fSumT, fInX, fIxX, fLenX, r1F, r2F, rgOk, compStep, wipeD, putB, keepD, startS, outsD, outD, mBody, mBodyO, sPar, yNil, yCons, xE, xO, setH, setHs, rdOk, List.set, bind_ite, atI_0, atI_1, atI_2, ixN_0, ixN_1, List.getElem?_cons_zero, eCallB, okL_1, okL_2, okL_3, okL_4, lentS, pinv, frzB, lendB, lent1, List.idxOf?, List.findIdx?, List.findIdx?.go, putS, putS1, oD1X, fEqXE, D, kdsD]) (fun k _ => by simp [sSeq, sAsg, sOwn, sIf, sRet, sRetO, sRetV, sRetN, sDrop, sNext, sCont, sBreak, sAug, sFor, sSetL, eVar, eC, e1, e2, eB, eTup, eO, oB, o2, oLst, oCall, oDict0X, oLc, oLc2, aNil, aCons, tV, tAnd', tOr', tNot', tT', tYesF, truth', truth, eIf, eAnd, eOr, eNot, eCh, eMt, eMt0, eCall, eIsi, isaD, typeD, isDct, eCntT, eGetX, sPutX, frzV, frzs, val, vals, slD, slDat, cont, setC, isListD, free_eq, isFr_no, isFr_dat, isFr_own, isFr_bor, gN, gT, partsD, iL, iT, iR1, iR2, iEnL, iEnT, iZLL, iZTT, iZTL, iKeysX, iValsX, iItemsX, fI0, fI, fPlus, fCatT, fAddS, fCatL, fRepT, fRepL, fIx, fLen, fAbs, fInt, fTup, fList, fAppend, fExtend, fPop, fPopAt, fMin2, fMax2, fNeg, fIsN, fNotN, isNone, fSum, fSumT, fInX, fIxX, fLenX, r1F, r2F, rgOk, compStep, wipeD, putB, keepD, startS, outsD, outD, mBody, mBodyO, sPar, yNil, yCons, xE, xO, setH, setHs, rdOk, List.set, bind_ite, atI_0, atI_1, atI_2, ixN_0, ixN_1, List.getElem?_cons_zero, eCallB, okL_1, okL_2, okL_3, okL_4, lentS, pinv, frzB, lendB, lent1, List.idxOf?, List.findIdx?, List.findIdx?.go, putS, putS1, oD1X, fEqXE, D, stepD, sizeLine_eq]) (by rw [expF_len, sizeLine_eq]; omega)
          have e4 : (gN 10 (kdsD (expF 0 l)) (D acc2 (.dat (agD kept)) s10 s11)) = some (D acc2 (.dat (agD kept)) (.dat (kdsD (expF 0 l))) s11) := by simp [sSeq, sAsg, sOwn, sIf, sRet, sRetO, sRetV, sRetN, sDrop, sNext, sCont, sBreak, sAug, sFor, sSetL, eVar, eC, e1, e2, eB, eTup, eO, oB, o2, oLst, oCall, oDict0X, oLc, oLc2, aNil, aCons, tV, tAnd', tOr', tNot', tT', tYesF, truth', truth, eIf, eAnd, eOr, eNot, eCh, eMt, eMt0, eCall, eIsi, isaD, typeD, isDct, eCntT, eGetX, sPutX, frzV, frzs, val, vals, slD, slDat, cont, setC, isListD, free_eq, isFr_no, isFr_dat, isFr_own, isFr_bor, gN, gT, partsD, iL, iT, iR1, iR2, iEnL, iEnT, iZLL, iZTT, iZTL, iKeysX, iValsX, iItemsX, fI0, fI, fPlus, fCatT, fAddS, fCatL, fRepT, fRepL, fIx, fLen, fAbs, fInt, fTup, fList, fAppend, fExtend, fPop, fPopAt, fMin2, fMax2, fNeg, fIsN, fNotN, isNone, fSum, fSumT, fInX, fIxX, fLenX, r1F, r2F, rgOk, compStep, wipeD, putB, keepD, startS, outsD, outD, mBody, mBodyO, sPar, yNil, yCons, xE, xO, setH, setHs, rdOk, List.set, bind_ite, atI_0, atI_1, atI_2, ixN_0, ixN_1, List.getElem?_cons_zero, eCallB, okL_1, okL_2, okL_3, okL_4, lentS, pinv, frzB, lendB, lent1, List.idxOf?, List.findIdx?, List.findIdx?.go, putS, putS1, oD1X, fEqXE, D, f10]
          have hrun : agD kept = .tuple (kept.map stepD) := rfl
          have hrun2 : PyData.tuple (kept.map stepD ++ (expF 0 l).map fun k => stepD (k, 0)) = agD (runOf kept l) := by
            unfold agD runOf
            rw [List.map_append, List.map_map]
            rfl
          have hlsz : kept.length + (expF 0 l).length ≤ 16777216 := by
            rw [expF_len]
            omega
          have hcat : fPlus (agD kept) (.tuple ((expF 0 l).map fun k => stepD (k, 0))) = some (agD (runOf kept l)) := by
            rw [← hrun2, hrun]
            simp [sSeq, sAsg, sOwn, sIf, sRet, sRetO, sRetV, sRetN, sDrop, sNext, sCont, sBreak, sAug, sSetL, eVar, eC, e1, e2, eB, eTup, eO, oB, o2, oLst, oCall, oDict0X, aNil, aCons, tV, tAnd', tOr', tNot', tT', tYesF, truth', truth, eIf, eAnd, eOr, eNot, eCh, eMt, eMt0, eIsi, isaD, typeD, isDct, eCntT, eGetX, sPutX, frzV, frzs, val, vals, slD, slDat, cont, setC, isListD, free_eq, isFr_no, isFr_dat, isFr_own, isFr_bor, gN, gT, partsD, iL, iT, iR1, iR2, iEnL, iEnT, iZLL, iZTT, iZTL, iKeysX, iValsX, iItemsX, fI0, fI, fPlus, fCatT, fAddS, fCatL, fRepT, fRepL, fIx, fLen, fAbs, fInt, fTup, fList, fAppend, fExtend, fPop, fPopAt, fMin2, fMax2, fNeg, fIsN, fNotN, isNone, fSum, fSumT, fInX, fIxX, fLenX, r1F, r2F, rgOk, wipeD, putB, keepD, startS, outsD, outD, mBody, mBodyO, sPar, yNil, yCons, xE, xO, setH, setHs, rdOk, List.set, bind_ite, atI_0, atI_1, atI_2, ixN_0, ixN_1, List.getElem?_cons_zero, okL_1, okL_2, okL_3, okL_4, lentS, pinv, frzB, lendB, lent1, List.idxOf?, List.findIdx?, List.findIdx?.go, putS, putS1, oD1X, fEqXE, sizeLine_eq, hlsz]
          have e5 : (sAsg (e2 fPlus (eVar 9) (eB fTup (aCons (eO (oLc (iT (eVar 10)) [12] (gN 12) tYesF (eTup (aCons (eVar 12) (aCons (eC (.int 0)) aNil))))) aNil))) (gN 11)) (D acc2 (.dat (agD kept)) (.dat (kdsD (expF 0 l))) s11) = some (.nx (D acc2 (.dat (agD kept)) (.dat (kdsD (expF 0 l))) (.dat (agD (runOf kept l))))) := by
            simp only [D] at hlc ⊢
            simp [sSeq, sAsg, sOwn, sIf, sRet, sRetO, sRetV, sRetN, sDrop, sNext, sCont, sBreak, sAug, sSetL, eVar, eC, e1, e2, eB, eTup, eO, oB, o2, oLst, oCall, oDict0X, aNil, aCons, tV, tAnd', tOr', tNot', tT', tYesF, truth', truth, eIf, eAnd, eOr, eNot, eCh, eMt, eMt0, eIsi, isaD, typeD, isDct, eCntT, eGetX, sPutX, frzV, frzs, val, vals, slD, slDat, cont, setC, isListD, free_eq, isFr_no, isFr_dat, isFr_own, isFr_bor, gN, gT, partsD, iL, iT, iR1, iR2, iEnL, iEnT, iZLL, iZTT, iZTL, iKeysX, iValsX, iItemsX, fI0, fI, fIx, fLen, fAbs, fInt, fTup, fList, fAppend, fExtend, fPop, fPopAt, fMin2, fMax2, fNeg, fIsN, fNotN, isNone, fSum, fSumT, fInX, fIxX, fLenX, r1F, r2F, rgOk, wipeD, putB, keepD, startS, outsD, outD, mBody, mBodyO, sPar, yNil, yCons, xE, xO, setH, setHs, rdOk, List.set, bind_ite, atI_0, atI_1, atI_2, ixN_0, ixN_1, List.getElem?_cons_zero, okL_1, okL_2, okL_3, okL_4, lentS, pinv, frzB, lendB, lent1, List.idxOf?, List.findIdx?, List.findIdx?.go, putS, putS1, oD1X, fEqXE, hlc, hcat, f11]
          rw [e4, Option.bind_some]
          by_cases hok : okRun b f (runOf kept l) = true
          · have hok' := hok
            unfold okRun at hok'
            rw [Bool.and_eq_true, decide_eq_true_eq, decide_eq_true_eq] at hok'
            rw [List.filter_cons_of_pos (by simpa using hok), List.map_cons] at hacc2
            refine ⟨_, seq_to e5 ?_, acc2 ++ [chD b s.2 (kept, l)], .dat (kdsD (expF 0 l)), .dat (agD (runOf kept l)), rfl, rfl, rfl, ?_, fun l h => hq l (List.mem_cons_of_mem _ h)⟩
            · simp only [D]
              simp [sSeq, sAsg, sOwn, sIf, sRet, sRetO, sRetV, sRetN, sDrop, sNext, sCont, sBreak, sAug, sFor, sSetL, eVar, eC, e1, e2, eB, eTup, eO, oB, o2, oLst, oCall, oDict0X, oLc, oLc2, aNil, aCons, tV, tAnd', tOr', tNot', tT', tYesF, truth', truth, eIf, eAnd, eOr, eNot, eCh, eMt, eMt0, eCall, eIsi, isaD, typeD, isDct, eCntT, eGetX, sPutX, frzV, frzs, val, vals, slD, slDat, cont, setC, isListD, free_eq, isFr_no, isFr_dat, isFr_own, isFr_bor, gN, gT, partsD, iL, iT, iR1, iR2, iEnL, iEnT, iZLL, iZTT, iZTL, iKeysX, iValsX, iItemsX, fI0, fI, fPlus, fCatT, fAddS, fCatL, fRepT, fRepL, fIx, fLen, fAbs, fInt, fTup, fList, fAppend, fExtend, fPop, fPopAt, fMin2, fMax2, fNeg, fIsN, fNotN, isNone, fSum, fSumT, fInX, fIxX, fLenX, r1F, r2F, rgOk, compStep, wipeD, putB, keepD, startS, outsD, outD, mBody, mBodyO, sPar, yNil, yCons, xE, xO, setH, setHs, rdOk, List.set, bind_ite, atI_0, atI_1, atI_2, ixN_0, ixN_1, List.getElem?_cons_zero, eCallB, okL_1, okL_2, okL_3, okL_4, lentS, pinv, frzB, lendB, lent1, List.idxOf?, List.findIdx?, List.findIdx?.go, putS, putS1, oD1X, fEqXE, ht, ha, hm, hok'.1, hok'.2, hacc2l, sizeLine_eq, chD, stD, comeOf]
            · rw [List.append_assoc]
              exact hacc2
          · have hok' : ¬ (f.1 ≤ thickOf b (runOf kept l) ∧ thickOf b (runOf kept l) ≤ f.2.1) := fun c => hok (by unfold okRun; rw [Bool.and_eq_true, decide_eq_true_eq, decide_eq_true_eq]; exact c)
            rw [List.filter_cons_of_neg (by simpa using hok)] at hacc2
            refine ⟨_, seq_to e5 ?_, acc2, .dat (kdsD (expF 0 l)), .dat (agD (runOf kept l)), rfl, rfl, rfl, hacc2, fun l h => hq l (List.mem_cons_of_mem _ h)⟩
            simp only [D]
            by_cases c1 : f.1 ≤ thickOf b (runOf kept l)
            · have c2 : ¬ thickOf b (runOf kept l) ≤ f.2.1 := fun c => hok' ⟨c1, c⟩
              simp [sSeq, sAsg, sOwn, sIf, sRet, sRetO, sRetV, sRetN, sDrop, sNext, sCont, sBreak, sAug, sFor, sSetL, eVar, eC, e1, e2, eB, eTup, eO, oB, o2, oLst, oCall, oDict0X, oLc, oLc2, aNil, aCons, tV, tAnd', tOr', tNot', tT', tYesF, truth', truth, eIf, eAnd, eOr, eNot, eCh, eMt, eMt0, eCall, eIsi, isaD, typeD, isDct, eCntT, eGetX, sPutX, frzV, frzs, val, vals, slD, slDat, cont, setC, isListD, free_eq, isFr_no, isFr_dat, isFr_own, isFr_bor, gN, gT, partsD, iL, iT, iR1, iR2, iEnL, iEnT, iZLL, iZTT, iZTL, iKeysX, iValsX, iItemsX, fI0, fI, fPlus, fCatT, fAddS, fCatL, fRepT, fRepL, fIx, fLen, fAbs, fInt, fTup, fList, fAppend, fExtend, fPop, fPopAt, fMin2, fMax2, fNeg, fIsN, fNotN, isNone, fSum, fSumT, fInX, fIxX, fLenX, r1F, r2F, rgOk, compStep, wipeD, putB, keepD, startS, outsD, outD, mBody, mBodyO, sPar, yNil, yCons, xE, xO, setH, setHs, rdOk, List.set, bind_ite, atI_0, atI_1, atI_2, ixN_0, ixN_1, List.getElem?_cons_zero, eCallB, okL_1, okL_2, okL_3, okL_4, lentS, pinv, frzB, lendB, lent1, List.idxOf?, List.findIdx?, List.findIdx?.go, putS, putS1, oD1X, fEqXE, ht, c1, c2]
            · simp [sSeq, sAsg, sOwn, sIf, sRet, sRetO, sRetV, sRetN, sDrop, sNext, sCont, sBreak, sAug, sFor, sSetL, eVar, eC, e1, e2, eB, eTup, eO, oB, o2, oLst, oCall, oDict0X, oLc, oLc2, aNil, aCons, tV, tAnd', tOr', tNot', tT', tYesF, truth', truth, eIf, eAnd, eOr, eNot, eCh, eMt, eMt0, eCall, eIsi, isaD, typeD, isDct, eCntT, eGetX, sPutX, frzV, frzs, val, vals, slD, slDat, cont, setC, isListD, free_eq, isFr_no, isFr_dat, isFr_own, isFr_bor, gN, gT, partsD, iL, iT, iR1, iR2, iEnL, iEnT, iZLL, iZTT, iZTL, iKeysX, iValsX, iItemsX, fI0, fI, fPlus, fCatT, fAddS, fCatL, fRepT, fRepL, fIx, fLen, fAbs, fInt, fTup, fList, fAppend, fExtend, fPop, fPopAt, fMin2, fMax2, fNeg, fIsN, fNotN, isNone, fSum, fSumT, fInX, fIxX, fLenX, r1F, r2F, rgOk, compStep, wipeD, putB, keepD, startS, outsD, outD, mBody, mBodyO, sPar, yNil, yCons, xE, xO, setH, setHs, rdOk, List.set, bind_ite, atI_0, atI_1, atI_2, ixN_0, ixN_1, List.getElem?_cons_zero, eCallB, okL_1, okL_2, okL_3, okL_4, lentS, pinv, frzB, lendB, lent1, List.idxOf?, List.findIdx?, List.findIdx?.go, putS, putS1, oD1X, fEqXE, ht, c1])
        ⟨acc, s10, s11, rfl, f10, f11, by unfold gOf inner; rfl, fun l h => h⟩
      refine ⟨_, ?_, acc2, .dat (agD kept), s10', s11', rfl, rfl, f10', f11', ?_, fun k h => hr k (List.mem_cons_of_mem _ h)⟩
      · have e1 : gN 9 (agD kept) (D acc s9 s10 s11) = some (D acc (.dat (agD kept)) s10 s11) := by simp [sSeq, sAsg, sOwn, sIf, sRet, sRetO, sRetV, sRetN, sDrop, sNext, sCont, sBreak, sAug, sFor, sSetL, eVar, eC, e1, e2, eB, eTup, eO, oB, o2, oLst, oCall, oDict0X, oLc, oLc2, aNil, aCons, tV, tAnd', tOr', tNot', tT', tYesF, truth', truth, eIf, eAnd, eOr, eNot, eCh, eMt, eMt0, eCall, eIsi, isaD, typeD, isDct, eCntT, eGetX, sPutX, frzV, frzs, val, vals, slD, slDat, cont, setC, isListD, free_eq, isFr_no, isFr_dat, isFr_own, isFr_bor, gN, gT, partsD, iL, iT, iR1, iR2, iEnL, iEnT, iZLL, iZTT, iZTL, iKeysX, iValsX, iItemsX, fI0, fI, fPlus, fCatT, fAddS, fCatL, fRepT, fRepL, fIx, fLen, fAbs, fInt, fTup, fList, fAppend, fExtend, fPop, fPopAt, fMin2, fMax2, fNeg, fIsN, fNotN, isNone, fSum, fSumT, fInX, fIxX, fLenX, r1F, r2F, rgOk, compStep, wipeD, putB, keepD, startS, outsD, outD, mBody, mBodyO, sPar, yNil, yCons, xE, xO, setH, setHs, rdOk, List.set, bind_ite, atI_0, atI_1, atI_2, ixN_0, ixN_1, List.getElem?_cons_zero, eCallB, okL_1, okL_2, okL_3, okL_4, lentS, pinv, frzB, lendB, lent1, List.idxOf?, List.findIdx?, List.findIdx?.go, putS, putS1, oD1X, fEqXE, D, f9]
        have ei : iL (eCall m_laid_from (aCons (eVar 7) (aCons (e2 fSub (eVar 5) (eB fLen (aCons (eVar 9) aNil))) aNil))) (D acc (.dat (agD kept)) s10 s11) = some ((lotsF s.2 (f.2.2 - kept.length)).map (fun l => kdsD (expF 0 l)), D acc (.dat (agD kept)) s10 s11) := by
          have hag : agD kept = .tuple (kept.map stepD) := rfl
          simp only [D, hag]
          rw [← hag]
          simp [sSeq, sAsg, sOwn, sIf, sRet, sRetO, sRetV, sRetN, sDrop, sNext, sCont, sBreak, sAug, sFor, sSetL, eVar, eC, e1, e2, eB, eTup, eO, oB, o2, oLst, oCall, oDict0X, oLc, oLc2, aNil, aCons, tV, tAnd', tOr', tNot', tT', tYesF, truth', truth, eIf, eAnd, eOr, eNot, eCh, eMt, eMt0, eCall, eIsi, isaD, typeD, isDct, eCntT, eGetX, sPutX, frzV, frzs, val, vals, slD, slDat, cont, setC, isListD, free_eq, isFr_no, isFr_dat, isFr_own, isFr_bor, gN, gT, partsD, iL, iT, iR1, iR2, iEnL, iEnT, iZLL, iZTT, iZTL, iKeysX, iValsX, iItemsX, fI0, fI, fPlus, fCatT, fAddS, fCatL, fRepT, fRepL, fIx, fLen, fAbs, fInt, fTup, fList, fAppend, fExtend, fPop, fPopAt, fMin2, fMax2, fNeg, fIsN, fNotN, isNone, fSum, fSumT, fInX, fIxX, fLenX, r1F, r2F, rgOk, compStep, wipeD, putB, keepD, startS, outsD, outD, mBody, mBodyO, sPar, yNil, yCons, xE, xO, setH, setHs, rdOk, List.set, bind_ite, atI_0, atI_1, atI_2, ixN_0, ixN_1, List.getElem?_cons_zero, eCallB, okL_1, okL_2, okL_3, okL_4, lentS, pinv, frzB, lendB, lent1, List.idxOf?, List.findIdx?, List.findIdx?.go, putS, putS1, oD1X, fEqXE, hlaid, agD, List.map_map, Function.comp_def]
        rw [e1]
        show sFor _ _ _ _ = _
        unfold sFor
        rw [ei]
        exact e2'
      · simp only [List.filter_nil, List.map_nil, List.append_nil] at hacc2
        rw [hacc2, List.append_assoc]
        exact hacc)
    ⟨[], .no, .no, .no, rfl, rfl, rfl, rfl, rfl, fun k h => h⟩
  refine mB_rt (δ := (D acc s9 s10 s11).set 8 (.dat (.list acc))) rfl ?_ rfl
  have hkept := e_kept (a := s.1) (h := f.2.2) (by omega) (by omega)
  have b1 : startS [false, false, false] [bskD b, frD f, stD s] ++ List.replicate 10 .no = [.dat (bskD b), .dat (frD f), .dat (stD s), .no, .no, .no, .no, .no, .no, .no, .no, .no, .no] := rfl
  rw [b1]
  refine seq_to (δ' := [.dat (bskD b), .dat (frD f), .dat (stD s), .dat (.int f.1), .dat (.int f.2.1), .dat (.int f.2.2), .no, .no, .no, .no, .no, .no, .no]) (by simp [sSeq, sAsg, sOwn, sIf, sRet, sRetO, sRetV, sRetN, sDrop, sNext, sCont, sBreak, sAug, sFor, sSetL, eVar, eC, e1, e2, eB, eTup, eO, oB, o2, oLst, oCall, oDict0X, oLc, oLc2, aNil, aCons, tV, tAnd', tOr', tNot', tT', tYesF, truth', truth, eIf, eAnd, eOr, eNot, eCh, eMt, eMt0, eCall, eIsi, isaD, typeD, isDct, eCntT, eGetX, sPutX, frzV, frzs, val, vals, slD, slDat, cont, setC, isListD, free_eq, isFr_no, isFr_dat, isFr_own, isFr_bor, gN, gT, partsD, iL, iT, iR1, iR2, iEnL, iEnT, iZLL, iZTT, iZTL, iKeysX, iValsX, iItemsX, fI0, fI, fPlus, fCatT, fAddS, fCatL, fRepT, fRepL, fIx, fLen, fAbs, fInt, fTup, fList, fAppend, fExtend, fPop, fPopAt, fMin2, fMax2, fNeg, fIsN, fNotN, isNone, fSum, fSumT, fInX, fIxX, fLenX, r1F, r2F, rgOk, compStep, wipeD, putB, keepD, startS, outsD, outD, mBody, mBodyO, sPar, yNil, yCons, xE, xO, setH, setHs, rdOk, List.set, bind_ite, atI_0, atI_1, atI_2, ixN_0, ixN_1, List.getElem?_cons_zero, eCallB, okL_1, okL_2, okL_3, okL_4, lentS, pinv, frzB, lendB, lent1, List.idxOf?, List.findIdx?, List.findIdx?.go, putS, putS1, oD1X, fEqXE, frD]) ?_
  refine seq_to (δ' := [.dat (bskD b), .dat (frD f), .dat (stD s), .dat (.int f.1), .dat (.int f.2.1), .dat (.int f.2.2), .dat (agD s.1), .dat (mnD s.2), .no, .no, .no, .no, .no]) (by simp [sSeq, sAsg, sOwn, sIf, sRet, sRetO, sRetV, sRetN, sDrop, sNext, sCont, sBreak, sAug, sFor, sSetL, eVar, eC, e1, e2, eB, eTup, eO, oB, o2, oLst, oCall, oDict0X, oLc, oLc2, aNil, aCons, tV, tAnd', tOr', tNot', tT', tYesF, truth', truth, eIf, eAnd, eOr, eNot, eCh, eMt, eMt0, eCall, eIsi, isaD, typeD, isDct, eCntT, eGetX, sPutX, frzV, frzs, val, vals, slD, slDat, cont, setC, isListD, free_eq, isFr_no, isFr_dat, isFr_own, isFr_bor, gN, gT, partsD, iL, iT, iR1, iR2, iEnL, iEnT, iZLL, iZTT, iZTL, iKeysX, iValsX, iItemsX, fI0, fI, fPlus, fCatT, fAddS, fCatL, fRepT, fRepL, fIx, fLen, fAbs, fInt, fTup, fList, fAppend, fExtend, fPop, fPopAt, fMin2, fMax2, fNeg, fIsN, fNotN, isNone, fSum, fSumT, fInX, fIxX, fLenX, r1F, r2F, rgOk, compStep, wipeD, putB, keepD, startS, outsD, outD, mBody, mBodyO, sPar, yNil, yCons, xE, xO, setH, setHs, rdOk, List.set, bind_ite, atI_0, atI_1, atI_2, ixN_0, ixN_1, List.getElem?_cons_zero, eCallB, okL_1, okL_2, okL_3, okL_4, lentS, pinv, frzB, lendB, lent1, List.idxOf?, List.findIdx?, List.findIdx?.go, putS, putS1, oD1X, fEqXE, stD]) ?_
  refine seq_to (δ' := D [] .no .no .no) (by simp [sSeq, sAsg, sOwn, sIf, sRet, sRetO, sRetV, sRetN, sDrop, sNext, sCont, sBreak, sAug, sFor, sSetL, eVar, eC, e1, e2, eB, eTup, eO, oB, o2, oLst, oCall, oDict0X, oLc, oLc2, aNil, aCons, tV, tAnd', tOr', tNot', tT', tYesF, truth', truth, eIf, eAnd, eOr, eNot, eCh, eMt, eMt0, eCall, eIsi, isaD, typeD, isDct, eCntT, eGetX, sPutX, frzV, frzs, val, vals, slD, slDat, cont, setC, isListD, free_eq, isFr_no, isFr_dat, isFr_own, isFr_bor, gN, gT, partsD, iL, iT, iR1, iR2, iEnL, iEnT, iZLL, iZTT, iZTL, iKeysX, iValsX, iItemsX, fI0, fI, fPlus, fCatT, fAddS, fCatL, fRepT, fRepL, fIx, fLen, fAbs, fInt, fTup, fList, fAppend, fExtend, fPop, fPopAt, fMin2, fMax2, fNeg, fIsN, fNotN, isNone, fSum, fSumT, fInX, fIxX, fLenX, r1F, r2F, rgOk, compStep, wipeD, putB, keepD, startS, outsD, outD, mBody, mBodyO, sPar, yNil, yCons, xE, xO, setH, setHs, rdOk, List.set, bind_ite, atI_0, atI_1, atI_2, ixN_0, ixN_1, List.getElem?_cons_zero, eCallB, okL_1, okL_2, okL_3, okL_4, lentS, pinv, frzB, lendB, lent1, List.idxOf?, List.findIdx?, List.findIdx?.go, putS, putS1, oD1X, fEqXE, D]) ?_
  refine seq_to (δ' := D acc s9 s10 s11) ?_ ?_
  · have ei : iL (eCall m_kept_from (aCons (eVar 6) (aCons (eVar 5) aNil))) (D [] .no .no .no) = some ((subsF s.1 f.2.2).map agD, D [] .no .no .no) := by simp [sSeq, sAsg, sOwn, sIf, sRet, sRetO, sRetV, sRetN, sDrop, sNext, sCont, sBreak, sAug, sFor, sSetL, eVar, eC, e1, e2, eB, eTup, eO, oB, o2, oLst, oCall, oDict0X, oLc, oLc2, aNil, aCons, tV, tAnd', tOr', tNot', tT', tYesF, truth', truth, eIf, eAnd, eOr, eNot, eCh, eMt, eMt0, eCall, eIsi, isaD, typeD, isDct, eCntT, eGetX, sPutX, frzV, frzs, val, vals, slD, slDat, cont, setC, isListD, free_eq, isFr_no, isFr_dat, isFr_own, isFr_bor, gN, gT, partsD, iL, iT, iR1, iR2, iEnL, iEnT, iZLL, iZTT, iZTL, iKeysX, iValsX, iItemsX, fI0, fI, fPlus, fCatT, fAddS, fCatL, fRepT, fRepL, fIx, fLen, fAbs, fInt, fTup, fList, fAppend, fExtend, fPop, fPopAt, fMin2, fMax2, fNeg, fIsN, fNotN, isNone, fSum, fSumT, fInX, fIxX, fLenX, r1F, r2F, rgOk, compStep, wipeD, putB, keepD, startS, outsD, outD, mBody, mBodyO, sPar, yNil, yCons, xE, xO, setH, setHs, rdOk, List.set, bind_ite, atI_0, atI_1, atI_2, ixN_0, ixN_1, List.getElem?_cons_zero, eCallB, okL_1, okL_2, okL_3, okL_4, lentS, pinv, frzB, lendB, lent1, List.idxOf?, List.findIdx?, List.findIdx?.go, putS, putS1, oD1X, fEqXE, D, hkept]
    show sFor _ _ _ _ = _
    unfold sFor
    rw [ei]
    exact e
  · rw [List.flatMap_nil, List.append_nil] at hacc
    rw [← hacc]
    simp [sSeq, sAsg, sOwn, sIf, sRet, sRetO, sRetV, sRetN, sDrop, sNext, sCont, sBreak, sAug, sFor, sSetL, eVar, eC, e1, e2, eB, eTup, eO, oB, o2, oLst, oCall, oDict0X, oLc, oLc2, aNil, aCons, tV, tAnd', tOr', tNot', tT', tYesF, truth', truth, eIf, eAnd, eOr, eNot, eCh, eMt, eMt0, eCall, eIsi, isaD, typeD, isDct, eCntT, eGetX, sPutX, frzV, frzs, val, vals, slD, slDat, cont, setC, isListD, free_eq, isFr_no, isFr_dat, isFr_own, isFr_bor, gN, gT, partsD, iL, iT, iR1, iR2, iEnL, iEnT, iZLL, iZTT, iZTL, iKeysX, iValsX, iItemsX, fI0, fI, fPlus, fCatT, fAddS, fCatL, fRepT, fRepL, fIx, fLen, fAbs, fInt, fTup, fList, fAppend, fExtend, fPop, fPopAt, fMin2, fMax2, fNeg, fIsN, fNotN, isNone, fSum, fSumT, fInX, fIxX, fLenX, r1F, r2F, rgOk, compStep, wipeD, putB, keepD, startS, outsD, outD, mBody, mBodyO, sPar, yNil, yCons, xE, xO, setH, setHs, rdOk, List.set, bind_ite, atI_0, atI_1, atI_2, ixN_0, ixN_1, List.getElem?_cons_zero, eCallB, okL_1, okL_2, okL_3, okL_4, lentS, pinv, frzB, lendB, lent1, List.idxOf?, List.findIdx?, List.findIdx?.go, putS, putS1, oD1X, fEqXE, D]
/-! ### the least that leads there -/
theorem stepD_inj {p q : Int × Int} (h : stepD p = stepD q) : p = q := by
  simp only [stepD, PyData.tuple.injEq, List.cons.injEq, PyData.int.injEq, and_true] at h
  exact Prod.ext h.1 h.2
def nkM : Option Int → NestedKey
  | none => .none
  | some i => .num i
def nkP (p : Int × Int) : NestedKey := .tup [.num p.1, .num p.2]
def nkS (s : St) : NestedKey := .tup [.tup (s.1.map nkP), .tup (s.2.map nkM)]
theorem nk_list {α : Type} {f : α → DT} {g : α → NestedKey} (h : ∀ x, nkOf (f x) = some (g x)) : ∀ l : List α, nksOf (l.map f) = some (l.map g)
  | [] => rfl
  | x :: r => by
    rw [List.map_cons, nksOf, h x, nk_list h r]
    rfl
theorem nk_opt (m : Option Int) : nkOf (optD m) = some (nkM m) := by
  cases m <;> simp [optD, nkM, nkOf]
theorem nk_ag (a : Ag) : nkOf (agD a) = some (.tup (a.map nkP)) := by
  unfold agD
  rw [nkOf, nk_list (fun p => nk_step p)]
  rfl
theorem nk_mn (m : Mny) : nkOf (mnD m) = some (.tup (m.map nkM)) := by
  unfold mnD
  rw [nkOf, nk_list nk_opt]
  rfl
theorem nk_st (s : St) : nkOf (stD s) = some (nkS s) := by
  simp [stD, nkOf, nksOf, nk_ag, nk_mn, nkS]
theorem nkS_inj {s t : St} (h : nkS s = nkS t) : s = t := by
  unfold nkS at h
  simp only [NestedKey.tup.injEq, List.cons.injEq, and_true] at h
  refine Prod.ext ?_ ?_
  · refine (List.map_inj_right (f := nkP) ?_).mp h.1
    intro p q h
    simp only [nkP, NestedKey.tup.injEq, List.cons.injEq, NestedKey.num.injEq, and_true] at h
    exact Prod.ext h.1 h.2
  · refine (List.map_inj_right (f := nkM) ?_).mp h.2
    intro p q h
    cases p <;> cases q <;> simp_all [nkM]
theorem eqK_st (s t : St) : eqK (stD s) (stD t) = decide (s = t) := by
  unfold eqK
  rw [nk_st, nk_st]
  by_cases h : s = t
  · rw [h]; simp
  · rw [decide_eq_false h, decide_eq_false fun e => h (nkS_inj (Option.some.inj e))]
theorem ndepth {α : Type} {g : α → NestedKey} {n : Nat} (h : ∀ x, (g x).depth ≤ n) : ∀ l : List α, NestedKey.depthAll (l.map g) ≤ n
  | [] => by simp [NestedKey.depthAll]
  | x :: r => by
    rw [List.map_cons, NestedKey.depthAll]
    exact Nat.max_le.mpr ⟨h x, ndepth h r⟩
theorem nkS_depth (s : St) : (nkS s).depth ≤ 8 := by
  have h1 := ndepth (g := nkP) (n := 1) (fun p => by simp [nkP, NestedKey.depth, NestedKey.depthAll]) s.1
  have h2 := ndepth (g := nkM) (n := 1) (fun p => by cases p <;> simp [nkM, NestedKey.depth]) s.2
  simp only [nkS, NestedKey.depth, NestedKey.depthAll]
  omega
theorem key_st (s : St) : keyX (stD s) = some (nkS s) := by
  have h := nk_st s
  have hd := nkS_depth s
  unfold stD at h ⊢
  rw [nkOf] at h
  obtain ⟨ks, h1, h2⟩ := Option.map_eq_some_iff.mp h
  unfold keyX
  show ((nksOf [agD s.1, mnD s.2]).bind fun ks => if (NestedKey.tup ks).depth ≤ 8 then some (NestedKey.tup ks) else none) = _
  rw [h1]
  show (if (NestedKey.tup ks).depth ≤ 8 then some (NestedKey.tup ks) else none) = _
  rw [h2, if_pos hd]
abbrev Kv := List (St × Int)
def kvD (p : St × Int) : DT × DT := (stD p.1, .int p.2)
def dicD (kvs : Kv) : DT := mkX (kvs.map kvD)
def getS (kvs : Kv) (k : St) (n : Int) : Int := ((kvs.find? fun p => decide (p.1 = k)).map (·.2)).getD n
def putSt (kvs : Kv) (k : St) (v : Int) : Kv := if (kvs.any fun p => decide (p.1 = k)) = true then kvs.map (fun p => if p.1 = k then (p.1, v) else p) else kvs ++ [(k, v)]
theorem get_st (kvs : Kv) (k : St) (n : Int) : (findD (kvs.map kvD) (stD k)).getD (.int n) = .int (getS kvs k n) := by
  unfold findD getS
  rw [List.find?_map]
  have : ((fun p : DT × DT => eqK p.1 (stD k)) ∘ kvD) = fun p => decide (p.1 = k) := funext fun p => eqK_st p.1 k
  rw [this]
  cases (kvs.find? fun p => decide (p.1 = k)) with
  | none => rfl
  | some p => rfl
theorem put_st (kvs : Kv) (k : St) (v : Int) : putD (kvs.map kvD) (stD k) (.int v) = (putSt kvs k v).map kvD := by
  unfold putD putSt
  rw [List.any_map]
  have : ((fun p : DT × DT => eqK p.1 (stD k)) ∘ kvD) = fun p => decide (p.1 = k) := funext fun p => eqK_st p.1 k
  rw [this]
  split
  · rw [List.map_map, List.map_map]
    refine List.map_congr_left fun p _ => ?_
    show (if eqK (stD p.1) (stD k) = true then (stD p.1, PyData.int v) else kvD p) = kvD (if p.1 = k then (p.1, v) else p)
    rw [eqK_st]
    by_cases c : p.1 = k
    · rw [if_pos c, if_pos (decide_eq_true c)]; rfl
    · rw [if_neg c, if_neg (by rw [decide_eq_false c]; decide)]
  · rw [List.map_append]; rfl
def minI (n g : Int) : Int := if g < n then g else n
def addMin (kvs : Kv) (c : St × Int) : Kv := putSt kvs c.1 (minI c.2 (getS kvs c.1 c.2))
theorem addMin_len (kvs : Kv) (c : St × Int) : (addMin kvs c).length ≤ kvs.length + 1 := by
  unfold addMin putSt
  split
  · rw [List.length_map]; omega
  · rw [List.length_append, List.length_singleton]; omega
theorem fold_len : ∀ (cs : List (St × Int)) (kvs : Kv), (cs.foldl addMin kvs).length ≤ kvs.length + cs.length
  | [], kvs => by simp
  | c :: r, kvs => by
    have h1 := fold_len r (addMin kvs c)
    have h2 := addMin_len kvs c
    rw [List.foldl_cons, List.length_cons]
    omega
/-- what such a dict tells of what was put -/
structure MinOf (kvs : Kv) (cs : List (St × Int)) : Prop where
  nd : (kvs.map (·.1)).Nodup
  sub : ∀ p ∈ kvs, p ∈ cs
  low : ∀ k m, (k, m) ∈ cs → ∃ n, n ≤ m ∧ (k, n) ∈ kvs
theorem uniq_kv {kvs : Kv} (nd : (kvs.map (·.1)).Nodup) {k : St} {m n : Int} (h : (k, m) ∈ kvs) (h' : (k, n) ∈ kvs) : m = n := by
  induction kvs with
  | nil => cases h
  | cons p r ih =>
    rw [List.map_cons, List.nodup_cons] at nd
    rcases List.mem_cons.mp h with rfl | h1 <;> rcases List.mem_cons.mp h' with h2 | h2
    · exact (Prod.mk.inj h2).2.symm
    · exact absurd (List.mem_map_of_mem (f := (·.1)) h2) nd.1
    · subst h2
      exact absurd (List.mem_map_of_mem (f := (·.1)) h1) nd.1
    · exact ih nd.2 h1 h2
theorem minOf_add {kvs : Kv} {cs : List (St × Int)} (h : MinOf kvs cs) (c : St × Int) : MinOf (addMin kvs c) (cs ++ [c]) := by
  obtain ⟨k, n⟩ := c
  unfold addMin putSt
  by_cases a : (kvs.any fun p => decide (p.1 = k)) = true
  · rw [if_pos a]
    obtain ⟨⟨k', g⟩, hp, hk⟩ := List.any_eq_true.mp a
    have hk : k' = k := of_decide_eq_true hk
    subst hk
    have hg : getS kvs k' n = g := by
      unfold getS
      cases hf : kvs.find? fun p => decide (p.1 = k') with
      | none => exact absurd (List.find?_eq_none.mp hf _ hp) (by simp)
      | some q =>
        have h1 := List.mem_of_find?_eq_some hf
        have h2 : q.1 = k' := by simpa using List.find?_some hf
        obtain ⟨q1, q2⟩ := q
        subst h2
        exact uniq_kv h.nd h1 hp
    have hmap : (kvs.map fun p => if p.1 = k' then (p.1, minI n (getS kvs k' n)) else p).map (·.1) = kvs.map (·.1) := by
      rw [List.map_map]
      refine List.map_congr_left fun p _ => ?_
      show (if p.1 = k' then (p.1, minI n (getS kvs k' n)) else p).1 = p.1
      split <;> rfl
    have hm : minI n g = n ∨ minI n g = g := by unfold minI; split <;> simp
    have hl1 : minI n g ≤ n := by unfold minI; split <;> omega
    have hl2 : minI n g ≤ g := by unfold minI; split <;> omega
    refine ⟨by rw [hmap]; exact h.nd, fun p hp' => ?_, fun k m hm' => ?_⟩
    · obtain ⟨q, hq, rfl⟩ := List.mem_map.mp hp'
      split
      · next c =>
        rw [hg, c]
        rcases hm with e | e
        · rw [e]; exact List.mem_append_right _ (List.mem_singleton.mpr rfl)
        · rw [e]; exact List.mem_append_left _ (h.sub _ hp)
      · exact List.mem_append_left _ (h.sub _ hq)
    · by_cases c : k = k'
      · subst c
        have : m = n ∨ g ≤ m := by
          rcases List.mem_append.mp hm' with h1 | h1
          · obtain ⟨x, hx, hx'⟩ := h.low _ _ h1
            exact .inr (uniq_kv h.nd hx' hp ▸ hx)
          · exact .inl (Prod.mk.inj (List.mem_singleton.mp h1)).2
        refine ⟨minI n g, by omega, List.mem_map.mpr ⟨(k, g), hp, by simp [hg]⟩⟩
      · rcases List.mem_append.mp hm' with h1 | h1
        · obtain ⟨x, hx, hx'⟩ := h.low _ _ h1
          exact ⟨x, hx, List.mem_map.mpr ⟨(k, x), hx', by simp [c]⟩⟩
        · exact absurd (Prod.mk.inj (List.mem_singleton.mp h1)).1 c
  · rw [if_neg a]
    have hno : ∀ p ∈ kvs, p.1 ≠ k := fun p hp e => a (List.any_eq_true.mpr ⟨p, hp, decide_eq_true e⟩)
    have hg : getS kvs k n = n := by
      unfold getS
      rw [List.find?_eq_none.mpr fun p hp => by simpa using hno p hp]
      rfl
    have hm : minI n (getS kvs k n) = n := by rw [hg]; unfold minI; split <;> omega
    rw [hm]
    refine ⟨?_, fun p hp => ?_, fun k' m hm' => ?_⟩
    · rw [List.map_append, List.nodup_append]
      refine ⟨h.nd, by simp, fun x hx y hy => ?_⟩
      obtain ⟨p, hp, rfl⟩ := List.mem_map.mp hx
      cases List.mem_singleton.mp hy
      exact hno p hp
    · rcases List.mem_append.mp hp with h1 | h1
      · exact List.mem_append_left _ (h.sub _ h1)
      · exact List.mem_append_right _ h1
    · rcases List.mem_append.mp hm' with h1 | h1
      · obtain ⟨x, hx, hx'⟩ := h.low _ _ h1
        exact ⟨x, hx, List.mem_append_left _ hx'⟩
      · exact ⟨m, Int.le_refl _, List.mem_append_right _ h1⟩
theorem minOf_fold : ∀ (cs cs0 : List (St × Int)) (kvs : Kv), MinOf kvs cs0 → MinOf (cs.foldl addMin kvs) (cs0 ++ cs)
  | [], cs0, kvs, h => by rw [List.append_nil]; exact h
  | c :: r, cs0, kvs, h => by
    have := minOf_fold r _ _ (minOf_add h c)
    rw [List.append_assoc] at this
    exact this
def minF (cs : List (St × Int)) : Kv := cs.foldl addMin []
theorem minF_of (cs : List (St × Int)) : MinOf (minF cs) cs := by
  have := minOf_fold cs [] [] ⟨by simp, fun p h => (by cases h), fun k m h => (by cases h)⟩
  exact this
theorem minF_mem {cs cs' : List (St × Int)} (h : ∀ p, p ∈ cs ↔ p ∈ cs') (p : St × Int) (hp : p ∈ minF cs) : p ∈ minF cs' := by
  obtain ⟨k, n⟩ := p
  have A := minF_of cs
  have B := minF_of cs'
  obtain ⟨n1, h1, h2⟩ := B.low _ _ ((h _).mp (A.sub _ hp))
  obtain ⟨n2, h3, h4⟩ := A.low _ _ ((h _).mpr (B.sub _ h2))
  have := uniq_kv A.nd hp h4
  have e : n1 = n := by omega
  exact e ▸ h2
theorem nodup_of_keys {kvs : Kv} (nd : (kvs.map (·.1)).Nodup) : kvs.Nodup := (List.pairwise_map.mp nd).imp fun h e => h (by rw [e])
theorem minF_perm {cs cs' : List (St × Int)} (h : ∀ p, p ∈ cs ↔ p ∈ cs') : (minF cs).Perm (minF cs') :=
  (List.perm_ext_iff_of_nodup (nodup_of_keys (minF_of cs).nd) (nodup_of_keys (minF_of cs').nd)).mpr fun p => ⟨minF_mem h p, minF_mem (fun q => (h q).symm) p⟩
/-! ### such things are sorted -/
def itD (p : St × Int) : DT := .tuple [stD p.1, .int p.2]
theorem ddepth {α : Type} {g : α → DT} {n : Nat} (h : ∀ x, (g x).depth ≤ n) : ∀ l : List α, PyData.depthAll (l.map g) ≤ n
  | [] => by simp [PyData.depthAll]
  | x :: r => by
    rw [List.map_cons, PyData.depthAll]
    exact Nat.max_le.mpr ⟨h x, ddepth h r⟩
theorem dlay {α : Type} {g : α → DT} (h : ∀ x, (g x).canLay0 = true) : ∀ l : List α, PyData.canLayAll0 (l.map g) = true
  | [] => by simp [PyData.canLayAll0]
  | x :: r => by
    rw [List.map_cons, PyData.canLayAll0, h x, dlay h r]
    rfl
theorem st_lay (s : St) : (stD s).canLay0 = true := by
  have h1 := dlay (g := stepD) (fun _ => rfl) s.1
  have h2 := dlay (g := optD) (fun m => by cases m <;> rfl) s.2
  simp [stD, agD, mnD, PyData.canLay0, PyData.canLayAll0, h1, h2]
theorem st_depth (s : St) : (stD s).depth ≤ 8 := by
  have h1 := ddepth (g := stepD) (n := 1) (fun p => by simp [stepD, PyData.depth, PyData.depthAll]) s.1
  have h2 := ddepth (g := optD) (n := 1) (fun m => by cases m <;> simp [optD, PyData.depth]) s.2
  simp only [stD, agD, mnD, PyData.depth, PyData.depthAll]
  omega
theorem alike_ag : ∀ a c : Ag, PySem.W.alikeAll (a.map stepD) (c.map stepD) = true
  | [], _ => by simp [PySem.W.alikeAll]
  | _ :: _, [] => by simp [PySem.W.alikeAll]
  | p :: r, q :: t => by
    have := alike_ag r t
    simp [stepD, PySem.W.alike, PySem.W.alikeAll, this]
theorem alike_mn : ∀ a c : Mny, a.map Option.isSome = c.map Option.isSome → PySem.W.alikeAll (a.map optD) (c.map optD) = true
  | [], _, _ => by simp [PySem.W.alikeAll]
  | _ :: _, [], _ => by simp [PySem.W.alikeAll]
  | p :: r, q :: t, h => by
    rw [List.map_cons, List.map_cons, List.cons.injEq] at h
    have := alike_mn r t h.2
    cases p <;> cases q <;> simp_all [optD, PySem.W.alike, PySem.W.alikeAll]
theorem alike_st {s t : St} (h : s.2.map Option.isSome = t.2.map Option.isSome) : PySem.W.alike (stD s) (stD t) = true := by
  simp [stD, agD, mnD, PySem.W.alike, PySem.W.alikeAll, alike_ag, alike_mn _ _ h]
theorem alike_it {p q : St × Int} (h : p.1.2.map Option.isSome = q.1.2.map Option.isSome) : PySem.W.alike (itD p) (itD q) = true := by
  simp [itD, PySem.W.alike, PySem.W.alikeAll, alike_st h]
theorem ok_its {kvs : Kv} {pat : List Bool} (h : ∀ p ∈ kvs, p.1.2.map Option.isSome = pat) (hl : kvs.length ≤ sizeLine) : okSort (kvs.map itD) := by
  refine ⟨?_, .inl fun d hd => ?_, by rw [List.length_map]; exact hl, fun d hd => ?_⟩
  · intro d hd d' hd'
    obtain ⟨p, hp, rfl⟩ := List.mem_map.mp hd
    obtain ⟨q, hq, rfl⟩ := List.mem_map.mp hd'
    exact alike_it ((h p hp).trans (h q hq).symm)
  · obtain ⟨p, _, rfl⟩ := List.mem_map.mp hd
    exact ⟨_, _, rfl⟩
  · obtain ⟨p, _, rfl⟩ := List.mem_map.mp hd
    have h1 := st_depth p.1
    refine ⟨by simp [itD, PyData.canLay0, PyData.canLayAll0, st_lay], ?_⟩
    simp only [itD, PyData.depth, PyData.depthAll]
    omega
theorem ok_keys {kvs : Kv} {pat : List Bool} (h : ∀ p ∈ kvs, p.1.2.map Option.isSome = pat) (hl : kvs.length ≤ sizeLine) : okSort (kvs.map fun p => stD p.1) := by
  refine ⟨?_, .inl fun d hd => ?_, by rw [List.length_map]; exact hl, fun d hd => ?_⟩
  · intro d hd d' hd'
    obtain ⟨p, hp, rfl⟩ := List.mem_map.mp hd
    obtain ⟨q, hq, rfl⟩ := List.mem_map.mp hd'
    exact alike_st ((h p hp).trans (h q hq).symm)
  · obtain ⟨p, _, rfl⟩ := List.mem_map.mp hd
    exact ⟨_, _, rfl⟩
  · obtain ⟨p, _, rfl⟩ := List.mem_map.mp hd
    exact ⟨st_lay _, by have := st_depth p.1; omega⟩
theorem its_nk (kvs : Kv) : ∀ d ∈ kvs.map itD, ∃ k, nkOf d = some k := fun d hd => by
  obtain ⟨p, _, rfl⟩ := List.mem_map.mp hd
  exact ⟨.tup [nkS p.1, .num p.2], by simp [itD, nkOf, nksOf, nk_st]⟩
theorem its_sort {cs cs' : List (St × Int)} {pat : List Bool} (h : ∀ p, p ∈ cs ↔ p ∈ cs') (hp : ∀ p ∈ cs, p.1.2.map Option.isSome = pat) : sortD ((minF cs).map itD) = sortD ((minF cs').map itD) := by
  refine sort_eq (its_nk _) ?_ ((minF_perm h).map _)
  intro d hd d' hd'
  obtain ⟨p, hp', rfl⟩ := List.mem_map.mp hd
  obtain ⟨q, hq, rfl⟩ := List.mem_map.mp hd'
  exact alike_it ((hp p ((minF_of cs).sub _ hp')).trans (hp q ((minF_of cs).sub _ hq)).symm)
/-! ### the steps -/
noncomputable def choP (b : List Kd) (f : Int × Int × Int) (s : St) : List (Ag × Lot) := (subsF s.1 f.2.2).flatMap fun kept => (inner b f s.2 kept).map fun l => (kept, l)
theorem choF_eq (b : List Kd) (f : Int × Int × Int) (s : St) : choF b f s = (choP b f s).map (chD b s.2) := by
  unfold choF choP
  rw [List.map_flatMap]
  refine congrArg (fun g => List.flatMap g (subsF s.1 f.2.2)) (funext fun k => ?_)
  unfold gOf
  rw [List.map_map]
  rfl
noncomputable def toC (b : List Kd) (ms : Mny) (p : Ag × Lot) : St × Int := (comeOf b ms p.1 p.2, ((p.2.sum : Nat) : Int))
noncomputable def csP (b : List Kd) (f : Int × Int × Int) (s : St) : List (St × Int) := (choP b f s).map (toC b s.2)
theorem restL_pat : ∀ (ms : Mny) (l : Lot), l.length = ms.length → (restL ms l).map Option.isSome = ms.map Option.isSome
  | [], l, _ => by simp [restL]
  | m :: r, [], h => by simp at h
  | m :: r, c :: l, h => by
    have := restL_pat r l (by simpa using h)
    unfold restL at this ⊢
    rw [List.zipWith_cons_cons, List.map_cons, this, List.map_cons]
    cases m <;> rfl
theorem lotsF_len {ms : Mny} {room : Int} {l : Lot} (h : l ∈ lotsF ms room) : l.length = ms.length := by
  obtain ⟨l0, h1, h2, _⟩ := lots_mem ms [[]] l h
  cases List.mem_singleton.mp h1
  rw [h2]
  simp
theorem csP_pat {b : List Kd} {f : Int × Int × Int} {s : St} : ∀ p ∈ csP b f s, p.1.2.map Option.isSome = s.2.map Option.isSome := fun p hp => by
  obtain ⟨q, hq, rfl⟩ := List.mem_map.mp hp
  obtain ⟨k, _, hq⟩ := List.mem_flatMap.mp hq
  obtain ⟨l, hl, rfl⟩ := List.mem_map.mp hq
  exact restL_pat _ _ (lotsF_len (List.mem_filter.mp hl).1)
theorem choP_len {b : List Kd} {f : Int × Int × Int} {s : St} (h1 : 1 ≤ f.2.2) (h3 : f.2.2 ≤ 3) (hs : StOk b f.2.2 s) : (choP b f s).length ≤ 2048 := by
  have hl4 : s.2.length ≤ 4 := hs.many.1
  have hal : s.1.length ≤ 3 := by have := hs.len; omega
  refine Nat.le_trans (flat_len _ 256 _ fun k hk => ?_) ?_
  · rw [List.length_map]
    unfold inner
    exact Nat.le_trans (List.length_filter_le ..) (lots_len (by omega) hl4)
  · have := subs_len s.1 f.2.2
    have : 2 ^ s.1.length ≤ 2 ^ 3 := Nat.pow_le_pow_right (by decide) hal
    omega
theorem sort_its (kvs : Kv) : (kvs.map kvD).map (fun x => PyData.tuple [x.1, x.2]) = kvs.map itD := by
  rw [List.map_map]
  rfl
theorem e_steps {b : List Kd} {f : Int × Int × Int} {s : St} (hb : BskOk b) (h1 : 1 ≤ f.2.2) (h3 : f.2.2 ≤ 3) (hs : StOk b f.2.2 s) : m_steps_of [bskD b, frD f, stD s] = some (.tuple (sortD ((minF (csP b f s)).map itD)), [.none, .none, .none]) := by
  have hch := e_choices hb h1 h3 hs
  rw [choF_eq] at hch
  have hlen := choP_len (b := b) h1 h3 hs
  let D (kvs : Kv) (s4 s5 s6 : Sl) : DS := [.dat (bskD b), .dat (frD f), .dat (stD s), .own (dicD kvs), s4, s5, s6]
  obtain ⟨δ', e, kvs, s4, s5, s6, rfl, f4, f5, f6, hk, _⟩ := loop_all (enc := chD b s.2) (g := gT [gN 4, gN 5, gN 6]) (b := sPutX 3 (eVar 6) (eB fMin2 (aCons (eB fLen (aCons (eVar 5) aNil)) (aCons (eGetX (eVar 3) (eVar 6) (eB fLen (aCons (eVar 5) aNil))) aNil)))) (choP b f s)
    (fun r δ => ∃ (kvs : Kv) (s4 s5 s6 : Sl), δ = D kvs s4 s5 s6 ∧ isFr s4 = true ∧ isFr s5 = true ∧ isFr s6 = true ∧ (r.map (toC b s.2)).foldl addMin kvs = minF (csP b f s) ∧ kvs.length + r.length ≤ 2048)
    (D [] .no .no .no)
    (by
      rintro ⟨kept, l⟩ r δ ⟨kvs, s4, s5, s6, rfl, f4, f5, f6, hk, hn⟩
      rw [List.map_cons, List.foldl_cons] at hk
      rw [List.length_cons] at hn
      have hz : kvs.length < 16777216 := by omega
      refine ⟨_, ?_, addMin kvs (toC b s.2 (kept, l)), .dat (agD kept), .dat (kdsD (expF 0 l)), .dat (stD (comeOf b s.2 kept l)), rfl, rfl, rfl, rfl, hk, by have := addMin_len kvs (toC b s.2 (kept, l)); omega⟩
      have hg := get_st kvs (comeOf b s.2 kept l) ((l.sum : Nat) : Int)
      have hp := put_st kvs (comeOf b s.2 kept l) (minI ((l.sum : Nat) : Int) (getS kvs (comeOf b s.2 kept l) ((l.sum : Nat) : Int)))
      have hky := key_st (comeOf b s.2 kept l)
      have hle : (expF 0 l).length = l.sum := expF_len _ _
      unfold minI at hp
      simp only [D, dicD, mkX, chD, addMin, toC, minI]
      simp [sSeq, sAsg, sOwn, sIf, sRet, sRetO, sRetV, sRetN, sDrop, sNext, sCont, sBreak, sAug, sFor, sSetL, eVar, eC, e1, e2, eB, eTup, eO, oB, o2, oLst, oCall, oDict0X, oLc, oLc2, aNil, aCons, tV, tAnd', tOr', tNot', tT', tYesF, truth', truth, eIf, eAnd, eOr, eNot, eCh, eMt, eMt0, eCall, eIsi, isaD, typeD, isDct, eCntT, eGetX, sPutX, frzV, frzs, val, vals, slD, slDat, cont, setC, isListD, free_eq, isFr_no, isFr_dat, isFr_own, isFr_bor, gN, gT, partsD, iL, iT, iR1, iR2, iEnL, iEnT, iZLL, iZTT, iZTL, iKeysX, iValsX, iItemsX, fI0, fI, fPlus, fCatT, fAddS, fCatL, fRepT, fRepL, fIx, fLen, fAbs, fInt, fTup, fList, fAppend, fExtend, fPop, fPopAt, fMin2, fMax2, fNeg, fIsN, fNotN, isNone, fSum, fSumT, fInX, fIxX, fLenX, r1F, r2F, rgOk, compStep, wipeD, putB, keepD, startS, outsD, outD, mBody, mBodyO, sPar, yNil, yCons, xE, xO, setH, setHs, rdOk, List.set, bind_ite, atI_0, atI_1, atI_2, ixN_0, ixN_1, List.getElem?_cons_zero, eCallB, okL_1, okL_2, okL_3, okL_4, lentS, pinv, frzB, lendB, lent1, List.idxOf?, List.findIdx?, List.findIdx?.go, putS, putS1, oD1X, fEqXE, f4, f5, f6, dX, hky, hg, mkX, kdsD, hle, sizeLine_eq, hz]
      exact hp)
    ⟨[], .no, .no, .no, rfl, rfl, rfl, rfl, rfl, by simpa using hlen⟩
  refine mB_rt (δ := D kvs s4 s5 s6) rfl ?_ rfl
  have hkm : kvs = minF (csP b f s) := hk
  have hkl : (minF (csP b f s)).length ≤ sizeLine := by
    have := fold_len (csP b f s) []
    unfold csP at this
    rw [List.length_map] at this
    rw [sizeLine_eq]
    unfold minF csP
    simp only [List.length_nil] at this
    omega
  have hok := ok_its (kvs := minF (csP b f s)) (fun p hp => csP_pat p ((minF_of _).sub p hp)) hkl
  refine seq_to (δ' := D [] .no .no .no) (by simp [sSeq, sAsg, sOwn, sIf, sRet, sRetO, sRetV, sRetN, sDrop, sNext, sCont, sBreak, sAug, sFor, sSetL, eVar, eC, e1, e2, eB, eTup, eO, oB, o2, oLst, oCall, oDict0X, oLc, oLc2, aNil, aCons, tV, tAnd', tOr', tNot', tT', tYesF, truth', truth, eIf, eAnd, eOr, eNot, eCh, eMt, eMt0, eCall, eIsi, isaD, typeD, isDct, eCntT, eGetX, sPutX, frzV, frzs, val, vals, slD, slDat, cont, setC, isListD, free_eq, isFr_no, isFr_dat, isFr_own, isFr_bor, gN, gT, partsD, iL, iT, iR1, iR2, iEnL, iEnT, iZLL, iZTT, iZTL, iKeysX, iValsX, iItemsX, fI0, fI, fPlus, fCatT, fAddS, fCatL, fRepT, fRepL, fIx, fLen, fAbs, fInt, fTup, fList, fAppend, fExtend, fPop, fPopAt, fMin2, fMax2, fNeg, fIsN, fNotN, isNone, fSum, fSumT, fInX, fIxX, fLenX, r1F, r2F, rgOk, compStep, wipeD, putB, keepD, startS, outsD, outD, mBody, mBodyO, sPar, yNil, yCons, xE, xO, setH, setHs, rdOk, List.set, bind_ite, atI_0, atI_1, atI_2, ixN_0, ixN_1, List.getElem?_cons_zero, eCallB, okL_1, okL_2, okL_3, okL_4, lentS, pinv, frzB, lendB, lent1, List.idxOf?, List.findIdx?, List.findIdx?.go, putS, putS1, oD1X, fEqXE, D, dicD]) ?_
  refine seq_to (δ' := D kvs s4 s5 s6) ?_ ?_
  · have ei : iL (eCall m_choices_of (aCons (eVar 0) (aCons (eVar 1) (aCons (eVar 2) aNil)))) (D [] .no .no .no) = some ((choP b f s).map (chD b s.2), D [] .no .no .no) := by simp [sSeq, sAsg, sOwn, sIf, sRet, sRetO, sRetV, sRetN, sDrop, sNext, sCont, sBreak, sAug, sFor, sSetL, eVar, eC, e1, e2, eB, eTup, eO, oB, o2, oLst, oCall, oDict0X, oLc, oLc2, aNil, aCons, tV, tAnd', tOr', tNot', tT', tYesF, truth', truth, eIf, eAnd, eOr, eNot, eCh, eMt, eMt0, eCall, eIsi, isaD, typeD, isDct, eCntT, eGetX, sPutX, frzV, frzs, val, vals, slD, slDat, cont, setC, isListD, free_eq, isFr_no, isFr_dat, isFr_own, isFr_bor, gN, gT, partsD, iL, iT, iR1, iR2, iEnL, iEnT, iZLL, iZTT, iZTL, iKeysX, iValsX, iItemsX, fI0, fI, fPlus, fCatT, fAddS, fCatL, fRepT, fRepL, fIx, fLen, fAbs, fInt, fTup, fList, fAppend, fExtend, fPop, fPopAt, fMin2, fMax2, fNeg, fIsN, fNotN, isNone, fSum, fSumT, fInX, fIxX, fLenX, r1F, r2F, rgOk, compStep, wipeD, putB, keepD, startS, outsD, outD, mBody, mBodyO, sPar, yNil, yCons, xE, xO, setH, setHs, rdOk, List.set, bind_ite, atI_0, atI_1, atI_2, ixN_0, ixN_1, List.getElem?_cons_zero, eCallB, okL_1, okL_2, okL_3, okL_4, lentS, pinv, frzB, lendB, lent1, List.idxOf?, List.findIdx?, List.findIdx?.go, putS, putS1, oD1X, fEqXE, D, hch]
    show sFor _ _ _ _ = _
    unfold sFor
    rw [ei]
    exact e
  · subst hkm
    simp only [D, dicD]
    simp [sSeq, sAsg, sOwn, sIf, sRet, sRetO, sRetV, sRetN, sDrop, sNext, sCont, sBreak, sAug, sFor, sSetL, eVar, eC, e1, e2, eB, eTup, eO, oB, o2, oLst, oCall, oDict0X, oLc, oLc2, aNil, aCons, tV, tAnd', tOr', tNot', tT', tYesF, truth', truth, eIf, eAnd, eOr, eNot, eCh, eMt, eMt0, eCall, eIsi, isaD, typeD, isDct, eCntT, eGetX, sPutX, frzV, frzs, val, vals, slD, slDat, cont, setC, isListD, free_eq, isFr_no, isFr_dat, isFr_own, isFr_bor, gN, gT, partsD, iL, iT, iR1, iR2, iEnL, iEnT, iZLL, iZTT, iZTL, iKeysX, iValsX, iItemsX, fI0, fI, fPlus, fCatT, fAddS, fCatL, fRepT, fRepL, fIx, fLen, fAbs, fInt, fTup, fList, fAppend, fExtend, fPop, fPopAt, fMin2, fMax2, fNeg, fIsN, fNotN, isNone, fSum, fSumT, fInX, fIxX, fLenX, r1F, r2F, rgOk, compStep, wipeD, putB, keepD, startS, outsD, outD, mBody, mBodyO, sPar, yNil, yCons, xE, xO, setH, setHs, rdOk, List.set, bind_ite, atI_0, atI_1, atI_2, ixN_0, ixN_1, List.getElem?_cons_zero, eCallB, okL_1, okL_2, okL_3, okL_4, lentS, pinv, frzB, lendB, lent1, List.idxOf?, List.findIdx?, List.findIdx?.go, putS, putS1, oD1X, fEqXE, oSortIX, dX, mkX]
    exact ⟨hok, rfl⟩
/-! ### what is kept, by masks -/
def mkA : Ag → Nat → Ag
  | [], _ => []
  | p :: r, m => if m % 2 = 1 then p :: mkA r (m / 2) else mkA r (m / 2)
theorem mkA_filter (m : Nat) : ∀ (a : Ag) (k : Nat), ((a.zipIdx k).filter fun p => decide (m / 2 ^ p.2 % 2 = 1)).map (·.1) = mkA a (m / 2 ^ k)
  | [], k => rfl
  | p :: r, k => by
    rw [List.zipIdx_cons, List.filter_cons, mkA]
    have ih := mkA_filter m r (k + 1)
    have e : m / 2 ^ k / 2 = m / 2 ^ (k + 1) := by rw [Nat.div_div_eq_div_mul, Nat.pow_succ]
    rw [e]
    by_cases c : m / 2 ^ k % 2 = 1
    · rw [if_pos c, if_pos (decide_eq_true c), List.map_cons, ih]
    · rw [if_neg c, if_neg (by rw [decide_eq_false c]; decide), ih]
theorem mkA_sub : ∀ (a : Ag) (m : Nat), (mkA a m).Sublist a
  | [], m => List.Sublist.slnil
  | p :: r, m => by
    rw [mkA]
    split
    · exact (mkA_sub r _).cons₂ p
    · exact (mkA_sub r _).cons p
theorem sub_mkA {t a : Ag} (h : t.Sublist a) : ∃ m, m < 2 ^ a.length ∧ mkA a m = t := by
  induction h with
  | slnil => exact ⟨0, by decide, rfl⟩
  | @cons t r p _ ih =>
    obtain ⟨m, h1, h2⟩ := ih
    refine ⟨2 * m, by rw [List.length_cons, Nat.pow_succ]; omega, ?_⟩
    rw [mkA, if_neg (by omega), show 2 * m / 2 = m by omega, h2]
  | @cons_cons t r p _ ih =>
    obtain ⟨m, h1, h2⟩ := ih
    refine ⟨2 * m + 1, by rw [List.length_cons, Nat.pow_succ]; omega, ?_⟩
    rw [mkA, if_pos (by omega), show (2 * m + 1) / 2 = m by omega, h2]
theorem subs_iff (h : Int) : ∀ (a : Ag) (ch : List Ag), (∀ u ∈ ch, ((u.length + a.length : Nat) : Int) ≤ h) → ∀ t, t ∈ a.foldl (subStep h) ch ↔ ∃ u ∈ ch, ∃ v, v.Sublist a ∧ t = u ++ v
  | [], ch, _, t => by
    constructor
    · intro ht
      exact ⟨t, ht, [], List.Sublist.slnil, by simp⟩
    · rintro ⟨u, hu, v, hv, rfl⟩
      rw [List.sublist_nil.mp hv, List.append_nil]
      exact hu
  | q :: r, ch, hc, t => by
    have hstep : ∀ u, u ∈ subStep h ch q ↔ u ∈ ch ∨ ∃ w ∈ ch, u = w ++ [q] := by
      intro u
      unfold subStep
      rw [List.mem_append, List.mem_map]
      constructor
      · rintro (h1 | ⟨w, h1, rfl⟩)
        · exact .inl h1
        · exact .inr ⟨w, (List.mem_filter.mp h1).1, rfl⟩
      · rintro (h1 | ⟨w, h1, rfl⟩)
        · exact .inl h1
        · refine .inr ⟨w, List.mem_filter.mpr ⟨h1, decide_eq_true ?_⟩, rfl⟩
          have := hc w h1
          rw [List.length_cons] at this
          omega
    rw [List.foldl_cons, subs_iff h r _ (fun u hu => by
      rcases (hstep u).mp hu with h1 | ⟨w, h1, rfl⟩
      · have := hc u h1
        rw [List.length_cons] at this
        omega
      · have := hc w h1
        rw [List.length_cons] at this
        rw [List.length_append, List.length_singleton]
        omega)]
    constructor
    · rintro ⟨u, hu, v, hv, rfl⟩
      rcases (hstep u).mp hu with h1 | ⟨w, h1, rfl⟩
      · exact ⟨u, h1, v, hv.cons q, rfl⟩
      · exact ⟨w, h1, q :: v, hv.cons₂ q, by simp⟩
    · rintro ⟨u, hu, v, hv, rfl⟩
      rcases List.sublist_cons_iff.mp hv with h1 | ⟨v', rfl, h1⟩
      · exact ⟨u, (hstep u).mpr (.inl hu), v, h1, rfl⟩
      · exact ⟨u ++ [q], (hstep _).mpr (.inr ⟨u, hu, rfl⟩), v', h1, by simp⟩
theorem subsF_iff {a : Ag} {h : Int} (hl : (a.length : Int) ≤ h) (t : Ag) : t ∈ subsF a h ↔ ∃ m, m < 2 ^ a.length ∧ mkA a m = t := by
  have hx : t ∈ subsF a h ↔ ∃ u ∈ [[]], ∃ v, v.Sublist a ∧ t = u ++ v := subs_iff h a [[]] (fun u hu => by cases List.mem_singleton.mp hu; simpa using hl) t
  rw [hx]
  constructor
  · rintro ⟨u, hu, v, hv, rfl⟩
    cases List.mem_singleton.mp hu
    exact sub_mkA hv
  · rintro ⟨m, _, rfl⟩
    exact ⟨[], List.mem_singleton.mpr rfl, _, mkA_sub a m, by simp⟩
theorem bit_one {n : Nat} (h : n < 8) : Builtin.bitAnd (n : Int) 1 = ((n % 2 : Nat) : Int) := by
  have : ∀ n : Fin 8, Builtin.bitAnd ((n : Nat) : Int) 1 = (((n : Nat) % 2 : Nat) : Int) := by decide
  exact this ⟨n, h⟩
/-- what is kept, as the law finds it -/
theorem e_kept2 {s0 s1 s3 s5 s6 s7 s8 s9 s10 s11 s12 s15 : Sl} {s : St} {m : Nat} (hl : s.1.length ≤ 3) (hm : m < 2 ^ s.1.length) (f5 : isFr s5 = true) :
    (sOwn 5 (oLc (iEnT (e2 fIx (eVar 2) (eC (.int 0)))) [13, 14] (gT [(gN 13), (gN 14)]) (tV (e2 fEq (e2 fAnd (e2 fShr (eVar 4) (eVar 13)) (eC (.int 1))) (eC (.int 1)))) (eVar 14)))
      [s0, s1, .dat (stD s), s3, .dat (.int (m : Nat)), s5, s6, s7, s8, s9, s10, s11, s12, .no, .no, s15]
      = some (.nx [s0, s1, .dat (stD s), s3, .dat (.int (m : Nat)), .own (.list ((mkA s.1 m).map stepD)), s6, s7, s8, s9, s10, s11, s12, .no, .no, s15]) := by
  have hzip : enumF (s.1.map stepD) = s.1.zipIdx.map fun p => pairD (.int (p.2 : Nat)) (stepD p.1) := by
    unfold enumF
    rw [List.zipIdx_map, List.map_map]
    rfl
  have hm8 : m < 8 := Nat.lt_of_lt_of_le hm (Nat.pow_le_pow_right (n := 2) (by decide) hl)
  have h := lc_fm (enc := fun p : (Int × Int) × Nat => pairD (.int (p.2 : Nat)) (stepD p.1)) (it := iEnT (e2 fIx (eVar 2) (eC (.int 0)))) (vs := [13, 14]) (g := gT [gN 13, gN 14]) (t := (tV (e2 fEq (e2 fAnd (e2 fShr (eVar 4) (eVar 13)) (eC (.int 1))) (eC (.int 1))))) (e := eVar 14)
    (δ := [s0, s1, .dat (stD s), s3, .dat (.int (m : Nat)), s5, s6, s7, s8, s9, s10, s11, s12, .no, .no, s15]) (δ' := [s0, s1, .dat (stD s), s3, .dat (.int (m : Nat)), s5, s6, s7, s8, s9, s10, s11, s12, .no, .no, s15])
    (fun p => if m / 2 ^ p.2 % 2 = 1 then some (stepD p.1) else none) s.1.zipIdx (by rw [← hzip]; simp [sSeq, sAsg, sOwn, sIf, sRet, sRetO, sRetV, sRetN, sDrop, sNext, sCont, sBreak, sAug, sFor, sSetL, eVar, eC, e1, e2, eB, eTup, eO, oB, o2, oLst, oCall, oDict0X, oLc, oLc2, aNil, aCons, tV, tAnd', tOr', tNot', tT', tYesF, truth', truth, eIf, eAnd, eOr, eNot, eCh, eMt, eMt0, eCall, eIsi, isaD, typeD, isDct, eCntT, eGetX, sPutX, frzV, frzs, val, vals, slD, slDat, cont, setC, isListD, free_eq, isFr_no, isFr_dat, isFr_own, isFr_bor, gN, gT, partsD, iL, iT, iR1, iR2, iEnL, iEnT, iZLL, iZTT, iZTL, iKeysX, iValsX, iItemsX, fI0, fI, fPlus, fCatT, fAddS, fCatL, fRepT, fRepL, fIx, fLen, fAbs, fInt, fTup, fList, fAppend, fExtend, fPop, fPopAt, fMin2, fMax2, fNeg, fIsN, fNotN, isNone, fSum, fSumT, fInX, fIxX, fLenX, r1F, r2F, rgOk, compStep, wipeD, putB, keepD, startS, outsD, outD, mBody, mBodyO, sPar, yNil, yCons, xE, xO, setH, setHs, rdOk, List.set, bind_ite, atI_0, atI_1, atI_2, ixN_0, ixN_1, List.getElem?_cons_zero, eCallB, okL_1, okL_2, okL_3, okL_4, lentS, pinv, frzB, lendB, lent1, List.idxOf?, List.findIdx?, List.findIdx?.go, putS, putS1, oD1X, fEqXE, stD, agD]) (fun p hp => by
      obtain ⟨q, i⟩ := p
      have hd : (m : Int) / 2 ^ i = ((m / 2 ^ i : Nat) : Int) := by simp
      have h8 : m / 2 ^ i < 8 := Nat.lt_of_le_of_lt (Nat.div_le_self _ _) hm8
      have hb := bit_one h8
      rw [← hd] at hb
      by_cases c : m / 2 ^ i % 2 = 1
      · rw [c] at hb
        have he : fEq (.int 1) (.int 1) = some (.bool true) := rfl
        simp [sSeq, sAsg, sOwn, sIf, sRet, sRetO, sRetV, sRetN, sDrop, sNext, sCont, sBreak, sAug, sFor, sSetL, eVar, eC, e1, e2, eB, eTup, eO, oB, o2, oLst, oCall, oDict0X, oLc, oLc2, aNil, aCons, tV, tAnd', tOr', tNot', tT', tYesF, truth', truth, eIf, eAnd, eOr, eNot, eCh, eMt, eMt0, eCall, eIsi, isaD, typeD, isDct, eCntT, eGetX, sPutX, frzV, frzs, val, vals, slD, slDat, cont, setC, isListD, free_eq, isFr_no, isFr_dat, isFr_own, isFr_bor, gN, gT, partsD, iL, iT, iR1, iR2, iEnL, iEnT, iZLL, iZTT, iZTL, iKeysX, iValsX, iItemsX, fI0, fI, fPlus, fCatT, fAddS, fCatL, fRepT, fRepL, fIx, fLen, fAbs, fInt, fTup, fList, fAppend, fExtend, fPop, fPopAt, fMin2, fMax2, fNeg, fIsN, fNotN, isNone, fSum, fSumT, fInX, fIxX, fLenX, r1F, r2F, rgOk, compStep, wipeD, putB, keepD, startS, outsD, outD, mBody, mBodyO, sPar, yNil, yCons, xE, xO, setH, setHs, rdOk, List.set, bind_ite, atI_0, atI_1, atI_2, ixN_0, ixN_1, List.getElem?_cons_zero, eCallB, okL_1, okL_2, okL_3, okL_4, lentS, pinv, frzB, lendB, lent1, List.idxOf?, List.findIdx?, List.findIdx?.go, putS, putS1, oD1X, fEqXE, hb, he, c]
      · have c0 : m / 2 ^ i % 2 = 0 := by omega
        rw [c0] at hb
        have he : fEq (.int 0) (.int 1) = some (.bool false) := rfl
        simp [sSeq, sAsg, sOwn, sIf, sRet, sRetO, sRetV, sRetN, sDrop, sNext, sCont, sBreak, sAug, sFor, sSetL, eVar, eC, e1, e2, eB, eTup, eO, oB, o2, oLst, oCall, oDict0X, oLc, oLc2, aNil, aCons, tV, tAnd', tOr', tNot', tT', tYesF, truth', truth, eIf, eAnd, eOr, eNot, eCh, eMt, eMt0, eCall, eIsi, isaD, typeD, isDct, eCntT, eGetX, sPutX, frzV, frzs, val, vals, slD, slDat, cont, setC, isListD, free_eq, isFr_no, isFr_dat, isFr_own, isFr_bor, gN, gT, partsD, iL, iT, iR1, iR2, iEnL, iEnT, iZLL, iZTT, iZTL, iKeysX, iValsX, iItemsX, fI0, fI, fPlus, fCatT, fAddS, fCatL, fRepT, fRepL, fIx, fLen, fAbs, fInt, fTup, fList, fAppend, fExtend, fPop, fPopAt, fMin2, fMax2, fNeg, fIsN, fNotN, isNone, fSum, fSumT, fInX, fIxX, fLenX, r1F, r2F, rgOk, compStep, wipeD, putB, keepD, startS, outsD, outD, mBody, mBodyO, sPar, yNil, yCons, xE, xO, setH, setHs, rdOk, List.set, bind_ite, atI_0, atI_1, atI_2, ixN_0, ixN_1, List.getElem?_cons_zero, eCallB, okL_1, okL_2, okL_3, okL_4, lentS, pinv, frzB, lendB, lent1, List.idxOf?, List.findIdx?, List.findIdx?.go, putS, putS1, oD1X, fEqXE, hb, he, c]) (by rw [List.length_zipIdx, sizeLine_eq]; omega)
  have hf : s.1.zipIdx.filterMap (fun p => if m / 2 ^ p.2 % 2 = 1 then some (stepD p.1) else none) = (mkA s.1 m).map stepD := by
    have := mkA_filter m s.1 0
    rw [Nat.pow_zero, Nat.div_one] at this
    rw [← this, List.map_map]
    generalize s.1.zipIdx = z
    induction z with
    | nil => rfl
    | cons p r ih =>
      rw [List.filterMap_cons, List.filter_cons, ih]
      by_cases c : m / 2 ^ p.2 % 2 = 1
      · rw [if_pos c, if_pos (decide_eq_true c)]
        rfl
      · rw [if_neg c, if_neg (by rw [decide_eq_false c]; decide)]
  rw [hf] at h
  simp [sSeq, sAsg, sOwn, sIf, sRet, sRetO, sRetV, sRetN, sDrop, sNext, sCont, sBreak, sAug, sSetL, eVar, eC, e1, e2, eB, eTup, eO, oB, o2, oLst, oCall, oDict0X, aNil, aCons, tV, tAnd', tOr', tNot', tT', tYesF, truth', truth, eIf, eAnd, eOr, eNot, eCh, eMt, eMt0, eIsi, isaD, typeD, isDct, eCntT, eGetX, sPutX, frzV, frzs, val, vals, slD, slDat, cont, setC, isListD, free_eq, isFr_no, isFr_dat, isFr_own, isFr_bor, gN, gT, partsD, iL, iT, iR1, iR2, iEnL, iEnT, iZLL, iZTT, iZTL, iKeysX, iValsX, iItemsX, fI0, fI, fPlus, fCatT, fAddS, fCatL, fRepT, fRepL, fIx, fLen, fAbs, fInt, fTup, fList, fAppend, fExtend, fPop, fPopAt, fMin2, fMax2, fNeg, fIsN, fNotN, isNone, fSum, fSumT, fInX, fIxX, fLenX, r1F, r2F, rgOk, wipeD, putB, keepD, startS, outsD, outD, mBody, mBodyO, sPar, yNil, yCons, xE, xO, setH, setHs, rdOk, List.set, bind_ite, atI_0, atI_1, atI_2, ixN_0, ixN_1, List.getElem?_cons_zero, okL_1, okL_2, okL_3, okL_4, lentS, pinv, frzB, lendB, lent1, List.idxOf?, List.findIdx?, List.findIdx?.go, putS, putS1, oD1X, fEqXE, h, f5]
/-! ### the law's run -/
def expP (r : List (Nat × Nat)) : Ag := r.flatMap fun p => List.replicate p.1 (((p.2 : Nat) : Int), (0 : Int))
theorem expP_eq : ∀ (l : Lot) (k : Nat), expP (l.zipIdx k) = (expF (k : Int) l).map fun x => (x, 0)
  | [], _ => rfl
  | c :: r, k => by
    have ih := expP_eq r (k + 1)
    unfold expP at ih ⊢
    rw [List.zipIdx_cons, List.flatMap_cons, ih, expF, List.map_append, List.map_replicate]
    rfl
theorem rep_L {x : DT} {c : Nat} (h : c ≤ 1000) : fRepL (.list [x]) (.int (c : Nat)) = some (.list (List.replicate c x)) := by
  have e0 : ∀ n : Int, fRepL (.list [x]) (.int n) = if 0 ≤ n ∧ n < 2 ^ 62 ∧ [x].length * n.toNat ≤ sizeLine then some (.list (List.replicate n.toNat [x]).flatten) else none := fun _ => rfl
  have h62 : (c : Int) < 2 ^ 62 := Int.lt_of_lt_of_le (b := 1001) (by omega) (by decide)
  rw [e0, if_pos ⟨by omega, h62, by rw [List.length_singleton, Int.toNat_natCast, sizeLine_eq]; omega⟩, Int.toNat_natCast, rep_1]
theorem run_put {s0 s1 s2 s3 s4 s5 s6 s10 s11 s12 s13 s14 s15 : Sl} {m : List DT} {c i : Nat} (h : m.length + c ≤ 1000) :
    sDrop (eMt isListD 7 fExtend (aCons (eO (o2 fRepL (eO (oLst (aCons (eTup (aCons (eVar 8) (aCons (eC (.int 0)) aNil))) aNil))) (eVar 9))) aNil)) [s0, s1, s2, s3, s4, s5, s6, .own (.list m), .dat (.int (i : Nat)), .dat (.int (c : Nat)), s10, s11, s12, s13, s14, s15]
      = some (.nx [s0, s1, s2, s3, s4, s5, s6, .own (.list (m ++ List.replicate c (stepD ((i : Nat), 0)))), .dat (.int (i : Nat)), .dat (.int (c : Nat)), s10, s11, s12, s13, s14, s15]) := by
  have gen : ∀ ee : EF, ee [s0, s1, s2, s3, s4, s5, s6, .own (.list m), .dat (.int (i : Nat)), .dat (.int (c : Nat)), s10, s11, s12, s13, s14, s15] = some (.d (.list (List.replicate c (stepD ((i : Nat), 0)))), [s0, s1, s2, s3, s4, s5, s6, .own (.list m), .dat (.int (i : Nat)), .dat (.int (c : Nat)), s10, s11, s12, s13, s14, s15]) → sDrop (eMt isListD 7 fExtend (aCons ee aNil)) [s0, s1, s2, s3, s4, s5, s6, .own (.list m), .dat (.int (i : Nat)), .dat (.int (c : Nat)), s10, s11, s12, s13, s14, s15] = some (.nx [s0, s1, s2, s3, s4, s5, s6, .own (.list (m ++ List.replicate c (stepD ((i : Nat), 0)))), .dat (.int (i : Nat)), .dat (.int (c : Nat)), s10, s11, s12, s13, s14, s15]) := fun ee h => by
    have c3 : m.length + c ≤ 16777216 := by omega
    simp [sSeq, sAsg, sOwn, sIf, sRet, sRetO, sRetV, sRetN, sDrop, sNext, sCont, sBreak, sAug, sSetL, eVar, eC, e1, e2, eB, eTup, eO, oB, o2, oLst, oCall, oDict0X, aNil, aCons, tV, tAnd', tOr', tNot', tT', tYesF, truth', truth, eIf, eAnd, eOr, eNot, eCh, eMt, eMt0, eIsi, isaD, typeD, isDct, eCntT, eGetX, sPutX, frzV, frzs, val, vals, slD, slDat, cont, setC, isListD, free_eq, isFr_no, isFr_dat, isFr_own, isFr_bor, gN, gT, partsD, iL, iT, iR1, iR2, iEnL, iEnT, iZLL, iZTT, iZTL, iKeysX, iValsX, iItemsX, fI0, fI, fIx, fLen, fAbs, fInt, fTup, fList, fAppend, fExtend, fPop, fPopAt, fMin2, fMax2, fNeg, fIsN, fNotN, isNone, fSum, fSumT, fInX, fIxX, fLenX, r1F, r2F, rgOk, wipeD, putB, keepD, startS, outsD, outD, mBody, mBodyO, sPar, yNil, yCons, xE, xO, setH, setHs, rdOk, List.set, bind_ite, atI_0, atI_1, atI_2, ixN_0, ixN_1, List.getElem?_cons_zero, okL_1, okL_2, okL_3, okL_4, lentS, pinv, frzB, lendB, lent1, List.idxOf?, List.findIdx?, List.findIdx?.go, putS, putS1, oD1X, fEqXE, h, sizeLine_eq, c3]
  have gen2 : ∀ f : DT → DT → Option DT, f (.list [stepD ((i : Nat), 0)]) (.int (c : Nat)) = some (.list (List.replicate c (stepD ((i : Nat), 0)))) → (eO (o2 f (eO (oLst (aCons (eTup (aCons (eVar 8) (aCons (eC (.int 0)) aNil))) aNil))) (eVar 9))) [s0, s1, s2, s3, s4, s5, s6, .own (.list m), .dat (.int (i : Nat)), .dat (.int (c : Nat)), s10, s11, s12, s13, s14, s15] = some (.d (.list (List.replicate c (stepD ((i : Nat), 0)))), [s0, s1, s2, s3, s4, s5, s6, .own (.list m), .dat (.int (i : Nat)), .dat (.int (c : Nat)), s10, s11, s12, s13, s14, s15]) := fun f h => by
    simp only [stepD] at h ⊢
    simp [sSeq, sAsg, sOwn, sIf, sRet, sRetO, sRetV, sRetN, sDrop, sNext, sCont, sBreak, sAug, sSetL, eVar, eC, e1, e2, eB, eTup, eO, oB, o2, oLst, oCall, oDict0X, aNil, aCons, tV, tAnd', tOr', tNot', tT', tYesF, truth', truth, eIf, eAnd, eOr, eNot, eCh, eMt, eMt0, eIsi, isaD, typeD, isDct, eCntT, eGetX, sPutX, frzV, frzs, val, vals, slD, slDat, cont, setC, isListD, free_eq, isFr_no, isFr_dat, isFr_own, isFr_bor, gN, gT, partsD, iL, iT, iR1, iR2, iEnL, iEnT, iZLL, iZTT, iZTL, iKeysX, iValsX, iItemsX, fI0, fI, fIx, fLen, fAbs, fInt, fTup, fList, fAppend, fExtend, fPop, fPopAt, fMin2, fMax2, fNeg, fIsN, fNotN, isNone, fSum, fSumT, fInX, fIxX, fLenX, r1F, r2F, rgOk, wipeD, putB, keepD, startS, outsD, outD, mBody, mBodyO, sPar, yNil, yCons, xE, xO, setH, setHs, rdOk, List.set, bind_ite, atI_0, atI_1, atI_2, ixN_0, ixN_1, List.getElem?_cons_zero, okL_1, okL_2, okL_3, okL_4, lentS, pinv, frzB, lendB, lent1, List.idxOf?, List.findIdx?, List.findIdx?.go, putS, putS1, oD1X, fEqXE, h, sizeLine_eq]
  exact gen _ (gen2 _ (rep_L (by omega)))
theorem e_run {s0 s1 s2 s3 s4 s5 s8 s9 s10 s11 s12 s13 s14 s15 : Sl} {kept : Ag} {l : Lot} (hl : (runOf kept l).length ≤ 60) (f8 : isFr s8 = true) (f9 : isFr s9 = true) (k8 : keepD s8 = s8) (k9 : keepD s9 = s9) :
    ∃ s8' s9' : Sl, isFr s8' = true ∧ isFr s9' = true ∧ keepD s8' = s8' ∧ keepD s9' = s9' ∧
    (sFor (iEnT (eVar 6)) (gT [(gN 8), (gN 9)]) (sDrop (eMt isListD 7 fExtend (aCons (eO (o2 fRepL (eO (oLst (aCons (eTup (aCons (eVar 8) (aCons (eC (.int 0)) aNil))) aNil))) (eVar 9))) aNil))))
      [s0, s1, s2, s3, s4, s5, .dat (lotD l), .own (.list (kept.map stepD)), s8, s9, s10, s11, s12, s13, s14, s15]
      = some (.nx [s0, s1, s2, s3, s4, s5, .dat (lotD l), .own (.list ((runOf kept l).map stepD)), s8', s9', s10, s11, s12, s13, s14, s15]) := by
  have hzip : enumF (l.map fun (c : Nat) => PyData.int (c : Int)) = l.zipIdx.map fun p => pairD (.int (p.2 : Nat)) (.int (p.1 : Nat)) := by
    unfold enumF
    rw [List.zipIdx_map, List.map_map]
    rfl
  have htot : kept ++ expP l.zipIdx = runOf kept l := by
    rw [expP_eq l 0]
    rfl
  obtain ⟨δ', e, run, s8', s9', rfl, g8, g9, h8, h9, hrun⟩ := loop_all (enc := fun p : Nat × Nat => pairD (.int (p.2 : Nat)) (.int (p.1 : Nat))) (g := gT [gN 8, gN 9]) (b := sDrop (eMt isListD 7 fExtend (aCons (eO (o2 fRepL (eO (oLst (aCons (eTup (aCons (eVar 8) (aCons (eC (.int 0)) aNil))) aNil))) (eVar 9))) aNil))) l.zipIdx
    (fun r δ => ∃ (run : Ag) (s8' s9' : Sl), δ = [s0, s1, s2, s3, s4, s5, .dat (lotD l), .own (.list (run.map stepD)), s8', s9', s10, s11, s12, s13, s14, s15] ∧ isFr s8' = true ∧ isFr s9' = true ∧ keepD s8' = s8' ∧ keepD s9' = s9' ∧ run ++ expP r = runOf kept l)
    [s0, s1, s2, s3, s4, s5, .dat (lotD l), .own (.list (kept.map stepD)), s8, s9, s10, s11, s12, s13, s14, s15]
    (by
      rintro ⟨c, i⟩ r δ ⟨run, s8', s9', rfl, g8, g9, h8, h9, hrun⟩
      have he : expP ((c, i) :: r) = List.replicate c (((i : Nat) : Int), (0 : Int)) ++ expP r := rfl
      rw [he, ← List.append_assoc] at hrun
      have hn := congrArg List.length hrun
      rw [List.length_append, List.length_append, List.length_replicate] at hn
      refine ⟨_, ?_, run ++ List.replicate c (((i : Nat) : Int), (0 : Int)), .dat (.int (i : Nat)), .dat (.int (c : Nat)), rfl, rfl, rfl, rfl, rfl, hrun⟩
      have e1 : gT [gN 8, gN 9] (pairD (.int (i : Nat)) (.int (c : Nat))) [s0, s1, s2, s3, s4, s5, .dat (lotD l), .own (.list (run.map stepD)), s8', s9', s10, s11, s12, s13, s14, s15] = some [s0, s1, s2, s3, s4, s5, .dat (lotD l), .own (.list (run.map stepD)), .dat (.int (i : Nat)), .dat (.int (c : Nat)), s10, s11, s12, s13, s14, s15] := by
        simp [sSeq, sAsg, sOwn, sIf, sRet, sRetO, sRetV, sRetN, sDrop, sNext, sCont, sBreak, sAug, sSetL, eVar, eC, e1, e2, eB, eTup, eO, oB, o2, oLst, oCall, oDict0X, aNil, aCons, tV, tAnd', tOr', tNot', tT', tYesF, truth', truth, eIf, eAnd, eOr, eNot, eCh, eMt, eMt0, eIsi, isaD, typeD, isDct, eCntT, eGetX, sPutX, frzV, frzs, val, vals, slD, slDat, cont, setC, isListD, free_eq, isFr_no, isFr_dat, isFr_own, isFr_bor, gN, gT, partsD, iL, iT, iR1, iR2, iEnL, iEnT, iZLL, iZTT, iZTL, iKeysX, iValsX, iItemsX, fI0, fI, fIx, fLen, fAbs, fInt, fTup, fList, fAppend, fExtend, fPop, fPopAt, fMin2, fMax2, fNeg, fIsN, fNotN, isNone, fSum, fSumT, fInX, fIxX, fLenX, r1F, r2F, rgOk, wipeD, putB, keepD, startS, outsD, outD, mBody, mBodyO, sPar, yNil, yCons, xE, xO, setH, setHs, rdOk, List.set, bind_ite, atI_0, atI_1, atI_2, ixN_0, ixN_1, List.getElem?_cons_zero, okL_1, okL_2, okL_3, okL_4, lentS, pinv, frzB, lendB, lent1, List.idxOf?, List.findIdx?, List.findIdx?.go, putS, putS1, oD1X, fEqXE, g8, g9]
      rw [e1, Option.bind_some, run_put (by rw [List.length_map]; omega), List.map_append, List.map_replicate])
    ⟨kept, s8, s9, rfl, f8, f9, k8, k9, htot⟩
  refine ⟨s8', s9', g8, g9, h8, h9, ?_⟩
  have hr : run = runOf kept l := by simpa [expP] using hrun
  rw [hr] at e
  have ei : iEnT (eVar 6) [s0, s1, s2, s3, s4, s5, .dat (lotD l), .own (.list (kept.map stepD)), s8, s9, s10, s11, s12, s13, s14, s15] = some (l.zipIdx.map fun p => pairD (.int (p.2 : Nat)) (.int (p.1 : Nat)), [s0, s1, s2, s3, s4, s5, .dat (lotD l), .own (.list (kept.map stepD)), s8, s9, s10, s11, s12, s13, s14, s15]) := by
    rw [← hzip]
    simp [sSeq, sAsg, sOwn, sIf, sRet, sRetO, sRetV, sRetN, sDrop, sNext, sCont, sBreak, sAug, sFor, sSetL, eVar, eC, e1, e2, eB, eTup, eO, oB, o2, oLst, oCall, oDict0X, oLc, oLc2, aNil, aCons, tV, tAnd', tOr', tNot', tT', tYesF, truth', truth, eIf, eAnd, eOr, eNot, eCh, eMt, eMt0, eCall, eIsi, isaD, typeD, isDct, eCntT, eGetX, sPutX, frzV, frzs, val, vals, slD, slDat, cont, setC, isListD, free_eq, isFr_no, isFr_dat, isFr_own, isFr_bor, gN, gT, partsD, iL, iT, iR1, iR2, iEnL, iEnT, iZLL, iZTT, iZTL, iKeysX, iValsX, iItemsX, fI0, fI, fPlus, fCatT, fAddS, fCatL, fRepT, fRepL, fIx, fLen, fAbs, fInt, fTup, fList, fAppend, fExtend, fPop, fPopAt, fMin2, fMax2, fNeg, fIsN, fNotN, isNone, fSum, fSumT, fInX, fIxX, fLenX, r1F, r2F, rgOk, compStep, wipeD, putB, keepD, startS, outsD, outD, mBody, mBodyO, sPar, yNil, yCons, xE, xO, setH, setHs, rdOk, List.set, bind_ite, atI_0, atI_1, atI_2, ixN_0, ixN_1, List.getElem?_cons_zero, eCallB, okL_1, okL_2, okL_3, okL_4, lentS, pinv, frzB, lendB, lent1, List.idxOf?, List.findIdx?, List.findIdx?.go, putS, putS1, oD1X, fEqXE, lotD]
  unfold sFor
  rw [ei]
  exact e
/-! ### one lot of the law's -/
noncomputable def lawSum : EF := eB fSum (aCons (eO (oLc (iL (eVar 7)) [8, 14] (gT [(gN 8), (gN 14)]) tYesF (eCall m__law_at (aCons (e2 fIx (e2 fIx (eVar 0) (eVar 8)) (eC (.int 0))) (aCons (eVar 14) aNil))))) aNil)
theorem e_sum {s1 s2 s3 s4 s5 s6 s8 s9 s10 s11 s12 s15 : Sl} {b : List Kd} {run : Ag} (hk : KindIn b run) (hl : run.length ≤ 60) (k8 : keepD s8 = s8) :
    lawSum [.dat (bskD b), s1, s2, s3, s4, s5, s6, .own (.list (run.map stepD)), s8, s9, s10, s11, s12, .no, .no, s15]
      = some (.d (.int (thickOf b run)), [.dat (bskD b), s1, s2, s3, s4, s5, s6, .dat (.list (run.map stepD)), s8, s9, s10, s11, s12, .no, .no, s15]) := by
  have h := lc_map (enc := stepD) (it := iL (eVar 7)) (vs := [8, 14]) (g := gT [gN 8, gN 14]) (t := tYesF) (e := eCall m__law_at (aCons (e2 fIx (e2 fIx (eVar 0) (eVar 8)) (eC (.int 0))) (aCons (eVar 14) aNil)))
    (δ := [.dat (bskD b), s1, s2, s3, s4, s5, s6, .own (.list (run.map stepD)), s8, s9, s10, s11, s12, .no, .no, s15]) (δ' := [.dat (bskD b), s1, s2, s3, s4, s5, s6, .dat (.list (run.map stepD)), s8, s9, s10, s11, s12, .no, .no, s15])
    (fun p => .int (stepAt (wspAt b p.1).2 p.2)) run (by simp [sSeq, sAsg, sOwn, sIf, sRet, sRetO, sRetV, sRetN, sDrop, sNext, sCont, sBreak, sAug, sFor, sSetL, eVar, eC, e1, e2, eB, eTup, eO, oB, o2, oLst, oCall, oDict0X, oLc, oLc2, aNil, aCons, tV, tAnd', tOr', tNot', tT', tYesF, truth', truth, eIf, eAnd, eOr, eNot, eCh, eMt, eMt0, eCall, eIsi, isaD, typeD, isDct, eCntT, eGetX, sPutX, frzV, frzs, val, vals, slD, slDat, cont, setC, isListD, free_eq, isFr_no, isFr_dat, isFr_own, isFr_bor, gN, gT, partsD, iL, iT, iR1, iR2, iEnL, iEnT, iZLL, iZTT, iZTL, iKeysX, iValsX, iItemsX, fI0, fI, fPlus, fCatT, fAddS, fCatL, fRepT, fRepL, fIx, fLen, fAbs, fInt, fTup, fList, fAppend, fExtend, fPop, fPopAt, fMin2, fMax2, fNeg, fIsN, fNotN, isNone, fSum, fSumT, fInX, fIxX, fLenX, r1F, r2F, rgOk, compStep, wipeD, putB, keepD, startS, outsD, outD, mBody, mBodyO, sPar, yNil, yCons, xE, xO, setH, setHs, rdOk, List.set, bind_ite, atI_0, atI_1, atI_2, ixN_0, ixN_1, List.getElem?_cons_zero, eCallB, okL_1, okL_2, okL_3, okL_4, lentS, pinv, frzB, lendB, lent1, List.idxOf?, List.findIdx?, List.findIdx?.go, putS, putS1, oD1X, fEqXE]) (fun p hp => by
      obtain ⟨k, ag⟩ := p
      obtain ⟨j, hj, hjl⟩ := hk _ hp
      simp only at hj
      subst hj
      have e1 := e_at b[j].1 ag
      simp [sSeq, sAsg, sOwn, sIf, sRet, sRetO, sRetV, sRetN, sDrop, sNext, sCont, sBreak, sAug, sFor, sSetL, eVar, eC, e1, e2, eB, eTup, eO, oB, o2, oLst, oCall, oDict0X, oLc, oLc2, aNil, aCons, tV, tAnd', tOr', tNot', tT', tYesF, truth', truth, eIf, eAnd, eOr, eNot, eCh, eMt, eMt0, eCall, eIsi, isaD, typeD, isDct, eCntT, eGetX, sPutX, frzV, frzs, val, vals, slD, slDat, cont, setC, isListD, free_eq, isFr_no, isFr_dat, isFr_own, isFr_bor, gN, gT, partsD, iL, iT, iR1, iR2, iEnL, iEnT, iZLL, iZTT, iZTL, iKeysX, iValsX, iItemsX, fI0, fI, fPlus, fCatT, fAddS, fCatL, fRepT, fRepL, fIx, fLen, fAbs, fInt, fTup, fList, fAppend, fExtend, fPop, fPopAt, fMin2, fMax2, fNeg, fIsN, fNotN, isNone, fSum, fSumT, fInX, fIxX, fLenX, r1F, r2F, rgOk, compStep, wipeD, putB, keepD, startS, outsD, outD, mBody, mBodyO, sPar, yNil, yCons, xE, xO, setH, setHs, rdOk, List.set, bind_ite, atI_0, atI_1, atI_2, ixN_0, ixN_1, List.getElem?_cons_zero, eCallB, okL_1, okL_2, okL_3, okL_4, lentS, pinv, frzB, lendB, lent1, List.idxOf?, List.findIdx?, List.findIdx?.go, putS, putS1, oD1X, fEqXE, stepD, bskD, bsk_at hjl, kindD, e1, wsp_at hjl]
      exact k8) (by rw [sizeLine_eq]; omega)
  have hs : intsD (run.map fun p => PyData.int (stepAt (wspAt b p.1).2 p.2)) = some (run.map fun p => stepAt (wspAt b p.1).2 p.2) := ints_map _ _
  unfold lawSum
  simp [sSeq, sAsg, sOwn, sIf, sRet, sRetO, sRetV, sRetN, sDrop, sNext, sCont, sBreak, sAug, sSetL, eVar, eC, e1, e2, eB, eTup, eO, oB, o2, oLst, oCall, oDict0X, aNil, aCons, tV, tAnd', tOr', tNot', tT', tYesF, truth', truth, eIf, eAnd, eOr, eNot, eCh, eMt, eMt0, eIsi, isaD, typeD, isDct, eCntT, eGetX, sPutX, frzV, frzs, val, vals, slD, slDat, cont, setC, isListD, free_eq, isFr_no, isFr_dat, isFr_own, isFr_bor, gN, gT, partsD, iL, iT, iR1, iR2, iEnL, iEnT, iZLL, iZTT, iZTL, iKeysX, iValsX, iItemsX, fI0, fI, fPlus, fCatT, fAddS, fCatL, fRepT, fRepL, fIx, fLen, fAbs, fInt, fTup, fList, fAppend, fExtend, fPop, fPopAt, fMin2, fMax2, fNeg, fIsN, fNotN, isNone, fSum, fSumT, fInX, fIxX, fLenX, r1F, r2F, rgOk, wipeD, putB, keepD, startS, outsD, outD, mBody, mBodyO, sPar, yNil, yCons, xE, xO, setH, setHs, rdOk, List.set, bind_ite, atI_0, atI_1, atI_2, ixN_0, ixN_1, List.getElem?_cons_zero, okL_1, okL_2, okL_3, okL_4, lentS, pinv, frzB, lendB, lent1, List.idxOf?, List.findIdx?, List.findIdx?.go, putS, putS1, oD1X, fEqXE, h, hs, thickOf]
noncomputable def lawOld : SF := sOwn 10 (oB fSortL (aCons (eO (oLc (iL (eVar 7)) [8, 14] (gT [(gN 8), (gN 14)]) (tV (e2 fLt (e2 fPlus (eVar 14) (eC (.int 1))) (eCall m__law_length (aCons (e2 fIx (e2 fIx (eVar 0) (eVar 8)) (eC (.int 0))) aNil)))) (eTup (aCons (eVar 8) (aCons (e2 fPlus (eVar 14) (eC (.int 1))) aNil))))) aNil))
theorem e_old {s1 s2 s3 s4 s5 s6 s8 s9 s10 s11 s12 s15 : Sl} {b : List Kd} {run : Ag} (hb : BskOk b) (hk : KindIn b run) (hl : run.length ≤ 60) (k8 : keepD s8 = s8) (f10 : isFr s10 = true) :
    lawOld [.dat (bskD b), s1, s2, s3, s4, s5, s6, .dat (.list (run.map stepD)), s8, s9, s10, s11, s12, .no, .no, s15]
      = some (.nx [.dat (bskD b), s1, s2, s3, s4, s5, s6, .dat (.list (run.map stepD)), s8, s9, .own (.list ((sorted (older b run)).map stepD)), s11, s12, .no, .no, s15]) := by
  have hz : run.length ≤ sizeLine := by rw [sizeLine_eq]; omega
  have h := lc_fm (enc := stepD) (it := iL (eVar 7)) (vs := [8, 14]) (g := gT [gN 8, gN 14]) (t := (tV (e2 fLt (e2 fPlus (eVar 14) (eC (.int 1))) (eCall m__law_length (aCons (e2 fIx (e2 fIx (eVar 0) (eVar 8)) (eC (.int 0))) aNil))))) (e := (eTup (aCons (eVar 8) (aCons (e2 fPlus (eVar 14) (eC (.int 1))) aNil))))
    (δ := [.dat (bskD b), s1, s2, s3, s4, s5, s6, .dat (.list (run.map stepD)), s8, s9, s10, s11, s12, .no, .no, s15]) (δ' := [.dat (bskD b), s1, s2, s3, s4, s5, s6, .dat (.list (run.map stepD)), s8, s9, s10, s11, s12, .no, .no, s15])
    (fun p => if p.2 + 1 < lenW (wspAt b p.1) then some (stepD (p.1, p.2 + 1)) else none) run (by simp [sSeq, sAsg, sOwn, sIf, sRet, sRetO, sRetV, sRetN, sDrop, sNext, sCont, sBreak, sAug, sFor, sSetL, eVar, eC, e1, e2, eB, eTup, eO, oB, o2, oLst, oCall, oDict0X, oLc, oLc2, aNil, aCons, tV, tAnd', tOr', tNot', tT', tYesF, truth', truth, eIf, eAnd, eOr, eNot, eCh, eMt, eMt0, eCall, eIsi, isaD, typeD, isDct, eCntT, eGetX, sPutX, frzV, frzs, val, vals, slD, slDat, cont, setC, isListD, free_eq, isFr_no, isFr_dat, isFr_own, isFr_bor, gN, gT, partsD, iL, iT, iR1, iR2, iEnL, iEnT, iZLL, iZTT, iZTL, iKeysX, iValsX, iItemsX, fI0, fI, fPlus, fCatT, fAddS, fCatL, fRepT, fRepL, fIx, fLen, fAbs, fInt, fTup, fList, fAppend, fExtend, fPop, fPopAt, fMin2, fMax2, fNeg, fIsN, fNotN, isNone, fSum, fSumT, fInX, fIxX, fLenX, r1F, r2F, rgOk, compStep, wipeD, putB, keepD, startS, outsD, outD, mBody, mBodyO, sPar, yNil, yCons, xE, xO, setH, setHs, rdOk, List.set, bind_ite, atI_0, atI_1, atI_2, ixN_0, ixN_1, List.getElem?_cons_zero, eCallB, okL_1, okL_2, okL_3, okL_4, lentS, pinv, frzB, lendB, lent1, List.idxOf?, List.findIdx?, List.findIdx?.go, putS, putS1, oD1X, fEqXE]) (fun p hp => by
      obtain ⟨k, ag⟩ := p
      obtain ⟨j, hj, hjl⟩ := hk _ hp
      simp only at hj
      subst hj
      have hw := (hb.ok _ (List.getElem_mem hjl)).1.len
      have e1 := e_length2 b[j].1 (by rw [sizeLine_eq]; omega)
      by_cases c : ag + 1 < lenW b[j].1
      · simp [sSeq, sAsg, sOwn, sIf, sRet, sRetO, sRetV, sRetN, sDrop, sNext, sCont, sBreak, sAug, sFor, sSetL, eVar, eC, e1, e2, eB, eTup, eO, oB, o2, oLst, oCall, oDict0X, oLc, oLc2, aNil, aCons, tV, tAnd', tOr', tNot', tT', tYesF, truth', truth, eIf, eAnd, eOr, eNot, eCh, eMt, eMt0, eCall, eIsi, isaD, typeD, isDct, eCntT, eGetX, sPutX, frzV, frzs, val, vals, slD, slDat, cont, setC, isListD, free_eq, isFr_no, isFr_dat, isFr_own, isFr_bor, gN, gT, partsD, iL, iT, iR1, iR2, iEnL, iEnT, iZLL, iZTT, iZTL, iKeysX, iValsX, iItemsX, fI0, fI, fPlus, fCatT, fAddS, fCatL, fRepT, fRepL, fIx, fLen, fAbs, fInt, fTup, fList, fAppend, fExtend, fPop, fPopAt, fMin2, fMax2, fNeg, fIsN, fNotN, isNone, fSum, fSumT, fInX, fIxX, fLenX, r1F, r2F, rgOk, compStep, wipeD, putB, keepD, startS, outsD, outD, mBody, mBodyO, sPar, yNil, yCons, xE, xO, setH, setHs, rdOk, List.set, bind_ite, atI_0, atI_1, atI_2, ixN_0, ixN_1, List.getElem?_cons_zero, eCallB, okL_1, okL_2, okL_3, okL_4, lentS, pinv, frzB, lendB, lent1, List.idxOf?, List.findIdx?, List.findIdx?.go, putS, putS1, oD1X, fEqXE, stepD, bskD, bsk_at hjl, kindD, e1, wsp_at hjl, c, sizeLine_eq]
        exact k8
      · simp [sSeq, sAsg, sOwn, sIf, sRet, sRetO, sRetV, sRetN, sDrop, sNext, sCont, sBreak, sAug, sFor, sSetL, eVar, eC, e1, e2, eB, eTup, eO, oB, o2, oLst, oCall, oDict0X, oLc, oLc2, aNil, aCons, tV, tAnd', tOr', tNot', tT', tYesF, truth', truth, eIf, eAnd, eOr, eNot, eCh, eMt, eMt0, eCall, eIsi, isaD, typeD, isDct, eCntT, eGetX, sPutX, frzV, frzs, val, vals, slD, slDat, cont, setC, isListD, free_eq, isFr_no, isFr_dat, isFr_own, isFr_bor, gN, gT, partsD, iL, iT, iR1, iR2, iEnL, iEnT, iZLL, iZTT, iZTL, iKeysX, iValsX, iItemsX, fI0, fI, fPlus, fCatT, fAddS, fCatL, fRepT, fRepL, fIx, fLen, fAbs, fInt, fTup, fList, fAppend, fExtend, fPop, fPopAt, fMin2, fMax2, fNeg, fIsN, fNotN, isNone, fSum, fSumT, fInX, fIxX, fLenX, r1F, r2F, rgOk, compStep, wipeD, putB, keepD, startS, outsD, outD, mBody, mBodyO, sPar, yNil, yCons, xE, xO, setH, setHs, rdOk, List.set, bind_ite, atI_0, atI_1, atI_2, ixN_0, ixN_1, List.getElem?_cons_zero, eCallB, okL_1, okL_2, okL_3, okL_4, lentS, pinv, frzB, lendB, lent1, List.idxOf?, List.findIdx?, List.findIdx?.go, putS, putS1, oD1X, fEqXE, stepD, bskD, bsk_at hjl, kindD, e1, wsp_at hjl, c]
        exact k8) hz
  rw [older_fm] at h
  have ho : (older b run).length ≤ sizeLine := by
    unfold older
    rw [List.length_map]
    exact Nat.le_trans (List.length_filter_le ..) hz
  unfold lawOld
  simp [sSeq, sAsg, sOwn, sIf, sRet, sRetO, sRetV, sRetN, sDrop, sNext, sCont, sBreak, sAug, sSetL, eVar, eC, e1, e2, eB, eTup, eO, oB, o2, oLst, oCall, oDict0X, aNil, aCons, tV, tAnd', tOr', tNot', tT', tYesF, truth', truth, eIf, eAnd, eOr, eNot, eCh, eMt, eMt0, eIsi, isaD, typeD, isDct, eCntT, eGetX, sPutX, frzV, frzs, val, vals, slD, slDat, cont, setC, isListD, free_eq, isFr_no, isFr_dat, isFr_own, isFr_bor, gN, gT, partsD, iL, iT, iR1, iR2, iEnL, iEnT, iZLL, iZTT, iZTL, iKeysX, iValsX, iItemsX, fI0, fI, fPlus, fCatT, fAddS, fCatL, fRepT, fRepL, fIx, fLen, fAbs, fInt, fTup, fList, fAppend, fExtend, fPop, fPopAt, fMin2, fMax2, fNeg, fIsN, fNotN, isNone, fSum, fSumT, fInX, fIxX, fLenX, r1F, r2F, rgOk, wipeD, putB, keepD, startS, outsD, outD, mBody, mBodyO, sPar, yNil, yCons, xE, xO, setH, setHs, rdOk, List.set, bind_ite, atI_0, atI_1, atI_2, ixN_0, ixN_1, List.getElem?_cons_zero, okL_1, okL_2, okL_3, okL_4, lentS, pinv, frzB, lendB, lent1, List.idxOf?, List.findIdx?, List.findIdx?.go, putS, putS1, oD1X, fEqXE, h, fSortL, ok_pairs _ ho, sorted_eq, f10]
noncomputable def lawLeft : SF := sOwn 11 (oLc (iZTT (e2 fIx (eVar 2) (eC (.int 1))) (eVar 6)) [15, 9] (gT [(gN 15), (gN 9)]) tYesF (eIf (tV (e2 fIsN (eVar 15) (eC .none))) (eC .none) (e2 fSub (eVar 15) (eVar 9))))
theorem e_left {s0 s1 s3 s4 s5 s7 s8 s9 s10 s11 s12 s13 s14 : Sl} {s : St} {l : Lot} (hl : l.length = s.2.length) (h4 : s.2.length ≤ 4) (k9 : keepD s9 = s9) (f11 : isFr s11 = true) :
    lawLeft [s0, s1, .dat (stD s), s3, s4, s5, .dat (lotD l), s7, s8, s9, s10, s11, s12, s13, s14, .no]
      = some (.nx [s0, s1, .dat (stD s), s3, s4, s5, .dat (lotD l), s7, s8, s9, s10, .own (.list ((restL s.2 l).map optD)), s12, s13, s14, .no]) := by
  have hzip : zipF (s.2.map optD) (l.map fun (c : Nat) => PyData.int (c : Int)) = (List.zip s.2 l).map fun p => pairD (optD p.1) (.int (p.2 : Nat)) := by
    unfold zipF
    rw [List.zipWith_map, List.zip, List.map_zipWith]
  have h := lc_map (enc := fun p : Option Int × Nat => pairD (optD p.1) (.int (p.2 : Nat))) (it := iZTT (e2 fIx (eVar 2) (eC (.int 1))) (eVar 6)) (vs := [15, 9]) (g := gT [gN 15, gN 9]) (t := tYesF) (e := eIf (tV (e2 fIsN (eVar 15) (eC .none))) (eC .none) (e2 fSub (eVar 15) (eVar 9)))
    (δ := [s0, s1, .dat (stD s), s3, s4, s5, .dat (lotD l), s7, s8, s9, s10, s11, s12, s13, s14, .no]) (δ' := [s0, s1, .dat (stD s), s3, s4, s5, .dat (lotD l), s7, s8, s9, s10, s11, s12, s13, s14, .no])
    (fun p => optD (p.1.map fun x => x - (p.2 : Nat))) (List.zip s.2 l) (by rw [← hzip]; simp [sSeq, sAsg, sOwn, sIf, sRet, sRetO, sRetV, sRetN, sDrop, sNext, sCont, sBreak, sAug, sFor, sSetL, eVar, eC, e1, e2, eB, eTup, eO, oB, o2, oLst, oCall, oDict0X, oLc, oLc2, aNil, aCons, tV, tAnd', tOr', tNot', tT', tYesF, truth', truth, eIf, eAnd, eOr, eNot, eCh, eMt, eMt0, eCall, eIsi, isaD, typeD, isDct, eCntT, eGetX, sPutX, frzV, frzs, val, vals, slD, slDat, cont, setC, isListD, free_eq, isFr_no, isFr_dat, isFr_own, isFr_bor, gN, gT, partsD, iL, iT, iR1, iR2, iEnL, iEnT, iZLL, iZTT, iZTL, iKeysX, iValsX, iItemsX, fI0, fI, fPlus, fCatT, fAddS, fCatL, fRepT, fRepL, fIx, fLen, fAbs, fInt, fTup, fList, fAppend, fExtend, fPop, fPopAt, fMin2, fMax2, fNeg, fIsN, fNotN, isNone, fSum, fSumT, fInX, fIxX, fLenX, r1F, r2F, rgOk, compStep, wipeD, putB, keepD, startS, outsD, outD, mBody, mBodyO, sPar, yNil, yCons, xE, xO, setH, setHs, rdOk, List.set, bind_ite, atI_0, atI_1, atI_2, ixN_0, ixN_1, List.getElem?_cons_zero, eCallB, okL_1, okL_2, okL_3, okL_4, lentS, pinv, frzB, lendB, lent1, List.idxOf?, List.findIdx?, List.findIdx?.go, putS, putS1, oD1X, fEqXE, stD, mnD, lotD, iZ, eZ, zT]) (fun p _ => by
      obtain ⟨m, c⟩ := p
      cases m with
      | none =>
        simp [sSeq, sAsg, sOwn, sIf, sRet, sRetO, sRetV, sRetN, sDrop, sNext, sCont, sBreak, sAug, sFor, sSetL, eVar, eC, e1, e2, eB, eTup, eO, oB, o2, oLst, oCall, oDict0X, oLc, oLc2, aNil, aCons, tV, tAnd', tOr', tNot', tT', tYesF, truth', truth, eIf, eAnd, eOr, eNot, eCh, eMt, eMt0, eCall, eIsi, isaD, typeD, isDct, eCntT, eGetX, sPutX, frzV, frzs, val, vals, slD, slDat, cont, setC, isListD, free_eq, isFr_no, isFr_dat, isFr_own, isFr_bor, gN, gT, partsD, iL, iT, iR1, iR2, iEnL, iEnT, iZLL, iZTT, iZTL, iKeysX, iValsX, iItemsX, fI0, fI, fPlus, fCatT, fAddS, fCatL, fRepT, fRepL, fIx, fLen, fAbs, fInt, fTup, fList, fAppend, fExtend, fPop, fPopAt, fMin2, fMax2, fNeg, fIsN, fNotN, isNone, fSum, fSumT, fInX, fIxX, fLenX, r1F, r2F, rgOk, compStep, wipeD, putB, keepD, startS, outsD, outD, mBody, mBodyO, sPar, yNil, yCons, xE, xO, setH, setHs, rdOk, List.set, bind_ite, atI_0, atI_1, atI_2, ixN_0, ixN_1, List.getElem?_cons_zero, eCallB, okL_1, okL_2, okL_3, okL_4, lentS, pinv, frzB, lendB, lent1, List.idxOf?, List.findIdx?, List.findIdx?.go, putS, putS1, oD1X, fEqXE, optD]
        exact k9
      | some x =>
        simp [sSeq, sAsg, sOwn, sIf, sRet, sRetO, sRetV, sRetN, sDrop, sNext, sCont, sBreak, sAug, sFor, sSetL, eVar, eC, e1, e2, eB, eTup, eO, oB, o2, oLst, oCall, oDict0X, oLc, oLc2, aNil, aCons, tV, tAnd', tOr', tNot', tT', tYesF, truth', truth, eIf, eAnd, eOr, eNot, eCh, eMt, eMt0, eCall, eIsi, isaD, typeD, isDct, eCntT, eGetX, sPutX, frzV, frzs, val, vals, slD, slDat, cont, setC, isListD, free_eq, isFr_no, isFr_dat, isFr_own, isFr_bor, gN, gT, partsD, iL, iT, iR1, iR2, iEnL, iEnT, iZLL, iZTT, iZTL, iKeysX, iValsX, iItemsX, fI0, fI, fPlus, fCatT, fAddS, fCatL, fRepT, fRepL, fIx, fLen, fAbs, fInt, fTup, fList, fAppend, fExtend, fPop, fPopAt, fMin2, fMax2, fNeg, fIsN, fNotN, isNone, fSum, fSumT, fInX, fIxX, fLenX, r1F, r2F, rgOk, compStep, wipeD, putB, keepD, startS, outsD, outD, mBody, mBodyO, sPar, yNil, yCons, xE, xO, setH, setHs, rdOk, List.set, bind_ite, atI_0, atI_1, atI_2, ixN_0, ixN_1, List.getElem?_cons_zero, eCallB, okL_1, okL_2, okL_3, okL_4, lentS, pinv, frzB, lendB, lent1, List.idxOf?, List.findIdx?, List.findIdx?.go, putS, putS1, oD1X, fEqXE, optD]
        exact k9) (by rw [List.length_zip, sizeLine_eq]; omega)
  have hr : (List.zip s.2 l).map (fun p => optD (p.1.map fun x => x - ((p.2 : Nat) : Int))) = (restL s.2 l).map optD := by
    unfold restL
    rw [List.zip, List.map_zipWith, List.map_zipWith]
  rw [hr] at h
  unfold lawLeft
  simp [sSeq, sAsg, sOwn, sIf, sRet, sRetO, sRetV, sRetN, sDrop, sNext, sCont, sBreak, sAug, sSetL, eVar, eC, e1, e2, eB, eTup, eO, oB, o2, oLst, oCall, oDict0X, aNil, aCons, tV, tAnd', tOr', tNot', tT', tYesF, truth', truth, eIf, eAnd, eOr, eNot, eCh, eMt, eMt0, eIsi, isaD, typeD, isDct, eCntT, eGetX, sPutX, frzV, frzs, val, vals, slD, slDat, cont, setC, isListD, free_eq, isFr_no, isFr_dat, isFr_own, isFr_bor, gN, gT, partsD, iL, iT, iR1, iR2, iEnL, iEnT, iZLL, iZTT, iZTL, iKeysX, iValsX, iItemsX, fI0, fI, fPlus, fCatT, fAddS, fCatL, fRepT, fRepL, fIx, fLen, fAbs, fInt, fTup, fList, fAppend, fExtend, fPop, fPopAt, fMin2, fMax2, fNeg, fIsN, fNotN, isNone, fSum, fSumT, fInX, fIxX, fLenX, r1F, r2F, rgOk, wipeD, putB, keepD, startS, outsD, outD, mBody, mBodyO, sPar, yNil, yCons, xE, xO, setH, setHs, rdOk, List.set, bind_ite, atI_0, atI_1, atI_2, ixN_0, ixN_1, List.getElem?_cons_zero, okL_1, okL_2, okL_3, okL_4, lentS, pinv, frzB, lendB, lent1, List.idxOf?, List.findIdx?, List.findIdx?.go, putS, putS1, oD1X, fEqXE, h, f11]
/-! ### the law's own steps -/
noncomputable def lawPut : SF := sPutX 3 (eVar 12) (eB fMin2 (aCons (eGetX (eVar 3) (eVar 12) (eB fSumT (aCons (eVar 6) aNil))) (aCons (eB fSumT (aCons (eVar 6) aNil)) aNil)))
noncomputable def lawLot : SF := sSeq (sOwn 7 (oB fList (aCons (eVar 5) aNil)))
  (sSeq (sFor (iEnT (eVar 6)) (gT [(gN 8), (gN 9)]) (sDrop (eMt isListD 7 fExtend (aCons (eO (o2 fRepL (eO (oLst (aCons (eTup (aCons (eVar 8) (aCons (eC (.int 0)) aNil))) aNil))) (eVar 9))) aNil))))
  (sIf (tV (eCh fLe fLe (e2 fIx (eVar 1) (eC (.int 0))) lawSum (e2 fIx (eVar 1) (eC (.int 1)))))
  (sSeq lawOld (sSeq lawLeft (sSeq (sAsg (eTup (aCons (eB fTup (aCons (eVar 10) aNil)) (aCons (eB fTup (aCons (eVar 11) aNil)) aNil))) (gN 12)) lawPut)))
  sNext))
theorem min_sw (n g : Int) : (if n < g then n else g) = minI n g := by
  unfold minI
  split <;> split <;> omega
theorem e_put {s0 s1 s2 s4 s5 s7 s8 s9 s10 s11 s13 s14 s15 : Sl} {kvs : Kv} {l : Lot} {k : St} (hn : kvs.length ≤ 2048) :
    lawPut [s0, s1, s2, .own (dicD kvs), s4, s5, .dat (lotD l), s7, s8, s9, s10, s11, .dat (stD k), s13, s14, s15]
      = some (.nx [s0, s1, s2, .own (dicD (addMin kvs (k, ((l.sum : Nat) : Int)))), s4, s5, .dat (lotD l), s7, s8, s9, s10, s11, .dat (stD k), s13, s14, s15]) := by
  have hz : kvs.length < 16777216 := by omega
  have hg := get_st kvs k ((l.sum : Nat) : Int)
  have hp := put_st kvs k (minI ((l.sum : Nat) : Int) (getS kvs k ((l.sum : Nat) : Int)))
  have hky := key_st k
  have hs := lots_ints l
  have hsum : (l.map fun (c : Nat) => (c : Int)).sum = ((l.sum : Nat) : Int) := nat_sum l
  unfold lawPut
  simp only [dicD, mkX, addMin, lotD]
  rw [← hp]
  simp [sSeq, sAsg, sOwn, sIf, sRet, sRetO, sRetV, sRetN, sDrop, sNext, sCont, sBreak, sAug, sFor, sSetL, eVar, eC, e1, e2, eB, eTup, eO, oB, o2, oLst, oCall, oDict0X, oLc, oLc2, aNil, aCons, tV, tAnd', tOr', tNot', tT', tYesF, truth', truth, eIf, eAnd, eOr, eNot, eCh, eMt, eMt0, eCall, eIsi, isaD, typeD, isDct, eCntT, eGetX, sPutX, frzV, frzs, val, vals, slD, slDat, cont, setC, isListD, free_eq, isFr_no, isFr_dat, isFr_own, isFr_bor, gN, gT, partsD, iL, iT, iR1, iR2, iEnL, iEnT, iZLL, iZTT, iZTL, iKeysX, iValsX, iItemsX, fI0, fI, fPlus, fCatT, fAddS, fCatL, fRepT, fRepL, fIx, fLen, fAbs, fInt, fTup, fList, fAppend, fExtend, fPop, fPopAt, fMin2, fMax2, fNeg, fIsN, fNotN, isNone, fSum, fSumT, fInX, fIxX, fLenX, r1F, r2F, rgOk, compStep, wipeD, putB, keepD, startS, outsD, outD, mBody, mBodyO, sPar, yNil, yCons, xE, xO, setH, setHs, rdOk, List.set, bind_ite, atI_0, atI_1, atI_2, ixN_0, ixN_1, List.getElem?_cons_zero, eCallB, okL_1, okL_2, okL_3, okL_4, lentS, pinv, frzB, lendB, lent1, List.idxOf?, List.findIdx?, List.findIdx?.go, putS, putS1, oD1X, fEqXE, dX, hky, hg, hs, hsum, mkX, sizeLine_eq, hz, min_sw]
noncomputable def cond (b : List Kd) (f : Int × Int × Int) (ms : Mny) (kp : Ag) (l : Lot) (kvs : Kv) : Kv := if okRun b f (runOf kp l) = true then addMin kvs (toC b ms (kp, l)) else kvs
/-- slots that may be bound again -/
structure Fr6 (s7 s8 s9 s10 s11 s12 : Sl) : Prop where
  f7 : isFr s7 = true
  f8 : isFr s8 = true
  f9 : isFr s9 = true
  f10 : isFr s10 = true
  f11 : isFr s11 = true
  f12 : isFr s12 = true
  k8 : keepD s8 = s8
  k9 : keepD s9 = s9
theorem e_lot {s4 s7 s8 s9 s10 s11 s12 : Sl} {b : List Kd} {f : Int × Int × Int} {s : St} {kp : Ag} {l : Lot} {kvs : Kv} (hb : BskOk b) (hk : KindIn b (runOf kp l)) (hl : (runOf kp l).length ≤ 60) (hls : l.length = s.2.length) (h4 : s.2.length ≤ 4) (hn : kvs.length ≤ 2048) (fr : Fr6 s7 s8 s9 s10 s11 s12) :
    ∃ t7 t8 t9 t10 t11 t12 : Sl, Fr6 t7 t8 t9 t10 t11 t12 ∧ lawLot [.dat (bskD b), .dat (frD f), .dat (stD s), .own (dicD kvs), s4, .own (.list (kp.map stepD)), .dat (lotD l), s7, s8, s9, s10, s11, s12, .no, .no, .no]
      = some (.nx [.dat (bskD b), .dat (frD f), .dat (stD s), .own (dicD (cond b f s.2 kp l kvs)), s4, .own (.list (kp.map stepD)), .dat (lotD l), t7, t8, t9, t10, t11, t12, .no, .no, .no]) := by
  obtain ⟨f7, f8, f9, f10, f11, f12, k8, k9⟩ := fr
  obtain ⟨u8, u9, g8, g9, h8, h9, hrun⟩ := e_run (s0 := .dat (bskD b)) (s1 := .dat (frD f)) (s2 := .dat (stD s)) (s3 := .own (dicD kvs)) (s4 := s4) (s5 := .own (.list (kp.map stepD))) (s10 := s10) (s11 := s11) (s12 := s12) (s13 := .no) (s14 := .no) (s15 := .no) hl f8 f9 k8 k9
  have hsum := e_sum (s1 := .dat (frD f)) (s2 := .dat (stD s)) (s3 := .own (dicD kvs)) (s4 := s4) (s5 := .own (.list (kp.map stepD))) (s6 := .dat (lotD l)) (s9 := u9) (s10 := s10) (s11 := s11) (s12 := s12) (s15 := .no) hk hl h8
  have hcond : tV (eCh fLe fLe (e2 fIx (eVar 1) (eC (.int 0))) lawSum (e2 fIx (eVar 1) (eC (.int 1)))) [.dat (bskD b), .dat (frD f), .dat (stD s), .own (dicD kvs), s4, .own (.list (kp.map stepD)), .dat (lotD l), .own (.list ((runOf kp l).map stepD)), u8, u9, s10, s11, s12, .no, .no, .no]
      = some (okRun b f (runOf kp l), [.dat (bskD b), .dat (frD f), .dat (stD s), .own (dicD kvs), s4, .own (.list (kp.map stepD)), .dat (lotD l), .dat (.list ((runOf kp l).map stepD)), u8, u9, s10, s11, s12, .no, .no, .no]) := by
    unfold okRun
    simp only [frD] at hsum ⊢
    generalize lawSum = ls at hsum ⊢
    by_cases c1 : f.1 ≤ thickOf b (runOf kp l)
    · simp [sSeq, sAsg, sOwn, sIf, sRet, sRetO, sRetV, sRetN, sDrop, sNext, sCont, sBreak, sAug, sFor, sSetL, eVar, eC, e1, e2, eB, eTup, eO, oB, o2, oLst, oCall, oDict0X, oLc, oLc2, aNil, aCons, tV, tAnd', tOr', tNot', tT', tYesF, truth', truth, eIf, eAnd, eOr, eNot, eCh, eMt, eMt0, eCall, eIsi, isaD, typeD, isDct, eCntT, eGetX, sPutX, frzV, frzs, val, vals, slD, slDat, cont, setC, isListD, free_eq, isFr_no, isFr_dat, isFr_own, isFr_bor, gN, gT, partsD, iL, iT, iR1, iR2, iEnL, iEnT, iZLL, iZTT, iZTL, iKeysX, iValsX, iItemsX, fI0, fI, fPlus, fCatT, fAddS, fCatL, fRepT, fRepL, fIx, fLen, fAbs, fInt, fTup, fList, fAppend, fExtend, fPop, fPopAt, fMin2, fMax2, fNeg, fIsN, fNotN, isNone, fSum, fSumT, fInX, fIxX, fLenX, r1F, r2F, rgOk, compStep, wipeD, putB, keepD, startS, outsD, outD, mBody, mBodyO, sPar, yNil, yCons, xE, xO, setH, setHs, rdOk, List.set, bind_ite, atI_0, atI_1, atI_2, ixN_0, ixN_1, List.getElem?_cons_zero, eCallB, okL_1, okL_2, okL_3, okL_4, lentS, pinv, frzB, lendB, lent1, List.idxOf?, List.findIdx?, List.findIdx?.go, putS, putS1, oD1X, fEqXE, hsum, c1]
    · simp [sSeq, sAsg, sOwn, sIf, sRet, sRetO, sRetV, sRetN, sDrop, sNext, sCont, sBreak, sAug, sFor, sSetL, eVar, eC, e1, e2, eB, eTup, eO, oB, o2, oLst, oCall, oDict0X, oLc, oLc2, aNil, aCons, tV, tAnd', tOr', tNot', tT', tYesF, truth', truth, eIf, eAnd, eOr, eNot, eCh, eMt, eMt0, eCall, eIsi, isaD, typeD, isDct, eCntT, eGetX, sPutX, frzV, frzs, val, vals, slD, slDat, cont, setC, isListD, free_eq, isFr_no, isFr_dat, isFr_own, isFr_bor, gN, gT, partsD, iL, iT, iR1, iR2, iEnL, iEnT, iZLL, iZTT, iZTL, iKeysX, iValsX, iItemsX, fI0, fI, fPlus, fCatT, fAddS, fCatL, fRepT, fRepL, fIx, fLen, fAbs, fInt, fTup, fList, fAppend, fExtend, fPop, fPopAt, fMin2, fMax2, fNeg, fIsN, fNotN, isNone, fSum, fSumT, fInX, fIxX, fLenX, r1F, r2F, rgOk, compStep, wipeD, putB, keepD, startS, outsD, outD, mBody, mBodyO, sPar, yNil, yCons, xE, xO, setH, setHs, rdOk, List.set, bind_ite, atI_0, atI_1, atI_2, ixN_0, ixN_1, List.getElem?_cons_zero, eCallB, okL_1, okL_2, okL_3, okL_4, lentS, pinv, frzB, lendB, lent1, List.idxOf?, List.findIdx?, List.findIdx?.go, putS, putS1, oD1X, fEqXE, hsum, c1]
  have h7 : (sOwn 7 (oB fList (aCons (eVar 5) aNil))) [.dat (bskD b), .dat (frD f), .dat (stD s), .own (dicD kvs), s4, .own (.list (kp.map stepD)), .dat (lotD l), s7, s8, s9, s10, s11, s12, .no, .no, .no] = some (.nx [.dat (bskD b), .dat (frD f), .dat (stD s), .own (dicD kvs), s4, .own (.list (kp.map stepD)), .dat (lotD l), .own (.list (kp.map stepD)), s8, s9, s10, s11, s12, .no, .no, .no]) := by
    simp [sSeq, sAsg, sOwn, sIf, sRet, sRetO, sRetV, sRetN, sDrop, sNext, sCont, sBreak, sAug, sFor, sSetL, eVar, eC, e1, e2, eB, eTup, eO, oB, o2, oLst, oCall, oDict0X, oLc, oLc2, aNil, aCons, tV, tAnd', tOr', tNot', tT', tYesF, truth', truth, eIf, eAnd, eOr, eNot, eCh, eMt, eMt0, eCall, eIsi, isaD, typeD, isDct, eCntT, eGetX, sPutX, frzV, frzs, val, vals, slD, slDat, cont, setC, isListD, free_eq, isFr_no, isFr_dat, isFr_own, isFr_bor, gN, gT, partsD, iL, iT, iR1, iR2, iEnL, iEnT, iZLL, iZTT, iZTL, iKeysX, iValsX, iItemsX, fI0, fI, fPlus, fCatT, fAddS, fCatL, fRepT, fRepL, fIx, fLen, fAbs, fInt, fTup, fList, fAppend, fExtend, fPop, fPopAt, fMin2, fMax2, fNeg, fIsN, fNotN, isNone, fSum, fSumT, fInX, fIxX, fLenX, r1F, r2F, rgOk, compStep, wipeD, putB, keepD, startS, outsD, outD, mBody, mBodyO, sPar, yNil, yCons, xE, xO, setH, setHs, rdOk, List.set, bind_ite, atI_0, atI_1, atI_2, ixN_0, ixN_1, List.getElem?_cons_zero, eCallB, okL_1, okL_2, okL_3, okL_4, lentS, pinv, frzB, lendB, lent1, List.idxOf?, List.findIdx?, List.findIdx?.go, putS, putS1, oD1X, fEqXE, f7]
  by_cases ok : okRun b f (runOf kp l) = true
  · refine ⟨.dat (.list ((runOf kp l).map stepD)), u8, u9, .own (.list ((sorted (older b (runOf kp l))).map stepD)), .own (.list ((restL s.2 l).map optD)), .dat (stD (comeOf b s.2 kp l)), ⟨rfl, g8, g9, rfl, rfl, rfl, h8, h9⟩, ?_⟩
    refine seq_to h7 (seq_to hrun ?_)
    unfold sIf
    rw [hcond, ok, Option.bind_some, if_pos rfl]
    refine seq_to (e_old hb hk hl h8 f10) (seq_to (e_left hls h4 h9 f11) ?_)
    refine seq_to (δ' := [.dat (bskD b), .dat (frD f), .dat (stD s), .own (dicD kvs), s4, .own (.list (kp.map stepD)), .dat (lotD l), .dat (.list ((runOf kp l).map stepD)), u8, u9, .own (.list ((sorted (older b (runOf kp l))).map stepD)), .own (.list ((restL s.2 l).map optD)), .dat (stD (comeOf b s.2 kp l)), .no, .no, .no]) ?_ ?_
    · simp only [stD, comeOf, agD, mnD]
      simp [sSeq, sAsg, sOwn, sIf, sRet, sRetO, sRetV, sRetN, sDrop, sNext, sCont, sBreak, sAug, sFor, sSetL, eVar, eC, e1, e2, eB, eTup, eO, oB, o2, oLst, oCall, oDict0X, oLc, oLc2, aNil, aCons, tV, tAnd', tOr', tNot', tT', tYesF, truth', truth, eIf, eAnd, eOr, eNot, eCh, eMt, eMt0, eCall, eIsi, isaD, typeD, isDct, eCntT, eGetX, sPutX, frzV, frzs, val, vals, slD, slDat, cont, setC, isListD, free_eq, isFr_no, isFr_dat, isFr_own, isFr_bor, gN, gT, partsD, iL, iT, iR1, iR2, iEnL, iEnT, iZLL, iZTT, iZTL, iKeysX, iValsX, iItemsX, fI0, fI, fPlus, fCatT, fAddS, fCatL, fRepT, fRepL, fIx, fLen, fAbs, fInt, fTup, fList, fAppend, fExtend, fPop, fPopAt, fMin2, fMax2, fNeg, fIsN, fNotN, isNone, fSum, fSumT, fInX, fIxX, fLenX, r1F, r2F, rgOk, compStep, wipeD, putB, keepD, startS, outsD, outD, mBody, mBodyO, sPar, yNil, yCons, xE, xO, setH, setHs, rdOk, List.set, bind_ite, atI_0, atI_1, atI_2, ixN_0, ixN_1, List.getElem?_cons_zero, eCallB, okL_1, okL_2, okL_3, okL_4, lentS, pinv, frzB, lendB, lent1, List.idxOf?, List.findIdx?, List.findIdx?.go, putS, putS1, oD1X, fEqXE, f12, sizeLine_eq]
    · unfold cond
      rw [if_pos ok]
      exact e_put hn
  · have ok' : okRun b f (runOf kp l) = false := by simpa using ok
    refine ⟨.dat (.list ((runOf kp l).map stepD)), u8, u9, s10, s11, s12, ⟨rfl, g8, g9, f10, f11, f12, h8, h9⟩, ?_⟩
    refine seq_to h7 (seq_to hrun ?_)
    unfold sIf
    rw [hcond, ok', Option.bind_some, if_neg (by simp)]
    unfold cond
    rw [if_neg ok]
    rfl
/-! ### all lots, all masks -/
noncomputable def csK (b : List Kd) (f : Int × Int × Int) (s : St) (kp : Ag) (q : List Lot) : List (St × Int) := (q.filter fun l => okRun b f (runOf kp l)).map fun l => toC b s.2 (kp, l)
theorem csK_cons {b : List Kd} {f : Int × Int × Int} {s : St} {kp : Ag} {l : Lot} {q : List Lot} {kvs : Kv} : (csK b f s kp (l :: q)).foldl addMin kvs = (csK b f s kp q).foldl addMin (cond b f s.2 kp l kvs) := by
  unfold csK cond
  by_cases c : okRun b f (runOf kp l) = true
  · rw [List.filter_cons_of_pos (by simpa using c), if_pos c]
    rfl
  · rw [List.filter_cons_of_neg (by simpa using c), if_neg c]
theorem cond_len {b : List Kd} {f : Int × Int × Int} {ms : Mny} {kp : Ag} {l : Lot} {kvs : Kv} : (cond b f ms kp l kvs).length ≤ kvs.length + 1 := by
  unfold cond
  split
  · exact addMin_len _ _
  · omega
theorem e_lots2 {s4 s6 s7 s8 s9 s10 s11 s12 : Sl} {b : List Kd} {f : Int × Int × Int} {s : St} {kp : Ag} {kvs : Kv} (hb : BskOk b) (h3 : f.2.2 ≤ 3) (hs : StOk b f.2.2 s) (hkl : (kp.length : Int) ≤ f.2.2) (hkk : KindIn b kp) (hn : kvs.length + 256 ≤ 2048) (f6 : isFr s6 = true) (fr : Fr6 s7 s8 s9 s10 s11 s12) :
    ∃ t6 t7 t8 t9 t10 t11 t12 : Sl, isFr t6 = true ∧ Fr6 t7 t8 t9 t10 t11 t12 ∧ (sFor (iL (eCall m__law_lots (aCons (e2 fIx (eVar 2) (eC (.int 1))) (aCons (e2 fSub (e2 fIx (eVar 1) (eC (.int 2))) (eB fLen (aCons (eVar 5) aNil))) aNil)))) (gN 6) lawLot) [.dat (bskD b), .dat (frD f), .dat (stD s), .own (dicD kvs), s4, .own (.list (kp.map stepD)), s6, s7, s8, s9, s10, s11, s12, .no, .no, .no]
      = some (.nx [.dat (bskD b), .dat (frD f), .dat (stD s), .own (dicD ((csK b f s kp (lotsF s.2 (f.2.2 - kp.length))).foldl addMin kvs)), s4, .own (.list (kp.map stepD)), t6, t7, t8, t9, t10, t11, t12, .no, .no, .no]) := by
  have hl4 : s.2.length ≤ 4 := hs.many.1
  have hll := lots_len (ms := s.2) (room := f.2.2 - kp.length) (by omega) hl4
  have hlots := e_lots (ms := s.2) (room := f.2.2 - kp.length) hs.many (by omega)
  let D (kvs : Kv) (t6 t7 t8 t9 t10 t11 t12 : Sl) : DS := [.dat (bskD b), .dat (frD f), .dat (stD s), .own (dicD kvs), s4, .own (.list (kp.map stepD)), t6, t7, t8, t9, t10, t11, t12, .no, .no, .no]
  obtain ⟨δ', e, kvs', t6, t7, t8, t9, t10, t11, t12, rfl, g6, gr, hk, _⟩ := loop_all (enc := lotD) (g := gN 6) (b := lawLot) (lotsF s.2 (f.2.2 - kp.length))
    (fun q δ => ∃ (kvs' : Kv) (t6 t7 t8 t9 t10 t11 t12 : Sl), δ = D kvs' t6 t7 t8 t9 t10 t11 t12 ∧ isFr t6 = true ∧ Fr6 t7 t8 t9 t10 t11 t12 ∧ (csK b f s kp q).foldl addMin kvs' = (csK b f s kp (lotsF s.2 (f.2.2 - kp.length))).foldl addMin kvs ∧ kvs'.length + q.length ≤ 2048 ∧ ∀ l ∈ q, l ∈ lotsF s.2 (f.2.2 - kp.length))
    (D kvs s6 s7 s8 s9 s10 s11 s12)
    (by
      rintro l q δ ⟨kvs', t6, t7, t8, t9, t10, t11, t12, rfl, g6, gr, hk, hn', hq⟩
      obtain ⟨l0, hl0, hl1, hl2⟩ := lots_mem s.2 [[]] l (hq l List.mem_cons_self)
      cases List.mem_singleton.mp hl0
      have hll' : l.length = s.2.length := by rw [hl1]; simp
      have hls : ((l.sum : Nat) : Int) ≤ 3 := by
        have := hl2 (by show ((0 : Nat) : Int) ≤ _; omega)
        omega
      have hrl : (runOf kp l).length ≤ 60 := by
        unfold runOf
        rw [List.length_append, List.length_map, expF_len]
        omega
      rw [List.length_cons] at hn'
      obtain ⟨u7, u8, u9, u10, u11, u12, gr', hlot⟩ := e_lot (s4 := s4) (f := f) (s := s) (kvs := kvs') hb (run_kind hkk (hll'.trans hs.rest)) hrl hll' hl4 (by omega) gr
      rw [csK_cons] at hk
      have hc := cond_len (b := b) (f := f) (ms := s.2) (kp := kp) (l := l) (kvs := kvs')
      refine ⟨_, ?_, _, .dat (lotD l), u7, u8, u9, u10, u11, u12, rfl, rfl, gr', hk, by omega, fun l h => hq l (List.mem_cons_of_mem _ h)⟩
      have e1 : gN 6 (lotD l) (D kvs' t6 t7 t8 t9 t10 t11 t12) = some (D kvs' (.dat (lotD l)) t7 t8 t9 t10 t11 t12) := by simp [sSeq, sAsg, sOwn, sIf, sRet, sRetO, sRetV, sRetN, sDrop, sNext, sCont, sBreak, sAug, sFor, sSetL, eVar, eC, e1, e2, eB, eTup, eO, oB, o2, oLst, oCall, oDict0X, oLc, oLc2, aNil, aCons, tV, tAnd', tOr', tNot', tT', tYesF, truth', truth, eIf, eAnd, eOr, eNot, eCh, eMt, eMt0, eCall, eIsi, isaD, typeD, isDct, eCntT, eGetX, sPutX, frzV, frzs, val, vals, slD, slDat, cont, setC, isListD, free_eq, isFr_no, isFr_dat, isFr_own, isFr_bor, gN, gT, partsD, iL, iT, iR1, iR2, iEnL, iEnT, iZLL, iZTT, iZTL, iKeysX, iValsX, iItemsX, fI0, fI, fPlus, fCatT, fAddS, fCatL, fRepT, fRepL, fIx, fLen, fAbs, fInt, fTup, fList, fAppend, fExtend, fPop, fPopAt, fMin2, fMax2, fNeg, fIsN, fNotN, isNone, fSum, fSumT, fInX, fIxX, fLenX, r1F, r2F, rgOk, compStep, wipeD, putB, keepD, startS, outsD, outD, mBody, mBodyO, sPar, yNil, yCons, xE, xO, setH, setHs, rdOk, List.set, bind_ite, atI_0, atI_1, atI_2, ixN_0, ixN_1, List.getElem?_cons_zero, eCallB, okL_1, okL_2, okL_3, okL_4, lentS, pinv, frzB, lendB, lent1, List.idxOf?, List.findIdx?, List.findIdx?.go, putS, putS1, oD1X, fEqXE, D, g6]
      rw [e1, Option.bind_some]
      exact hlot)
    ⟨kvs, s6, s7, s8, s9, s10, s11, s12, rfl, f6, fr, rfl, by omega, fun l h => h⟩
  refine ⟨t6, t7, t8, t9, t10, t11, t12, g6, gr, ?_⟩
  have hkl : kvs' = (csK b f s kp (lotsF s.2 (f.2.2 - kp.length))).foldl addMin kvs := hk
  rw [← hkl]
  have ei : iL (eCall m__law_lots (aCons (e2 fIx (eVar 2) (eC (.int 1))) (aCons (e2 fSub (e2 fIx (eVar 1) (eC (.int 2))) (eB fLen (aCons (eVar 5) aNil))) aNil))) (D kvs s6 s7 s8 s9 s10 s11 s12) = some ((lotsF s.2 (f.2.2 - kp.length)).map lotD, D kvs s6 s7 s8 s9 s10 s11 s12) := by
    simp only [D, stD, frD]
    simp [sSeq, sAsg, sOwn, sIf, sRet, sRetO, sRetV, sRetN, sDrop, sNext, sCont, sBreak, sAug, sFor, sSetL, eVar, eC, e1, e2, eB, eTup, eO, oB, o2, oLst, oCall, oDict0X, oLc, oLc2, aNil, aCons, tV, tAnd', tOr', tNot', tT', tYesF, truth', truth, eIf, eAnd, eOr, eNot, eCh, eMt, eMt0, eCall, eIsi, isaD, typeD, isDct, eCntT, eGetX, sPutX, frzV, frzs, val, vals, slD, slDat, cont, setC, isListD, free_eq, isFr_no, isFr_dat, isFr_own, isFr_bor, gN, gT, partsD, iL, iT, iR1, iR2, iEnL, iEnT, iZLL, iZTT, iZTL, iKeysX, iValsX, iItemsX, fI0, fI, fPlus, fCatT, fAddS, fCatL, fRepT, fRepL, fIx, fLen, fAbs, fInt, fTup, fList, fAppend, fExtend, fPop, fPopAt, fMin2, fMax2, fNeg, fIsN, fNotN, isNone, fSum, fSumT, fInX, fIxX, fLenX, r1F, r2F, rgOk, compStep, wipeD, putB, keepD, startS, outsD, outD, mBody, mBodyO, sPar, yNil, yCons, xE, xO, setH, setHs, rdOk, List.set, bind_ite, atI_0, atI_1, atI_2, ixN_0, ixN_1, List.getElem?_cons_zero, eCallB, okL_1, okL_2, okL_3, okL_4, lentS, pinv, frzB, lendB, lent1, List.idxOf?, List.findIdx?, List.findIdx?.go, putS, putS1, oD1X, fEqXE, hlots]
  show sFor _ _ _ (D kvs s6 s7 s8 s9 s10 s11 s12) = _
  unfold sFor
  rw [ei]
  exact e
noncomputable def csL (b : List Kd) (f : Int × Int × Int) (s : St) : List (St × Int) := (List.range (2 ^ s.1.length)).flatMap fun m => csK b f s (mkA s.1 m) (lotsF s.2 (f.2.2 - (mkA s.1 m).length))
theorem e_lawSteps {b : List Kd} {f : Int × Int × Int} {s : St} (hb : BskOk b) (h1 : 1 ≤ f.2.2) (h3 : f.2.2 ≤ 3) (hs : StOk b f.2.2 s) : m__law_steps [bskD b, frD f, stD s] = some (dicD (minF (csL b f s)), [.none, .none, .none]) := by
  have hal : s.1.length ≤ 3 := by have := hs.len; omega
  have h2 : 2 ^ s.1.length ≤ 8 := Nat.pow_le_pow_right (n := 2) (by decide) hal
  let D (kvs : Kv) (s4 s5 s6 s7 s8 s9 s10 s11 s12 : Sl) : DS := [.dat (bskD b), .dat (frD f), .dat (stD s), .own (dicD kvs), s4, s5, s6, s7, s8, s9, s10, s11, s12, .no, .no, .no]
  let G (m : Nat) : List (St × Int) := csK b f s (mkA s.1 m) (lotsF s.2 (f.2.2 - (mkA s.1 m).length))
  obtain ⟨δ', e, kvs, s4, s5, s6, s7, s8, s9, s10, s11, s12, rfl, f4, f5, f6, fr, hk, _⟩ := loop_all (enc := fun i : Nat => PyData.int (i : Int)) (g := gN 4) (b := sSeq (sOwn 5 (oLc (iEnT (e2 fIx (eVar 2) (eC (.int 0)))) [13, 14] (gT [(gN 13), (gN 14)]) (tV (e2 fEq (e2 fAnd (e2 fShr (eVar 4) (eVar 13)) (eC (.int 1))) (eC (.int 1)))) (eVar 14)))
  (sFor (iL (eCall m__law_lots (aCons (e2 fIx (eVar 2) (eC (.int 1))) (aCons (e2 fSub (e2 fIx (eVar 1) (eC (.int 2))) (eB fLen (aCons (eVar 5) aNil))) aNil)))) (gN 6) lawLot)) (List.range (2 ^ s.1.length))
    (fun r δ => ∃ (kvs : Kv) (s4 s5 s6 s7 s8 s9 s10 s11 s12 : Sl), δ = D kvs s4 s5 s6 s7 s8 s9 s10 s11 s12 ∧ isFr s4 = true ∧ isFr s5 = true ∧ isFr s6 = true ∧ Fr6 s7 s8 s9 s10 s11 s12 ∧ (r.flatMap G).foldl addMin kvs = minF (csL b f s) ∧ kvs.length + 256 * r.length ≤ 2048 ∧ ∀ m ∈ r, m < 2 ^ s.1.length)
    (D [] .no .no .no .no .no .no .no .no .no)
    (by
      rintro m r δ ⟨kvs, s4, s5, s6, s7, s8, s9, s10, s11, s12, rfl, f4, f5, f6, fr, hk, hn, hr⟩
      have hm := hr m List.mem_cons_self
      rw [List.flatMap_cons, List.foldl_append] at hk
      rw [List.length_cons] at hn
      have hsub := mkA_sub s.1 m
      have hkl : ((mkA s.1 m).length : Int) ≤ f.2.2 := by
        have := hsub.length_le
        have := hs.len
        omega
      have hkk : KindIn b (mkA s.1 m) := fun p hp => hs.kin p (hsub.subset hp)
      obtain ⟨t6, t7, t8, t9, t10, t11, t12, g6, gr, hl⟩ := e_lots2 (s4 := .dat (.int (m : Nat))) (kvs := kvs) (s := s) hb h3 hs hkl hkk (by omega) f6 fr
      have hgl : (G m).length ≤ 256 := by
        show (csK b f s (mkA s.1 m) (lotsF s.2 (f.2.2 - (mkA s.1 m).length))).length ≤ 256
        unfold csK
        rw [List.length_map]
        exact Nat.le_trans (List.length_filter_le ..) (lots_len (by omega) hs.many.1)
      have hfl := fold_len (G m) kvs
      refine ⟨_, ?_, (G m).foldl addMin kvs, .dat (.int (m : Nat)), .own (.list ((mkA s.1 m).map stepD)), t6, t7, t8, t9, t10, t11, t12, rfl, rfl, rfl, g6, gr, hk, by omega, fun m h => hr m (List.mem_cons_of_mem _ h)⟩
      have e1 : gN 4 (.int (m : Nat)) (D kvs s4 s5 s6 s7 s8 s9 s10 s11 s12) = some (D kvs (.dat (.int (m : Nat))) s5 s6 s7 s8 s9 s10 s11 s12) := by simp [sSeq, sAsg, sOwn, sIf, sRet, sRetO, sRetV, sRetN, sDrop, sNext, sCont, sBreak, sAug, sFor, sSetL, eVar, eC, e1, e2, eB, eTup, eO, oB, o2, oLst, oCall, oDict0X, oLc, oLc2, aNil, aCons, tV, tAnd', tOr', tNot', tT', tYesF, truth', truth, eIf, eAnd, eOr, eNot, eCh, eMt, eMt0, eCall, eIsi, isaD, typeD, isDct, eCntT, eGetX, sPutX, frzV, frzs, val, vals, slD, slDat, cont, setC, isListD, free_eq, isFr_no, isFr_dat, isFr_own, isFr_bor, gN, gT, partsD, iL, iT, iR1, iR2, iEnL, iEnT, iZLL, iZTT, iZTL, iKeysX, iValsX, iItemsX, fI0, fI, fPlus, fCatT, fAddS, fCatL, fRepT, fRepL, fIx, fLen, fAbs, fInt, fTup, fList, fAppend, fExtend, fPop, fPopAt, fMin2, fMax2, fNeg, fIsN, fNotN, isNone, fSum, fSumT, fInX, fIxX, fLenX, r1F, r2F, rgOk, compStep, wipeD, putB, keepD, startS, outsD, outD, mBody, mBodyO, sPar, yNil, yCons, xE, xO, setH, setHs, rdOk, List.set, bind_ite, atI_0, atI_1, atI_2, ixN_0, ixN_1, List.getElem?_cons_zero, eCallB, okL_1, okL_2, okL_3, okL_4, lentS, pinv, frzB, lendB, lent1, List.idxOf?, List.findIdx?, List.findIdx?.go, putS, putS1, oD1X, fEqXE, D, f4]
      rw [e1, Option.bind_some]
      exact seq_to (e_kept2 hal hm f5) hl)
    ⟨[], .no, .no, .no, .no, .no, .no, .no, .no, .no, rfl, rfl, rfl, rfl, ⟨rfl, rfl, rfl, rfl, rfl, rfl, rfl, rfl⟩, rfl, by rw [List.length_range]; simp only [List.length_nil]; omega, fun m h => List.mem_range.mp h⟩
  have hkv : kvs = minF (csL b f s) := hk
  refine mB_rt (δ := (D kvs s4 s5 s6 s7 s8 s9 s10 s11 s12).set 3 (.dat (dicD kvs))) rfl ?_ rfl
  refine seq_to (δ' := D [] .no .no .no .no .no .no .no .no .no) (by simp [sSeq, sAsg, sOwn, sIf, sRet, sRetO, sRetV, sRetN, sDrop, sNext, sCont, sBreak, sAug, sFor, sSetL, eVar, eC, e1, e2, eB, eTup, eO, oB, o2, oLst, oCall, oDict0X, oLc, oLc2, aNil, aCons, tV, tAnd', tOr', tNot', tT', tYesF, truth', truth, eIf, eAnd, eOr, eNot, eCh, eMt, eMt0, eCall, eIsi, isaD, typeD, isDct, eCntT, eGetX, sPutX, frzV, frzs, val, vals, slD, slDat, cont, setC, isListD, free_eq, isFr_no, isFr_dat, isFr_own, isFr_bor, gN, gT, partsD, iL, iT, iR1, iR2, iEnL, iEnT, iZLL, iZTT, iZTL, iKeysX, iValsX, iItemsX, fI0, fI, fPlus, fCatT, fAddS, fCatL, fRepT, fRepL, fIx, fLen, fAbs, fInt, fTup, fList, fAppend, fExtend, fPop, fPopAt, fMin2, fMax2, fNeg, fIsN, fNotN, isNone, fSum, fSumT, fInX, fIxX, fLenX, r1F, r2F, rgOk, compStep, wipeD, putB, keepD, startS, outsD, outD, mBody, mBodyO, sPar, yNil, yCons, xE, xO, setH, setHs, rdOk, List.set, bind_ite, atI_0, atI_1, atI_2, ixN_0, ixN_1, List.getElem?_cons_zero, eCallB, okL_1, okL_2, okL_3, okL_4, lentS, pinv, frzB, lendB, lent1, List.idxOf?, List.findIdx?, List.findIdx?.go, putS, putS1, oD1X, fEqXE, D, dicD]) ?_
  refine seq_to (δ' := D kvs s4 s5 s6 s7 s8 s9 s10 s11 s12) ?_ ?_
  · have cp : CPow 1 s.1.length := by
      have : s.1.length = 0 ∨ s.1.length = 1 ∨ s.1.length = 2 ∨ s.1.length = 3 := by omega
      rcases this with h | h | h | h <;> rw [h] <;> unfold CPow <;> decide
    refine (walk_range (δ' := D [] .no .no .no .no .no .no .no .no .no) (r := .d (.int ((2 ^ s.1.length : Nat) : Int))) (n := ((2 ^ s.1.length : Nat) : Int)) ?_ rfl (Int.le_trans (by decide) (Int.natCast_nonneg _)) (Int.lt_of_le_of_lt (Int.ofNat_le.mpr h2) (by decide))).trans ?_
    · simp only [D, stD, agD]
      simp [sSeq, sAsg, sOwn, sIf, sRet, sRetO, sRetV, sRetN, sDrop, sNext, sCont, sBreak, sAug, sFor, sSetL, eVar, eC, e1, e2, eB, eTup, eO, oB, o2, oLst, oCall, oDict0X, oLc, oLc2, aNil, aCons, tV, tAnd', tOr', tNot', tT', tYesF, truth', truth, eIf, eAnd, eOr, eNot, eCh, eMt, eMt0, eCall, eIsi, isaD, typeD, isDct, eCntT, eGetX, sPutX, frzV, frzs, val, vals, slD, slDat, cont, setC, isListD, free_eq, isFr_no, isFr_dat, isFr_own, isFr_bor, gN, gT, partsD, iL, iT, iR1, iR2, iEnL, iEnT, iZLL, iZTT, iZTL, iKeysX, iValsX, iItemsX, fI0, fI, fPlus, fCatT, fAddS, fCatL, fRepT, fRepL, fIx, fLen, fAbs, fInt, fTup, fList, fAppend, fExtend, fPop, fPopAt, fMin2, fMax2, fNeg, fIsN, fNotN, isNone, fSum, fSumT, fInX, fIxX, fLenX, r1F, r2F, rgOk, compStep, wipeD, putB, keepD, startS, outsD, outD, mBody, mBodyO, sPar, yNil, yCons, xE, xO, setH, setHs, rdOk, List.set, bind_ite, atI_0, atI_1, atI_2, ixN_0, ixN_1, List.getElem?_cons_zero, eCallB, okL_1, okL_2, okL_3, okL_4, lentS, pinv, frzB, lendB, lent1, List.idxOf?, List.findIdx?, List.findIdx?.go, putS, putS1, oD1X, fEqXE, cp]
    · rw [Int.toNat_natCast]
      exact e
  · rw [← hkv]
    simp [sSeq, sAsg, sOwn, sIf, sRet, sRetO, sRetV, sRetN, sDrop, sNext, sCont, sBreak, sAug, sFor, sSetL, eVar, eC, e1, e2, eB, eTup, eO, oB, o2, oLst, oCall, oDict0X, oLc, oLc2, aNil, aCons, tV, tAnd', tOr', tNot', tT', tYesF, truth', truth, eIf, eAnd, eOr, eNot, eCh, eMt, eMt0, eCall, eIsi, isaD, typeD, isDct, eCntT, eGetX, sPutX, frzV, frzs, val, vals, slD, slDat, cont, setC, isListD, free_eq, isFr_no, isFr_dat, isFr_own, isFr_bor, gN, gT, partsD, iL, iT, iR1, iR2, iEnL, iEnT, iZLL, iZTT, iZTL, iKeysX, iValsX, iItemsX, fI0, fI, fPlus, fCatT, fAddS, fCatL, fRepT, fRepL, fIx, fLen, fAbs, fInt, fTup, fList, fAppend, fExtend, fPop, fPopAt, fMin2, fMax2, fNeg, fIsN, fNotN, isNone, fSum, fSumT, fInX, fIxX, fLenX, r1F, r2F, rgOk, compStep, wipeD, putB, keepD, startS, outsD, outD, mBody, mBodyO, sPar, yNil, yCons, xE, xO, setH, setHs, rdOk, List.set, bind_ite, atI_0, atI_1, atI_2, ixN_0, ixN_1, List.getElem?_cons_zero, eCallB, okL_1, okL_2, okL_3, okL_4, lentS, pinv, frzB, lendB, lent1, List.idxOf?, List.findIdx?, List.findIdx?.go, putS, putS1, oD1X, fEqXE, D]
theorem cs_mem {b : List Kd} {f : Int × Int × Int} {s : St} (h1 : 1 ≤ f.2.2) (hs : StOk b f.2.2 s) (p : St × Int) : p ∈ csP b f s ↔ p ∈ csL b f s := by
  have hsub := subsF_iff (a := s.1) (h := f.2.2) hs.len
  unfold csP choP csL csK
  simp only [List.mem_map, List.mem_flatMap, List.mem_range]
  constructor
  · rintro ⟨q, ⟨kept, hk, l, hl, rfl⟩, rfl⟩
    obtain ⟨m, hm, rfl⟩ := (hsub kept).mp hk
    exact ⟨m, hm, l, hl, rfl⟩
  · rintro ⟨m, hm, l, hl, rfl⟩
    exact ⟨_, ⟨mkA s.1 m, (hsub _).mpr ⟨m, hm, rfl⟩, l, hl, rfl⟩, rfl⟩
/-! ### the same, and right -/
inductive Pl : Nat → DT → Prop
  | none (n : Nat) : Pl n .none
  | int (n : Nat) (i : Int) : Pl n (.int i)
  | str (n : Nat) (z : Str) : SeqAt.shaped (.str z) = true → Pl n (.str z)
  | tup (n : Nat) (ds : List DT) : (∀ x ∈ ds, Pl n x) → ds.length ≤ 65536 → Pl (n + 1) (.tuple ds)
theorem zip_self (ds : List DT) : zipF ds ds = ds.map fun d => pairD d d := by
  unfold zipF
  rw [List.zipWith_self]
theorem e_same : ∀ (n : Nat) (d : DT), Pl n d → mR__law_same (n + 1) [d, d] = some (.bool true, [.none, .none])
  | n, _, .none _ => by
    simp [mR__law_same, sSeq, sAsg, sOwn, sIf, sRet, sRetO, sRetV, sRetN, sDrop, sNext, sCont, sBreak, sAug, sFor, sSetL, eVar, eC, e1, e2, eB, eTup, eO, oB, o2, oLst, oCall, oDict0X, oLc, oLc2, aNil, aCons, tV, tAnd', tOr', tNot', tT', tYesF, truth', truth, eIf, eAnd, eOr, eNot, eCh, eMt, eMt0, eCall, eIsi, isaD, typeD, isDct, eCntT, eGetX, sPutX, frzV, frzs, val, vals, slD, slDat, cont, setC, isListD, free_eq, isFr_no, isFr_dat, isFr_own, isFr_bor, gN, gT, partsD, iL, iT, iR1, iR2, iEnL, iEnT, iZLL, iZTT, iZTL, iKeysX, iValsX, iItemsX, fI0, fI, fPlus, fCatT, fAddS, fCatL, fRepT, fRepL, fIx, fLen, fAbs, fInt, fTup, fList, fAppend, fExtend, fPop, fPopAt, fMin2, fMax2, fNeg, fIsN, fNotN, isNone, fSum, fSumT, fInX, fIxX, fLenX, r1F, r2F, rgOk, compStep, wipeD, putB, keepD, startS, outsD, outD, mBody, mBodyO, sPar, yNil, yCons, xE, xO, setH, setHs, rdOk, List.set, bind_ite, atI_0, atI_1, atI_2, ixN_0, ixN_1, List.getElem?_cons_zero, eCallB, okL_1, okL_2, okL_3, okL_4, lentS, pinv, frzB, lendB, lent1, List.idxOf?, List.findIdx?, List.findIdx?.go, putS, putS1, oD1X, fEqXE]
  | n, _, .int _ i => by
    have he : fEq (.int i) (.int i) = some (.bool true) := by
      show some (PyData.bool (PyData.eqv (.int i) (.int i))) = _
      simp [PyData.eqv]
    simp [mR__law_same, sSeq, sAsg, sOwn, sIf, sRet, sRetO, sRetV, sRetN, sDrop, sNext, sCont, sBreak, sAug, sFor, sSetL, eVar, eC, e1, e2, eB, eTup, eO, oB, o2, oLst, oCall, oDict0X, oLc, oLc2, aNil, aCons, tV, tAnd', tOr', tNot', tT', tYesF, truth', truth, eIf, eAnd, eOr, eNot, eCh, eMt, eMt0, eCall, eIsi, isaD, typeD, isDct, eCntT, eGetX, sPutX, frzV, frzs, val, vals, slD, slDat, cont, setC, isListD, free_eq, isFr_no, isFr_dat, isFr_own, isFr_bor, gN, gT, partsD, iL, iT, iR1, iR2, iEnL, iEnT, iZLL, iZTT, iZTL, iKeysX, iValsX, iItemsX, fI0, fI, fPlus, fCatT, fAddS, fCatL, fRepT, fRepL, fIx, fLen, fAbs, fInt, fTup, fList, fAppend, fExtend, fPop, fPopAt, fMin2, fMax2, fNeg, fIsN, fNotN, isNone, fSum, fSumT, fInX, fIxX, fLenX, r1F, r2F, rgOk, compStep, wipeD, putB, keepD, startS, outsD, outD, mBody, mBodyO, sPar, yNil, yCons, xE, xO, setH, setHs, rdOk, List.set, bind_ite, atI_0, atI_1, atI_2, ixN_0, ixN_1, List.getElem?_cons_zero, eCallB, okL_1, okL_2, okL_3, okL_4, lentS, pinv, frzB, lendB, lent1, List.idxOf?, List.findIdx?, List.findIdx?.go, putS, putS1, oD1X, fEqXE, he]
  | n, _, .str _ z h => by
    have he : fEq (.str z) (.str z) = some (.bool true) := by
      unfold fEq
      rw [if_pos ⟨h, h⟩]
      simp [PyData.eqv]
    simp [mR__law_same, sSeq, sAsg, sOwn, sIf, sRet, sRetO, sRetV, sRetN, sDrop, sNext, sCont, sBreak, sAug, sFor, sSetL, eVar, eC, e1, e2, eB, eTup, eO, oB, o2, oLst, oCall, oDict0X, oLc, oLc2, aNil, aCons, tV, tAnd', tOr', tNot', tT', tYesF, truth', truth, eIf, eAnd, eOr, eNot, eCh, eMt, eMt0, eCall, eIsi, isaD, typeD, isDct, eCntT, eGetX, sPutX, frzV, frzs, val, vals, slD, slDat, cont, setC, isListD, free_eq, isFr_no, isFr_dat, isFr_own, isFr_bor, gN, gT, partsD, iL, iT, iR1, iR2, iEnL, iEnT, iZLL, iZTT, iZTL, iKeysX, iValsX, iItemsX, fI0, fI, fPlus, fCatT, fAddS, fCatL, fRepT, fRepL, fIx, fLen, fAbs, fInt, fTup, fList, fAppend, fExtend, fPop, fPopAt, fMin2, fMax2, fNeg, fIsN, fNotN, isNone, fSum, fSumT, fInX, fIxX, fLenX, r1F, r2F, rgOk, compStep, wipeD, putB, keepD, startS, outsD, outD, mBody, mBodyO, sPar, yNil, yCons, xE, xO, setH, setHs, rdOk, List.set, bind_ite, atI_0, atI_1, atI_2, ixN_0, ixN_1, List.getElem?_cons_zero, eCallB, okL_1, okL_2, okL_3, okL_4, lentS, pinv, frzB, lendB, lent1, List.idxOf?, List.findIdx?, List.findIdx?.go, putS, putS1, oD1X, fEqXE, he]
  | _, _, .tup n ds h hl => by
    have ih : ∀ x ∈ ds, mR__law_same (n + 1) [x, x] = some (.bool true, [.none, .none]) := fun x hx => e_same n x (h x hx)
    have hc := lc_map (enc := fun d : DT => pairD d d) (it := iZTT (eVar 0) (eVar 1)) (vs := [2, 3]) (g := gT [gN 2, gN 3]) (t := tYesF) (e := eCall (mR__law_same (n + 1)) (aCons (eVar 2) (aCons (eVar 3) aNil)))
      (δ := [.dat (.tuple ds), .dat (.tuple ds), .no, .no]) (δ' := [.dat (.tuple ds), .dat (.tuple ds), .no, .no]) (fun _ => .bool true) ds (by rw [← zip_self]; simp [sSeq, sAsg, sOwn, sIf, sRet, sRetO, sRetV, sRetN, sDrop, sNext, sCont, sBreak, sAug, sFor, sSetL, eVar, eC, e1, e2, eB, eTup, eO, oB, o2, oLst, oCall, oDict0X, oLc, oLc2, aNil, aCons, tV, tAnd', tOr', tNot', tT', tYesF, truth', truth, eIf, eAnd, eOr, eNot, eCh, eMt, eMt0, eCall, eIsi, isaD, typeD, isDct, eCntT, eGetX, sPutX, frzV, frzs, val, vals, slD, slDat, cont, setC, isListD, free_eq, isFr_no, isFr_dat, isFr_own, isFr_bor, gN, gT, partsD, iL, iT, iR1, iR2, iEnL, iEnT, iZLL, iZTT, iZTL, iKeysX, iValsX, iItemsX, fI0, fI, fPlus, fCatT, fAddS, fCatL, fRepT, fRepL, fIx, fLen, fAbs, fInt, fTup, fList, fAppend, fExtend, fPop, fPopAt, fMin2, fMax2, fNeg, fIsN, fNotN, isNone, fSum, fSumT, fInX, fIxX, fLenX, r1F, r2F, rgOk, compStep, wipeD, putB, keepD, startS, outsD, outD, mBody, mBodyO, sPar, yNil, yCons, xE, xO, setH, setHs, rdOk, List.set, bind_ite, atI_0, atI_1, atI_2, ixN_0, ixN_1, List.getElem?_cons_zero, eCallB, okL_1, okL_2, okL_3, okL_4, lentS, pinv, frzB, lendB, lent1, List.idxOf?, List.findIdx?, List.findIdx?.go, putS, putS1, oD1X, fEqXE, iZ, eZ, zT]) (fun x hx => by simp [sSeq, sAsg, sOwn, sIf, sRet, sRetO, sRetV, sRetN, sDrop, sNext, sCont, sBreak, sAug, sFor, sSetL, eVar, eC, e1, e2, eB, eTup, eO, oB, o2, oLst, oCall, oDict0X, oLc, oLc2, aNil, aCons, tV, tAnd', tOr', tNot', tT', tYesF, truth', truth, eIf, eAnd, eOr, eNot, eCh, eMt, eMt0, eCall, eIsi, isaD, typeD, isDct, eCntT, eGetX, sPutX, frzV, frzs, val, vals, slD, slDat, cont, setC, isListD, free_eq, isFr_no, isFr_dat, isFr_own, isFr_bor, gN, gT, partsD, iL, iT, iR1, iR2, iEnL, iEnT, iZLL, iZTT, iZTL, iKeysX, iValsX, iItemsX, fI0, fI, fPlus, fCatT, fAddS, fCatL, fRepT, fRepL, fIx, fLen, fAbs, fInt, fTup, fList, fAppend, fExtend, fPop, fPopAt, fMin2, fMax2, fNeg, fIsN, fNotN, isNone, fSum, fSumT, fInX, fIxX, fLenX, r1F, r2F, rgOk, compStep, wipeD, putB, keepD, startS, outsD, outD, mBody, mBodyO, sPar, yNil, yCons, xE, xO, setH, setHs, rdOk, List.set, bind_ite, atI_0, atI_1, atI_2, ixN_0, ixN_1, List.getElem?_cons_zero, eCallB, okL_1, okL_2, okL_3, okL_4, lentS, pinv, frzB, lendB, lent1, List.idxOf?, List.findIdx?, List.findIdx?.go, putS, putS1, oD1X, fEqXE, ih x hx]) (by rw [sizeLine_eq]; omega)
    have hall : fAll [.list (ds.map fun _ => PyData.bool true)] = some (.bool true) := by
      have : (ds.map fun _ => PyData.bool true) = (List.replicate ds.length true).map PyData.bool := by
        rw [List.map_replicate, List.map_const']
      rw [this]
      show (boolsD ((List.replicate ds.length true).map PyData.bool)).map (fun bs => PyData.bool (bs.all id)) = _
      rw [boolsD_of]
      simp
    have hne : fNe (.int (ds.length : Nat)) (.int (ds.length : Nat)) = some (.bool false) := by
      show some (PyData.bool (!PyData.eqv (.int (ds.length : Nat)) (.int (ds.length : Nat)))) = _
      simp [PyData.eqv]
    rw [mR__law_same]
    simp [sSeq, sAsg, sOwn, sIf, sRet, sRetO, sRetV, sRetN, sDrop, sNext, sCont, sBreak, sAug, sSetL, eVar, eC, e1, e2, eB, eTup, eO, oB, o2, oLst, oCall, oDict0X, aNil, aCons, tV, tAnd', tOr', tNot', tT', tYesF, truth', truth, eIf, eAnd, eOr, eNot, eCh, eMt, eMt0, eIsi, isaD, typeD, isDct, eCntT, eGetX, sPutX, frzV, frzs, val, vals, slD, slDat, cont, setC, isListD, free_eq, isFr_no, isFr_dat, isFr_own, isFr_bor, gN, gT, partsD, iL, iT, iR1, iR2, iEnL, iEnT, iZLL, iZTT, iZTL, iKeysX, iValsX, iItemsX, fI0, fI, fPlus, fCatT, fAddS, fCatL, fRepT, fRepL, fIx, fLen, fAbs, fInt, fTup, fList, fAppend, fExtend, fPop, fPopAt, fMin2, fMax2, fNeg, fIsN, fNotN, isNone, fSum, fSumT, fInX, fIxX, fLenX, r1F, r2F, rgOk, wipeD, putB, keepD, startS, outsD, outD, mBody, mBodyO, sPar, yNil, yCons, xE, xO, setH, setHs, rdOk, List.set, bind_ite, atI_0, atI_1, atI_2, ixN_0, ixN_1, List.getElem?_cons_zero, okL_1, okL_2, okL_3, okL_4, lentS, pinv, frzB, lendB, lent1, List.idxOf?, List.findIdx?, List.findIdx?.go, putS, putS1, oD1X, fEqXE, hc, hall, hne]
/-! ### the states that come -/
theorem lots_le {room : Int} : ∀ (ms : Mny) (ch : List Lot), ∀ l ∈ ms.foldl (lotStep room) ch, ∃ l0 ∈ ch, ∃ r : Lot, l = l0 ++ r ∧ r.length = ms.length ∧ ∀ p ∈ List.zip ms r, ∀ x, p.1 = some x → 0 ≤ x → ((p.2 : Nat) : Int) ≤ x
  | [], ch, l, h => ⟨l, h, [], by simp, rfl, fun p hp => by cases hp⟩
  | m :: ms, ch, l, h => by
    rw [List.foldl_cons] at h
    obtain ⟨l1, h1, r, rfl, h2, h3⟩ := lots_le ms _ l h
    unfold lotStep at h1
    obtain ⟨l0, h4, h5⟩ := List.mem_flatMap.mp h1
    obtain ⟨c, h6, rfl⟩ := List.mem_map.mp h5
    have h7 := List.mem_range.mp h6
    refine ⟨l0, h4, c :: r, by simp, by rw [List.length_cons, h2, List.length_cons], fun p hp x hx x0 => ?_⟩
    rw [List.zip_cons_cons] at hp
    rcases List.mem_cons.mp hp with rfl | hp
    · subst hx
      have h8 : c < (min x (room - (l0.sum : Nat)) + 1).toNat := h7
      have h9 := Int.min_le_left x (room - (l0.sum : Nat))
      show (c : Int) ≤ x
      omega
    · exact h3 p hp x hx x0
theorem rest_ok {ms : Mny} {room : Int} {l : Lot} (hm : ManysOk ms) (h : l ∈ lotsF ms room) : ManysOk (restL ms l) := by
  obtain ⟨l0, h1, r, rfl, h2, h3⟩ := lots_le ms [[]] l h
  cases List.mem_singleton.mp h1
  rw [List.nil_append]
  refine ⟨?_, fun m hmem x hx => ?_⟩
  · unfold restL
    rw [List.length_zipWith]
    have := hm.1
    omega
  · unfold restL at hmem
    have ez : List.zipWith (fun m c => Option.map (fun x => x - ((c : Nat) : Int)) m) ms r = (List.zip ms r).map (fun p : Option Int × Nat => p.1.map fun x => x - ((p.2 : Nat) : Int)) := by
      rw [List.zip, List.map_zipWith]
    rw [ez] at hmem
    obtain ⟨⟨m0, c⟩, hp, rfl⟩ := List.mem_map.mp hmem
    have hx' : m0.map (fun x => x - (c : Int)) = some x := hx
    obtain ⟨x0, rfl, rfl⟩ := Option.map_eq_some_iff.mp hx'
    have hmm := (List.of_mem_zip hp).1
    have h4 := hm.2 _ hmm x0 rfl
    have h5 := h3 _ hp x0 rfl h4.1
    have h5 : (c : Int) ≤ x0 := h5
    omega
theorem come_ok {b : List Kd} {f : Int × Int × Int} {s : St} (h1 : 1 ≤ f.2.2) (hs : StOk b f.2.2 s) {p : St × Int} (hp : p ∈ csP b f s) : StOk b f.2.2 p.1 := by
  obtain ⟨q, hq, rfl⟩ := List.mem_map.mp hp
  obtain ⟨kept, hk, hq⟩ := List.mem_flatMap.mp hq
  obtain ⟨l, hl, rfl⟩ := List.mem_map.mp hq
  have hl := (List.mem_filter.mp hl).1
  obtain ⟨q1, q2⟩ := subs_sub f.2.2 (by omega) s.1 [[]] (fun t ht => by cases List.mem_singleton.mp ht; exact by show ((0 : Nat) : Int) ≤ _; omega) kept hk
  have hkk : KindIn b kept := fun p hp => by
    rcases q2 p hp with h | ⟨t, ht, hpt⟩
    · exact hs.kin p h
    · cases List.mem_singleton.mp ht
      cases hpt
  obtain ⟨l0, hl0, hl1, hl2⟩ := lots_mem s.2 [[]] l hl
  cases List.mem_singleton.mp hl0
  have hll : l.length = s.2.length := by rw [hl1]; simp
  have hsum := hl2 (by show ((0 : Nat) : Int) ≤ _; omega)
  have hrk := run_kind hkk (hll.trans hs.rest)
  have hlen : ((runOf kept l).length : Int) ≤ f.2.2 := by
    unfold runOf
    rw [List.length_append, List.length_map, expF_len]
    omega
  have hperm := sorted_perm (older b (runOf kept l))
  refine ⟨fun p hp => ?_, ?_, ?_, rest_ok hs.many hl⟩
  · have hp : p ∈ older b (runOf kept l) := hperm.mem_iff.mp hp
    unfold older at hp
    obtain ⟨q, hq, rfl⟩ := List.mem_map.mp hp
    exact hrk q (List.mem_filter.mp hq).1
  · show ((sorted (older b (runOf kept l))).length : Int) ≤ _
    rw [hperm.length_eq]
    unfold older
    rw [List.length_map]
    have := List.length_filter_le (fun p => decide (p.2 + 1 < lenW (wspAt b p.1))) (runOf kept l)
    omega
  · show (restL s.2 l).length = _
    unfold restL
    rw [List.length_zipWith, hll, ← hs.rest]
    omega
theorem pl_st {s : St} (h1 : s.1.length ≤ 100) (h2 : s.2.length ≤ 100) (n : Nat) : Pl (n + 3) (stD s) := by
  refine .tup _ _ (fun x hx => ?_) (by show 2 ≤ 65536; decide)
  rcases List.mem_cons.mp hx with rfl | hx
  · refine .tup _ _ (fun x hx => ?_) (by rw [List.length_map]; omega)
    obtain ⟨p, _, rfl⟩ := List.mem_map.mp hx
    refine .tup _ _ (fun x hx => ?_) (by show 2 ≤ 65536; decide)
    rcases List.mem_cons.mp hx with rfl | hx
    · exact .int _ _
    · cases List.mem_singleton.mp hx
      exact .int _ _
  · cases List.mem_singleton.mp hx
    refine .tup _ _ (fun x hx => ?_) (by rw [List.length_map]; omega)
    obtain ⟨m, _, rfl⟩ := List.mem_map.mp hx
    cases m with
    | none => exact .none _
    | some i => exact .int _ _
theorem minF_len {b : List Kd} {f : Int × Int × Int} {s : St} (h1 : 1 ≤ f.2.2) (h3 : f.2.2 ≤ 3) (hs : StOk b f.2.2 s) : (minF (csP b f s)).length ≤ 2048 := by
  have := fold_len (csP b f s) []
  have h2 := choP_len (b := b) h1 h3 hs
  have h4 : (csP b f s).length = (choP b f s).length := List.length_map _
  simp only [List.length_nil] at this
  have h5 : (minF (csP b f s)).length = ((csP b f s).foldl addMin []).length := rfl
  omega
theorem e_first {b : List Kd} (hb : BskOk b) : m__law_first [bskD b] = some (stD ([], b.map (·.2)), [.none]) := by
  have h := lc_map (enc := kindD) (it := iT (eVar 0)) (vs := [1, 2]) (g := gT [gN 1, gN 2]) (t := tYesF) (e := eVar 2) (δ := [.dat (bskD b), .no, .no]) (δ' := [.dat (bskD b), .no, .no]) (fun k => optD k.2) b (by simp [sSeq, sAsg, sOwn, sIf, sRet, sRetO, sRetV, sRetN, sDrop, sNext, sCont, sBreak, sAug, sFor, sSetL, eVar, eC, e1, e2, eB, eTup, eO, oB, o2, oLst, oCall, oDict0X, oLc, oLc2, aNil, aCons, tV, tAnd', tOr', tNot', tT', tYesF, truth', truth, eIf, eAnd, eOr, eNot, eCh, eMt, eMt0, eCall, eIsi, isaD, typeD, isDct, eCntT, eGetX, sPutX, frzV, frzs, val, vals, slD, slDat, cont, setC, isListD, free_eq, isFr_no, isFr_dat, isFr_own, isFr_bor, gN, gT, partsD, iL, iT, iR1, iR2, iEnL, iEnT, iZLL, iZTT, iZTL, iKeysX, iValsX, iItemsX, fI0, fI, fPlus, fCatT, fAddS, fCatL, fRepT, fRepL, fIx, fLen, fAbs, fInt, fTup, fList, fAppend, fExtend, fPop, fPopAt, fMin2, fMax2, fNeg, fIsN, fNotN, isNone, fSum, fSumT, fInX, fIxX, fLenX, r1F, r2F, rgOk, compStep, wipeD, putB, keepD, startS, outsD, outD, mBody, mBodyO, sPar, yNil, yCons, xE, xO, setH, setHs, rdOk, List.set, bind_ite, atI_0, atI_1, atI_2, ixN_0, ixN_1, List.getElem?_cons_zero, eCallB, okL_1, okL_2, okL_3, okL_4, lentS, pinv, frzB, lendB, lent1, List.idxOf?, List.findIdx?, List.findIdx?.go, putS, putS1, oD1X, fEqXE, bskD]) (fun k _ => by simp [sSeq, sAsg, sOwn, sIf, sRet, sRetO, sRetV, sRetN, sDrop, sNext, sCont, sBreak, sAug, sFor, sSetL, eVar, eC, e1, e2, eB, eTup, eO, oB, o2, oLst, oCall, oDict0X, oLc, oLc2, aNil, aCons, tV, tAnd', tOr', tNot', tT', tYesF, truth', truth, eIf, eAnd, eOr, eNot, eCh, eMt, eMt0, eCall, eIsi, isaD, typeD, isDct, eCntT, eGetX, sPutX, frzV, frzs, val, vals, slD, slDat, cont, setC, isListD, free_eq, isFr_no, isFr_dat, isFr_own, isFr_bor, gN, gT, partsD, iL, iT, iR1, iR2, iEnL, iEnT, iZLL, iZTT, iZTL, iKeysX, iValsX, iItemsX, fI0, fI, fPlus, fCatT, fAddS, fCatL, fRepT, fRepL, fIx, fLen, fAbs, fInt, fTup, fList, fAppend, fExtend, fPop, fPopAt, fMin2, fMax2, fNeg, fIsN, fNotN, isNone, fSum, fSumT, fInX, fIxX, fLenX, r1F, r2F, rgOk, compStep, wipeD, putB, keepD, startS, outsD, outD, mBody, mBodyO, sPar, yNil, yCons, xE, xO, setH, setHs, rdOk, List.set, bind_ite, atI_0, atI_1, atI_2, ixN_0, ixN_1, List.getElem?_cons_zero, eCallB, okL_1, okL_2, okL_3, okL_4, lentS, pinv, frzB, lendB, lent1, List.idxOf?, List.findIdx?, List.findIdx?.go, putS, putS1, oD1X, fEqXE, kindD]) (by have := hb.len; rw [sizeLine_eq]; omega)
  refine m_ret (δ := [.dat (bskD b), .no, .no]) rfl ?_ rfl
  simp [sSeq, sAsg, sOwn, sIf, sRet, sRetO, sRetV, sRetN, sDrop, sNext, sCont, sBreak, sAug, sSetL, eVar, eC, e1, e2, eB, eTup, eO, oB, o2, oLst, oCall, oDict0X, aNil, aCons, tV, tAnd', tOr', tNot', tT', tYesF, truth', truth, eIf, eAnd, eOr, eNot, eCh, eMt, eMt0, eIsi, isaD, typeD, isDct, eCntT, eGetX, sPutX, frzV, frzs, val, vals, slD, slDat, cont, setC, isListD, free_eq, isFr_no, isFr_dat, isFr_own, isFr_bor, gN, gT, partsD, iL, iT, iR1, iR2, iEnL, iEnT, iZLL, iZTT, iZTL, iKeysX, iValsX, iItemsX, fI0, fI, fPlus, fCatT, fAddS, fCatL, fRepT, fRepL, fIx, fLen, fAbs, fInt, fTup, fList, fAppend, fExtend, fPop, fPopAt, fMin2, fMax2, fNeg, fIsN, fNotN, isNone, fSum, fSumT, fInX, fIxX, fLenX, r1F, r2F, rgOk, wipeD, putB, keepD, startS, outsD, outD, mBody, mBodyO, sPar, yNil, yCons, xE, xO, setH, setHs, rdOk, List.set, bind_ite, atI_0, atI_1, atI_2, ixN_0, ixN_1, List.getElem?_cons_zero, okL_1, okL_2, okL_3, okL_4, lentS, pinv, frzB, lendB, lent1, List.idxOf?, List.findIdx?, List.findIdx?.go, putS, putS1, oD1X, fEqXE, h, stD, agD, mnD, sizeLine_eq]
theorem first_ok {b : List Kd} {h : Int} (hb : BskOk b) (h1 : 1 ≤ h) : StOk b h ([], b.map (·.2)) := by
  refine ⟨fun p hp => (by cases hp), (by show ((0 : Nat) : Int) ≤ h; omega), List.length_map _, by rw [List.length_map]; exact hb.len, fun m hm x hx => ?_⟩
  obtain ⟨k, hk, rfl⟩ := List.mem_map.mp hm
  exact (hb.ok k hk).2 x hx
/-! ### a level from the one ahead -/
theorem its_list : ∀ l : List DT, (∀ d ∈ l, ∃ p : St × Int, d = itD p) → ∃ kvs : Kv, l = kvs.map itD
  | [], _ => ⟨[], rfl⟩
  | d :: r, h => by
    obtain ⟨x, rfl⟩ := h d List.mem_cons_self
    obtain ⟨ss, rfl⟩ := its_list r fun x m => h x (List.mem_cons_of_mem _ m)
    exact ⟨x :: ss, rfl⟩
theorem itD_inj {p q : St × Int} (h : itD p = itD q) : p = q := by
  simp only [itD, PyData.tuple.injEq, List.cons.injEq, PyData.int.injEq, and_true] at h
  have h1 := nk_st p.1
  rw [h.1, nk_st q.1] at h1
  exact Prod.ext (nkS_inj (Option.some.inj h1)).symm h.2
open Classical in
noncomputable def unI (d : DT) : St × Int := if h : ∃ p, d = itD p then h.choose else (([], []), 0)
theorem unI_it : unI ∘ itD = id := funext fun p => by
  have h : ∃ q, itD p = itD q := ⟨p, rfl⟩
  show unI (itD p) = p
  unfold unI
  rw [dif_pos h]
  exact (itD_inj h.choose_spec).symm
theorem sort_kv (kvs : Kv) : ∃ k' : Kv, k'.Perm kvs ∧ sortD (kvs.map itD) = k'.map itD := by
  have hp := sort_perm (kvs.map itD)
  obtain ⟨k', hk⟩ := its_list (sortD (kvs.map itD)) fun d hd => by
    obtain ⟨p, _, rfl⟩ := List.mem_map.mp (hp.mem_iff.mp hd)
    exact ⟨p, rfl⟩
  refine ⟨k', ?_, hk⟩
  rw [hk] at hp
  have h := hp.map unI
  rw [List.map_map, List.map_map, unI_it, List.map_id, List.map_id] at h
  exact h
noncomputable def sortKv (kvs : Kv) : Kv := (sort_kv kvs).choose
theorem sortKv_perm (kvs : Kv) : (sortKv kvs).Perm kvs := (sort_kv kvs).choose_spec.1
theorem sortKv_eq (kvs : Kv) : sortD (kvs.map itD) = (sortKv kvs).map itD := (sort_kv kvs).choose_spec.2
noncomputable def stepsK (b : List Kd) (f : Int × Int × Int) (s : St) : Kv := sortKv (minF (csP b f s))
def farther (n : Int) (st : Kv) : List (St × Int) := st.map fun c => (c.1, n + c.2)
noncomputable def csN (b : List Kd) (f : Int × Int × Int) (lv : Kv) : List (St × Int) := lv.flatMap fun p => farther p.2 (stepsK b f p.1)
theorem fold_ge : ∀ (cs : List (St × Int)) (kvs : Kv), kvs.length ≤ (cs.foldl addMin kvs).length
  | [], kvs => Nat.le_refl _
  | c :: r, kvs => by
    rw [List.foldl_cons]
    refine Nat.le_trans ?_ (fold_ge r _)
    unfold addMin putSt
    split
    · rw [List.length_map]; exact Nat.le_refl _
    · rw [List.length_append]; omega
theorem fold_pat {pat : List Bool} : ∀ (cs : List (St × Int)) (kvs : Kv), (∀ p ∈ kvs, p.1.2.map Option.isSome = pat) → (∀ p ∈ cs, p.1.2.map Option.isSome = pat) → ∀ p ∈ cs.foldl addMin kvs, p.1.2.map Option.isSome = pat
  | [], kvs, h, _ => h
  | c :: r, kvs, h, hc => by
    rw [List.foldl_cons]
    refine fold_pat r _ (fun p hp => ?_) fun p hp => hc p (List.mem_cons_of_mem _ hp)
    unfold addMin putSt at hp
    split at hp
    · obtain ⟨q, hq, rfl⟩ := List.mem_map.mp hp
      split
      · exact h q hq
      · exact h q hq
    · rcases List.mem_append.mp hp with hp | hp
      · exact h p hp
      · cases List.mem_singleton.mp hp
        exact hc c List.mem_cons_self
/-- all that one state leads to is put -/
theorem e_further {b : List Kd} {f : Int × Int × Int} {s : St} {n room : Int} {kvs : Kv} {d2 : DT} {s7 s8 : Sl} (hb : BskOk b) (h1 : 1 ≤ f.2.2) (h3 : f.2.2 ≤ 3) (hs : StOk b f.2.2 s) (hn : kvs.length ≤ 1000000) (f7 : isFr s7 = true) (f8 : isFr s8 = true) :
    ∃ t7 t8 : Sl, isFr t7 = true ∧ isFr t8 = true ∧ sFor (iT (eCall m_steps_of (aCons (eVar 0) (aCons (eVar 1) (aCons (eVar 5) aNil))))) (gT [(gN 7), (gN 8)])
      (sPutX 4 (eVar 7) (eB fMin2 (aCons (e2 fPlus (eVar 6) (eVar 8)) (aCons (eGetX (eVar 4) (eVar 7) (e2 fPlus (eVar 6) (eVar 8))) aNil))))
      [.dat (bskD b), .dat (frD f), .dat d2, .dat (.int room), .own (dicD kvs), .dat (stD s), .dat (.int n), s7, s8]
      = some (.nx [.dat (bskD b), .dat (frD f), .dat d2, .dat (.int room), .own (dicD ((farther n (stepsK b f s)).foldl addMin kvs)), .dat (stD s), .dat (.int n), t7, t8]) := by
  have hst := e_steps hb h1 h3 hs
  rw [sortKv_eq] at hst
  have hlen : (stepsK b f s).length ≤ 2048 := by
    have := minF_len (b := b) h1 h3 hs
    unfold stepsK
    rw [(sortKv_perm _).length_eq]
    exact this
  let D (kvs : Kv) (s7 s8 : Sl) : DS := [.dat (bskD b), .dat (frD f), .dat d2, .dat (.int room), .own (dicD kvs), .dat (stD s), .dat (.int n), s7, s8]
  obtain ⟨δ', e, kvs', t7, t8, rfl, g7, g8, hk, _⟩ := loop_all (enc := itD) (g := gT [gN 7, gN 8]) (b := sPutX 4 (eVar 7) (eB fMin2 (aCons (e2 fPlus (eVar 6) (eVar 8)) (aCons (eGetX (eVar 4) (eVar 7) (e2 fPlus (eVar 6) (eVar 8))) aNil)))) (stepsK b f s)
    (fun r δ => ∃ (kvs' : Kv) (t7 t8 : Sl), δ = D kvs' t7 t8 ∧ isFr t7 = true ∧ isFr t8 = true ∧ (farther n r).foldl addMin kvs' = (farther n (stepsK b f s)).foldl addMin kvs ∧ kvs'.length + r.length ≤ 1002048)
    (D kvs s7 s8)
    (by
      rintro ⟨k, m⟩ r δ ⟨kvs', t7, t8, rfl, g7, g8, hk, hl⟩
      rw [List.length_cons] at hl
      have hz : kvs'.length < 16777216 := by omega
      have hg := get_st kvs' k (n + m)
      have hp := put_st kvs' k (minI (n + m) (getS kvs' k (n + m)))
      have hky := key_st k
      unfold minI at hp
      refine ⟨_, ?_, addMin kvs' (k, n + m), .dat (stD k), .dat (.int m), rfl, rfl, rfl, hk, by have := addMin_len kvs' (k, n + m); omega⟩
      simp only [D, dicD, mkX, addMin, minI, itD]
      simp [sSeq, sAsg, sOwn, sIf, sRet, sRetO, sRetV, sRetN, sDrop, sNext, sCont, sBreak, sAug, sFor, sSetL, eVar, eC, e1, e2, eB, eTup, eO, oB, o2, oLst, oCall, oDict0X, oLc, oLc2, aNil, aCons, tV, tAnd', tOr', tNot', tT', tYesF, truth', truth, eIf, eAnd, eOr, eNot, eCh, eMt, eMt0, eCall, eIsi, isaD, typeD, isDct, eCntT, eGetX, sPutX, frzV, frzs, val, vals, slD, slDat, cont, setC, isListD, free_eq, isFr_no, isFr_dat, isFr_own, isFr_bor, gN, gT, partsD, iL, iT, iR1, iR2, iEnL, iEnT, iZLL, iZTT, iZTL, iKeysX, iValsX, iItemsX, fI0, fI, fPlus, fCatT, fAddS, fCatL, fRepT, fRepL, fIx, fLen, fAbs, fInt, fTup, fList, fAppend, fExtend, fPop, fPopAt, fMin2, fMax2, fNeg, fIsN, fNotN, isNone, fSum, fSumT, fInX, fIxX, fLenX, r1F, r2F, rgOk, compStep, wipeD, putB, keepD, startS, outsD, outD, mBody, mBodyO, sPar, yNil, yCons, xE, xO, setH, setHs, rdOk, List.set, bind_ite, atI_0, atI_1, atI_2, ixN_0, ixN_1, List.getElem?_cons_zero, eCallB, okL_1, okL_2, okL_3, okL_4, lentS, pinv, frzB, lendB, lent1, List.idxOf?, List.findIdx?, List.findIdx?.go, putS, putS1, oD1X, fEqXE, g7, g8, dX, hky, hg, mkX, sizeLine_eq, hz]
      exact hp)
    ⟨kvs, s7, s8, rfl, f7, f8, rfl, by omega⟩
  refine ⟨t7, t8, g7, g8, ?_⟩
  have hk' : kvs' = (farther n (stepsK b f s)).foldl addMin kvs := hk
  rw [← hk']
  have ei : iT (eCall m_steps_of (aCons (eVar 0) (aCons (eVar 1) (aCons (eVar 5) aNil)))) (D kvs s7 s8) = some ((stepsK b f s).map itD, D kvs s7 s8) := by
    simp only [D]
    simp [sSeq, sAsg, sOwn, sIf, sRet, sRetO, sRetV, sRetN, sDrop, sNext, sCont, sBreak, sAug, sFor, sSetL, eVar, eC, e1, e2, eB, eTup, eO, oB, o2, oLst, oCall, oDict0X, oLc, oLc2, aNil, aCons, tV, tAnd', tOr', tNot', tT', tYesF, truth', truth, eIf, eAnd, eOr, eNot, eCh, eMt, eMt0, eCall, eIsi, isaD, typeD, isDct, eCntT, eGetX, sPutX, frzV, frzs, val, vals, slD, slDat, cont, setC, isListD, free_eq, isFr_no, isFr_dat, isFr_own, isFr_bor, gN, gT, partsD, iL, iT, iR1, iR2, iEnL, iEnT, iZLL, iZTT, iZTL, iKeysX, iValsX, iItemsX, fI0, fI, fPlus, fCatT, fAddS, fCatL, fRepT, fRepL, fIx, fLen, fAbs, fInt, fTup, fList, fAppend, fExtend, fPop, fPopAt, fMin2, fMax2, fNeg, fIsN, fNotN, isNone, fSum, fSumT, fInX, fIxX, fLenX, r1F, r2F, rgOk, compStep, wipeD, putB, keepD, startS, outsD, outD, mBody, mBodyO, sPar, yNil, yCons, xE, xO, setH, setHs, rdOk, List.set, bind_ite, atI_0, atI_1, atI_2, ixN_0, ixN_1, List.getElem?_cons_zero, eCallB, okL_1, okL_2, okL_3, okL_4, lentS, pinv, frzB, lendB, lent1, List.idxOf?, List.findIdx?, List.findIdx?.go, putS, putS1, oD1X, fEqXE, hst, stepsK]
  show sFor _ _ _ (D kvs s7 s8) = _
  unfold sFor
  rw [ei]
  exact e
/-! ### the next level -/
theorem farther_pat {b : List Kd} {f : Int × Int × Int} {s : St} {n : Int} {pat : List Bool} (h : s.2.map Option.isSome = pat) : ∀ p ∈ farther n (stepsK b f s), p.1.2.map Option.isSome = pat := fun p hp => by
  obtain ⟨q, hq, rfl⟩ := List.mem_map.mp hp
  have h2 : q ∈ minF (csP b f s) := (sortKv_perm _).mem_iff.mp hq
  exact (csP_pat q ((minF_of _).sub q h2)).trans h
theorem e_nextLevel {b : List Kd} {f : Int × Int × Int} {lv : Kv} {room : Int} {pat : List Bool} (hb : BskOk b) (h1 : 1 ≤ f.2.2) (h3 : f.2.2 ≤ 3) (hlv : ∀ p ∈ lv, StOk b f.2.2 p.1 ∧ p.1.2.map Option.isSome = pat) (r0 : 0 ≤ room) (r1 : room ≤ 1000) :
    ∃ ys : List DT, m_next_level [bskD b, frD f, .tuple (lv.map itD), .int room] = some (.tuple ys, [.none, .none, .none, .none]) ∧ (((minF (csN b f lv)).length : Int) ≤ room → ys = sortD ((minF (csN b f lv)).map itD)) ∧ (room < ((minF (csN b f lv)).length : Int) → room < (ys.length : Int)) := by
  let D (kvs : Kv) (s5 s6 s7 s8 : Sl) : DS := [.dat (bskD b), .dat (frD f), .dat (.tuple (lv.map itD)), .dat (.int room), .own (dicD kvs), s5, s6, s7, s8]
  obtain ⟨o, e, he⟩ := loop_to (enc := itD) (g := gT [gN 5, gN 6]) (b := sSeq (sFor (iT (eCall m_steps_of (aCons (eVar 0) (aCons (eVar 1) (aCons (eVar 5) aNil))))) (gT [(gN 7), (gN 8)])
    (sPutX 4 (eVar 7) (eB fMin2 (aCons (e2 fPlus (eVar 6) (eVar 8)) (aCons (eGetX (eVar 4) (eVar 7) (e2 fPlus (eVar 6) (eVar 8))) aNil)))))
    (sIf (tV (e2 fGt (eB fLenX (aCons (eVar 4) aNil)) (eVar 3)))
    sBreak
    sNext)) (B := fun δ => ∃ (kvs : Kv) (s5 s6 s7 s8 : Sl), δ = D kvs s5 s6 s7 s8 ∧ room < (kvs.length : Int) ∧ kvs.length ≤ (minF (csN b f lv)).length ∧ kvs.length ≤ 4000 ∧ ∀ p ∈ kvs, p.1.2.map Option.isSome = pat) (R := fun _ _ => False) lv
    (fun r δ => ∃ (kvs : Kv) (s5 s6 s7 s8 : Sl), δ = D kvs s5 s6 s7 s8 ∧ isFr s5 = true ∧ isFr s6 = true ∧ isFr s7 = true ∧ isFr s8 = true ∧ (csN b f r).foldl addMin kvs = minF (csN b f lv) ∧ (kvs.length : Int) ≤ room ∧ (∀ p ∈ kvs, p.1.2.map Option.isSome = pat) ∧ ∀ p ∈ r, p ∈ lv)
    (D [] .no .no .no .no)
    (by
      rintro ⟨s, n⟩ r δ ⟨kvs, s5, s6, s7, s8, rfl, f5, f6, f7, f8, hk, hl, hp, hr⟩
      obtain ⟨hs, hsp⟩ := hlv _ (hr _ List.mem_cons_self)
      have hcs : csN b f ((s, n) :: r) = farther n (stepsK b f s) ++ csN b f r := rfl
      rw [hcs, List.foldl_append] at hk
      obtain ⟨t7, t8, g7, g8, hf⟩ := e_further (n := n) (room := room) (kvs := kvs) (d2 := .tuple (lv.map itD)) hb h1 h3 hs (by omega) f7 f8
      have hfl := fold_len (farther n (stepsK b f s)) kvs
      have hsl : (farther n (stepsK b f s)).length ≤ 2048 := by
        unfold farther stepsK
        rw [List.length_map, (sortKv_perm _).length_eq]
        exact minF_len h1 h3 hs
      have hpat := fold_pat (farther n (stepsK b f s)) kvs hp (farther_pat hsp)
      have hge := fold_ge (csN b f r) ((farther n (stepsK b f s)).foldl addMin kvs)
      rw [hk] at hge
      generalize (farther n (stepsK b f s)).foldl addMin kvs = kv2 at hk hf hfl hpat hge
      have e1 : gT [gN 5, gN 6] (itD (s, n)) (D kvs s5 s6 s7 s8) = some (D kvs (.dat (stD s)) (.dat (.int n)) s7 s8) := by simp [sSeq, sAsg, sOwn, sIf, sRet, sRetO, sRetV, sRetN, sDrop, sNext, sCont, sBreak, sAug, sFor, sSetL, eVar, eC, e1, e2, eB, eTup, eO, oB, o2, oLst, oCall, oDict0X, oLc, oLc2, aNil, aCons, tV, tAnd', tOr', tNot', tT', tYesF, truth', truth, eIf, eAnd, eOr, eNot, eCh, eMt, eMt0, eCall, eIsi, isaD, typeD, isDct, eCntT, eGetX, sPutX, frzV, frzs, val, vals, slD, slDat, cont, setC, isListD, free_eq, isFr_no, isFr_dat, isFr_own, isFr_bor, gN, gT, partsD, iL, iT, iR1, iR2, iEnL, iEnT, iZLL, iZTT, iZTL, iKeysX, iValsX, iItemsX, fI0, fI, fPlus, fCatT, fAddS, fCatL, fRepT, fRepL, fIx, fLen, fAbs, fInt, fTup, fList, fAppend, fExtend, fPop, fPopAt, fMin2, fMax2, fNeg, fIsN, fNotN, isNone, fSum, fSumT, fInX, fIxX, fLenX, r1F, r2F, rgOk, compStep, wipeD, putB, keepD, startS, outsD, outD, mBody, mBodyO, sPar, yNil, yCons, xE, xO, setH, setHs, rdOk, List.set, bind_ite, atI_0, atI_1, atI_2, ixN_0, ixN_1, List.getElem?_cons_zero, eCallB, okL_1, okL_2, okL_3, okL_4, lentS, pinv, frzB, lendB, lent1, List.idxOf?, List.findIdx?, List.findIdx?.go, putS, putS1, oD1X, fEqXE, D, itD, f5, f6]
      rw [e1, Option.bind_some]
      by_cases c : room < (kv2.length : Int)
      · refine ⟨.bk (D kv2 (.dat (stD s)) (.dat (.int n)) t7 t8), seq_to hf ?_, kv2, _, _, _, _, rfl, c, hge, by omega, hpat⟩
        simp only [D, dicD, mkX]
        simp [sSeq, sAsg, sOwn, sIf, sRet, sRetO, sRetV, sRetN, sDrop, sNext, sCont, sBreak, sAug, sFor, sSetL, eVar, eC, e1, e2, eB, eTup, eO, oB, o2, oLst, oCall, oDict0X, oLc, oLc2, aNil, aCons, tV, tAnd', tOr', tNot', tT', tYesF, truth', truth, eIf, eAnd, eOr, eNot, eCh, eMt, eMt0, eCall, eIsi, isaD, typeD, isDct, eCntT, eGetX, sPutX, frzV, frzs, val, vals, slD, slDat, cont, setC, isListD, free_eq, isFr_no, isFr_dat, isFr_own, isFr_bor, gN, gT, partsD, iL, iT, iR1, iR2, iEnL, iEnT, iZLL, iZTT, iZTL, iKeysX, iValsX, iItemsX, fI0, fI, fPlus, fCatT, fAddS, fCatL, fRepT, fRepL, fIx, fLen, fAbs, fInt, fTup, fList, fAppend, fExtend, fPop, fPopAt, fMin2, fMax2, fNeg, fIsN, fNotN, isNone, fSum, fSumT, fInX, fIxX, fLenX, r1F, r2F, rgOk, compStep, wipeD, putB, keepD, startS, outsD, outD, mBody, mBodyO, sPar, yNil, yCons, xE, xO, setH, setHs, rdOk, List.set, bind_ite, atI_0, atI_1, atI_2, ixN_0, ixN_1, List.getElem?_cons_zero, eCallB, okL_1, okL_2, okL_3, okL_4, lentS, pinv, frzB, lendB, lent1, List.idxOf?, List.findIdx?, List.findIdx?.go, putS, putS1, oD1X, fEqXE, sBreak, dX, c]
      · refine ⟨.nx (D kv2 (.dat (stD s)) (.dat (.int n)) t7 t8), seq_to hf ?_, kv2, _, _, _, _, rfl, rfl, rfl, g7, g8, hk, by omega, hpat, fun p h => hr p (List.mem_cons_of_mem _ h)⟩
        simp only [D, dicD, mkX]
        simp [sSeq, sAsg, sOwn, sIf, sRet, sRetO, sRetV, sRetN, sDrop, sNext, sCont, sBreak, sAug, sFor, sSetL, eVar, eC, e1, e2, eB, eTup, eO, oB, o2, oLst, oCall, oDict0X, oLc, oLc2, aNil, aCons, tV, tAnd', tOr', tNot', tT', tYesF, truth', truth, eIf, eAnd, eOr, eNot, eCh, eMt, eMt0, eCall, eIsi, isaD, typeD, isDct, eCntT, eGetX, sPutX, frzV, frzs, val, vals, slD, slDat, cont, setC, isListD, free_eq, isFr_no, isFr_dat, isFr_own, isFr_bor, gN, gT, partsD, iL, iT, iR1, iR2, iEnL, iEnT, iZLL, iZTT, iZTL, iKeysX, iValsX, iItemsX, fI0, fI, fPlus, fCatT, fAddS, fCatL, fRepT, fRepL, fIx, fLen, fAbs, fInt, fTup, fList, fAppend, fExtend, fPop, fPopAt, fMin2, fMax2, fNeg, fIsN, fNotN, isNone, fSum, fSumT, fInX, fIxX, fLenX, r1F, r2F, rgOk, compStep, wipeD, putB, keepD, startS, outsD, outD, mBody, mBodyO, sPar, yNil, yCons, xE, xO, setH, setHs, rdOk, List.set, bind_ite, atI_0, atI_1, atI_2, ixN_0, ixN_1, List.getElem?_cons_zero, eCallB, okL_1, okL_2, okL_3, okL_4, lentS, pinv, frzB, lendB, lent1, List.idxOf?, List.findIdx?, List.findIdx?.go, putS, putS1, oD1X, fEqXE, dX, c])
    ⟨[], .no, .no, .no, .no, rfl, rfl, rfl, rfl, rfl, rfl, r0, (fun p h => by cases h), fun p h => h⟩
  cases o with
  | ct δ => exact he.elim
  | bk δ => exact he.elim
  | rt x δ => exact he.elim
  | ro x δ => exact he.elim
  | nx δ =>
    have fin : ∃ (kvs : Kv) (s5 s6 s7 s8 : Sl), δ = D kvs s5 s6 s7 s8 ∧ kvs.length ≤ 4000 ∧ (∀ p ∈ kvs, p.1.2.map Option.isSome = pat) ∧ (((minF (csN b f lv)).length : Int) ≤ room → kvs = minF (csN b f lv)) ∧ (room < ((minF (csN b f lv)).length : Int) → room < (kvs.length : Int)) := by
      rcases he with ⟨kvs, s5, s6, s7, s8, rfl, _, _, _, _, hk, hl, hp, _⟩ | ⟨kvs, s5, s6, s7, s8, rfl, c, hge, h4, hp⟩
      · have hk : kvs = minF (csN b f lv) := hk
        exact ⟨kvs, s5, s6, s7, s8, rfl, by omega, hp, fun _ => hk, fun c => by rw [hk] at hl ⊢; omega⟩
      · exact ⟨kvs, s5, s6, s7, s8, rfl, h4, hp, fun c' => by omega, fun _ => c⟩
    obtain ⟨kvs, s5, s6, s7, s8, rfl, h4, hp, g1, g2⟩ := fin
    have hok := ok_its hp (by rw [sizeLine_eq]; omega)
    refine ⟨sortD (kvs.map itD), ?_, fun c => by rw [g1 c], fun c => by rw [(sort_perm _).length_eq, List.length_map]; exact g2 c⟩
    refine mB_rt (δ := D kvs s5 s6 s7 s8) rfl ?_ rfl
    refine seq_to (δ' := D [] .no .no .no .no) (by simp [sSeq, sAsg, sOwn, sIf, sRet, sRetO, sRetV, sRetN, sDrop, sNext, sCont, sBreak, sAug, sFor, sSetL, eVar, eC, e1, e2, eB, eTup, eO, oB, o2, oLst, oCall, oDict0X, oLc, oLc2, aNil, aCons, tV, tAnd', tOr', tNot', tT', tYesF, truth', truth, eIf, eAnd, eOr, eNot, eCh, eMt, eMt0, eCall, eIsi, isaD, typeD, isDct, eCntT, eGetX, sPutX, frzV, frzs, val, vals, slD, slDat, cont, setC, isListD, free_eq, isFr_no, isFr_dat, isFr_own, isFr_bor, gN, gT, partsD, iL, iT, iR1, iR2, iEnL, iEnT, iZLL, iZTT, iZTL, iKeysX, iValsX, iItemsX, fI0, fI, fPlus, fCatT, fAddS, fCatL, fRepT, fRepL, fIx, fLen, fAbs, fInt, fTup, fList, fAppend, fExtend, fPop, fPopAt, fMin2, fMax2, fNeg, fIsN, fNotN, isNone, fSum, fSumT, fInX, fIxX, fLenX, r1F, r2F, rgOk, compStep, wipeD, putB, keepD, startS, outsD, outD, mBody, mBodyO, sPar, yNil, yCons, xE, xO, setH, setHs, rdOk, List.set, bind_ite, atI_0, atI_1, atI_2, ixN_0, ixN_1, List.getElem?_cons_zero, eCallB, okL_1, okL_2, okL_3, okL_4, lentS, pinv, frzB, lendB, lent1, List.idxOf?, List.findIdx?, List.findIdx?.go, putS, putS1, oD1X, fEqXE, D, dicD]) ?_
    refine seq_to (δ' := D kvs s5 s6 s7 s8) ?_ ?_
    · have ei : iT (eVar 2) (D [] .no .no .no .no) = some (lv.map itD, D [] .no .no .no .no) := by simp [sSeq, sAsg, sOwn, sIf, sRet, sRetO, sRetV, sRetN, sDrop, sNext, sCont, sBreak, sAug, sFor, sSetL, eVar, eC, e1, e2, eB, eTup, eO, oB, o2, oLst, oCall, oDict0X, oLc, oLc2, aNil, aCons, tV, tAnd', tOr', tNot', tT', tYesF, truth', truth, eIf, eAnd, eOr, eNot, eCh, eMt, eMt0, eCall, eIsi, isaD, typeD, isDct, eCntT, eGetX, sPutX, frzV, frzs, val, vals, slD, slDat, cont, setC, isListD, free_eq, isFr_no, isFr_dat, isFr_own, isFr_bor, gN, gT, partsD, iL, iT, iR1, iR2, iEnL, iEnT, iZLL, iZTT, iZTL, iKeysX, iValsX, iItemsX, fI0, fI, fPlus, fCatT, fAddS, fCatL, fRepT, fRepL, fIx, fLen, fAbs, fInt, fTup, fList, fAppend, fExtend, fPop, fPopAt, fMin2, fMax2, fNeg, fIsN, fNotN, isNone, fSum, fSumT, fInX, fIxX, fLenX, r1F, r2F, rgOk, compStep, wipeD, putB, keepD, startS, outsD, outD, mBody, mBodyO, sPar, yNil, yCons, xE, xO, setH, setHs, rdOk, List.set, bind_ite, atI_0, atI_1, atI_2, ixN_0, ixN_1, List.getElem?_cons_zero, eCallB, okL_1, okL_2, okL_3, okL_4, lentS, pinv, frzB, lendB, lent1, List.idxOf?, List.findIdx?, List.findIdx?.go, putS, putS1, oD1X, fEqXE, D]
      unfold sFor
      rw [ei]
      exact e
    · simp only [D, dicD]
      simp [sSeq, sAsg, sOwn, sIf, sRet, sRetO, sRetV, sRetN, sDrop, sNext, sCont, sBreak, sAug, sFor, sSetL, eVar, eC, e1, e2, eB, eTup, eO, oB, o2, oLst, oCall, oDict0X, oLc, oLc2, aNil, aCons, tV, tAnd', tOr', tNot', tT', tYesF, truth', truth, eIf, eAnd, eOr, eNot, eCh, eMt, eMt0, eCall, eIsi, isaD, typeD, isDct, eCntT, eGetX, sPutX, frzV, frzs, val, vals, slD, slDat, cont, setC, isListD, free_eq, isFr_no, isFr_dat, isFr_own, isFr_bor, gN, gT, partsD, iL, iT, iR1, iR2, iEnL, iEnT, iZLL, iZTT, iZTL, iKeysX, iValsX, iItemsX, fI0, fI, fPlus, fCatT, fAddS, fCatL, fRepT, fRepL, fIx, fLen, fAbs, fInt, fTup, fList, fAppend, fExtend, fPop, fPopAt, fMin2, fMax2, fNeg, fIsN, fNotN, isNone, fSum, fSumT, fInX, fIxX, fLenX, r1F, r2F, rgOk, compStep, wipeD, putB, keepD, startS, outsD, outD, mBody, mBodyO, sPar, yNil, yCons, xE, xO, setH, setHs, rdOk, List.set, bind_ite, atI_0, atI_1, atI_2, ixN_0, ixN_1, List.getElem?_cons_zero, eCallB, okL_1, okL_2, okL_3, okL_4, lentS, pinv, frzB, lendB, lent1, List.idxOf?, List.findIdx?, List.findIdx?.go, putS, putS1, oD1X, fEqXE, oSortIX, dX, mkX]
      exact ⟨hok, rfl⟩
theorem e_firstState {b : List Kd} (hb : BskOk b) : m_first_state [bskD b] = some (stD ([], b.map (·.2)), [.none]) := e_first hb
/-! ### the levels -/
def lvlD (kvs : Kv) : DT := .tuple (kvs.map itD)
noncomputable def PL (b : List Kd) (f : Int × Int × Int) : Nat → Kv
  | 0 => [(([], b.map (·.2)), 0)]
  | i + 1 => sortKv (minF (csN b f (PL b f i)))
noncomputable def TL (b : List Kd) (f : Int × Int × Int) : Nat → Nat
  | 0 => 1
  | i + 1 => TL b f i + (PL b f (i + 1)).length
theorem PL_ok {b : List Kd} {f : Int × Int × Int} (hb : BskOk b) (h1 : 1 ≤ f.2.2) : ∀ (i : Nat), ∀ p ∈ PL b f i, StOk b f.2.2 p.1 ∧ p.1.2.map Option.isSome = (b.map (·.2)).map Option.isSome
  | 0, p, hp => by
    cases List.mem_singleton.mp hp
    exact ⟨first_ok hb h1, rfl⟩
  | i + 1, p, hp => by
    have hp : p ∈ minF (csN b f (PL b f i)) := (sortKv_perm _).mem_iff.mp hp
    obtain ⟨q, hq, hp⟩ := List.mem_flatMap.mp ((minF_of _).sub p hp)
    obtain ⟨hs, hpat⟩ := PL_ok hb h1 i q hq
    obtain ⟨c, hc, rfl⟩ := List.mem_map.mp hp
    have hc : c ∈ csP b f q.1 := (minF_of _).sub c ((sortKv_perm _).mem_iff.mp hc)
    exact ⟨come_ok (p := c) h1 hs hc, (csP_pat c hc).trans hpat⟩
inductive Ans where
  | never (i : Nat)
  | opened
  | levels (n : Nat)
noncomputable def ansD (b : List Kd) (f : Int × Int × Int) : Ans → DT
  | .never i => .tuple [.str "never", .int i]
  | .opened => .tuple [.str "open", .none]
  | .levels n => .tuple [.str "levels", .tuple ((List.range (n + 1)).map fun j => lvlD (PL b f j))]
noncomputable def resF (b : List Kd) (f : Int × Int × Int) (most : Nat) : Nat → Nat → Ans
  | i, 0 => .levels i
  | i, rem + 1 => if most < TL b f (i + 1) then .opened else if PL b f (i + 1) = [] then .never i else resF b f most (i + 1) rem
noncomputable def kF (b : List Kd) (f : Int × Int × Int) : Nat → Nat → Nat
  | i, 0 => i
  | i, rem + 1 => if 80 < TL b f i ∨ PL b f i = [] then i else kF b f (i + 1) rem
noncomputable def dueF (b : List Kd) (f : Int × Int × Int) (most k : Nat) : Ans := if most < TL b f k then .opened else if PL b f k = [] then .never (k - 1) else .levels k
theorem TL_le (b : List Kd) (f : Int × Int × Int) {i j : Nat} (h : i ≤ j) : TL b f i ≤ TL b f j := by
  induction h with
  | refl => exact Nat.le_refl _
  | step _ ih => exact Nat.le_trans ih (Nat.le_add_right _ _)
theorem kF_ge (b : List Kd) (f : Int × Int × Int) : ∀ (rem i : Nat), i ≤ kF b f i rem
  | 0, i => Nat.le_refl _
  | rem + 1, i => by
    rw [kF]
    split
    · exact Nat.le_refl _
    · exact Nat.le_trans (Nat.le_succ i) (kF_ge b f rem (i + 1))
/-- what is due is what is told -/
theorem due_res {b : List Kd} {f : Int × Int × Int} {most : Nat} (hm : most ≤ 80) : ∀ (rem i : Nat), TL b f i ≤ most → PL b f i ≠ [] → dueF b f most (kF b f i rem) = resF b f most i rem
  | 0, i, ht, hn => by
    unfold dueF
    rw [kF, resF, if_neg (by omega), if_neg hn]
  | rem + 1, i, ht, hn => by
    rw [kF, resF, if_neg (by rintro (h | h); omega; exact hn h)]
    by_cases c : most < TL b f (i + 1)
    · rw [if_pos c]
      unfold dueF
      rw [if_pos (Nat.lt_of_lt_of_le c (TL_le b f (kF_ge b f rem (i + 1))))]
    · rw [if_neg c]
      by_cases z : PL b f (i + 1) = []
      · rw [if_pos z]
        have hk : kF b f (i + 1) rem = i + 1 := by
          cases rem with
          | zero => rfl
          | succ r => rw [kF, if_pos (.inr z)]
        unfold dueF
        rw [hk, if_neg c, if_pos z]
        rfl
      · rw [if_neg z]
        exact due_res hm rem (i + 1) (by omega) z
theorem e_levelsOf {b : List Kd} {f : Int × Int × Int} {len most : Nat} (hb : BskOk b) (h1 : 1 ≤ f.2.2) (h3 : f.2.2 ≤ 3) (hl : len ≤ 100) (m1 : 1 ≤ most) (m8 : most ≤ 80) : m_levels_of [bskD b, frD f, .int (len : Nat), .int (most : Nat)] = some (ansD b f (resF b f most 0 len), [.none, .none, .none, .none]) := by
  have hfirst := e_firstState hb
  let D (n : Nat) (room : Int) (s6 s7 : Sl) : DS := [.dat (bskD b), .dat (frD f), .dat (.int (len : Nat)), .dat (.int (most : Nat)), .own (.list ((List.range (n + 1)).map fun j => lvlD (PL b f j))), .dat (.int room), s6, s7]
  have hlast : ∀ n, atI ((List.range (n + 1)).map fun j => lvlD (PL b f j)) (-1) = some (lvlD (PL b f n)) := fun n => atI_m1 (by simp)
  obtain ⟨o, e, he⟩ := loop_to (enc := fun i : Nat => PyData.int (i : Int)) (g := gN 6) (b := sSeq (sAsg (eCall m_next_level (aCons (eVar 0) (aCons (eVar 1) (aCons (e2 fIx (eVar 4) (e1 fNeg (eC (.int 1)))) (aCons (eVar 5) aNil))))) (gN 7))
    (sSeq (sIf (tNot' (tT' (eVar 7)))
    (sRet (eTup (aCons (eC (.str "never")) (aCons (eVar 6) aNil))))
    sNext)
    (sSeq (sAug 5 fSub (eB fLen (aCons (eVar 7) aNil)))
    (sSeq (sIf (tV (e2 fLt (eVar 5) (eC (.int 0))))
    (sRet (eTup (aCons (eC (.str "open")) (aCons (eC .none) aNil))))
    sNext)
    (sDrop (eMt isListD 4 fAppend (aCons (eVar 7) aNil))))))) (B := fun _ => False) (R := fun d δ => d = ansD b f (resF b f most 0 len) ∧ outsD [false, false, false, false] δ = some [.none, .none, .none, .none]) (List.range len)
    (fun r δ => ∃ (n : Nat) (s6 s7 : Sl), δ = D n ((most : Int) - TL b f n) s6 s7 ∧ isFr s6 = true ∧ isFr s7 = true ∧ resF b f most n r.length = resF b f most 0 len ∧ TL b f n ≤ most ∧ n + r.length = len ∧ ∀ j, r[j]? = if j < r.length then some (n + j) else none)
    (D 0 ((most : Int) - 1) .no .no)
    (by
      rintro i r δ ⟨n, s6, s7, rfl, f6, f7, hres, ht, hnl, hr⟩
      have hi : i = n := by
        have := hr 0
        rw [if_pos (by simp)] at this
        exact Option.some.inj this
      subst hi
      rw [List.length_cons, resF] at hres
      rw [List.length_cons] at hnl
      obtain ⟨ys, hnx, hfull, hover⟩ := e_nextLevel (lv := PL b f i) (room := (most : Int) - TL b f i) hb h1 h3 (PL_ok hb h1 i) (by omega) (by omega)
      have hlen : (minF (csN b f (PL b f i))).length = (PL b f (i + 1)).length := (sortKv_perm _).length_eq.symm
      have hTL : TL b f (i + 1) = TL b f i + (PL b f (i + 1)).length := rfl
      have g6 : gN 6 (.int (i : Nat)) (D i ((most : Int) - TL b f i) s6 s7) = some (D i ((most : Int) - TL b f i) (.dat (.int (i : Nat))) s7) := by simp [sSeq, sAsg, sOwn, sIf, sRet, sRetO, sRetV, sRetN, sDrop, sNext, sCont, sBreak, sAug, sFor, sSetL, eVar, eC, e1, e2, eB, eTup, eO, oB, o2, oLst, oCall, oDict0X, oLc, oLc2, aNil, aCons, tV, tAnd', tOr', tNot', tT', tYesF, truth', truth, eIf, eAnd, eOr, eNot, eCh, eMt, eMt0, eCall, eIsi, isaD, typeD, isDct, eCntT, eGetX, sPutX, frzV, frzs, val, vals, slD, slDat, cont, setC, isListD, free_eq, isFr_no, isFr_dat, isFr_own, isFr_bor, gN, gT, partsD, iL, iT, iR1, iR2, iEnL, iEnT, iZLL, iZTT, iZTL, iKeysX, iValsX, iItemsX, fI0, fI, fPlus, fCatT, fAddS, fCatL, fRepT, fRepL, fIx, fLen, fAbs, fInt, fTup, fList, fAppend, fExtend, fPop, fPopAt, fMin2, fMax2, fNeg, fIsN, fNotN, isNone, fSum, fSumT, fInX, fIxX, fLenX, r1F, r2F, rgOk, compStep, wipeD, putB, keepD, startS, outsD, outD, mBody, mBodyO, sPar, yNil, yCons, xE, xO, setH, setHs, rdOk, List.set, bind_ite, atI_0, atI_1, atI_2, ixN_0, ixN_1, List.getElem?_cons_zero, eCallB, okL_1, okL_2, okL_3, okL_4, lentS, pinv, frzB, lendB, lent1, List.idxOf?, List.findIdx?, List.findIdx?.go, putS, putS1, oD1X, fEqXE, D, f6]
      rw [g6, Option.bind_some]
      have a1 : (sAsg (eCall m_next_level (aCons (eVar 0) (aCons (eVar 1) (aCons (e2 fIx (eVar 4) (e1 fNeg (eC (.int 1)))) (aCons (eVar 5) aNil))))) (gN 7)) (D i ((most : Int) - TL b f i) (.dat (.int (i : Nat))) s7) = some (.nx (D i ((most : Int) - TL b f i) (.dat (.int (i : Nat))) (.dat (.tuple ys)))) := by
        have hlast := hlast i
        unfold lvlD at hlast
        simp only [D, lvlD]
        simp [sSeq, sAsg, sOwn, sIf, sRet, sRetO, sRetV, sRetN, sDrop, sNext, sCont, sBreak, sAug, sFor, sSetL, eVar, eC, e1, e2, eB, eTup, eO, oB, o2, oLst, oCall, oDict0X, oLc, oLc2, aNil, aCons, tV, tAnd', tOr', tNot', tT', tYesF, truth', truth, eIf, eAnd, eOr, eNot, eCh, eMt, eMt0, eCall, eIsi, isaD, typeD, isDct, eCntT, eGetX, sPutX, frzV, frzs, val, vals, slD, slDat, cont, setC, isListD, free_eq, isFr_no, isFr_dat, isFr_own, isFr_bor, gN, gT, partsD, iL, iT, iR1, iR2, iEnL, iEnT, iZLL, iZTT, iZTL, iKeysX, iValsX, iItemsX, fI0, fI, fPlus, fCatT, fAddS, fCatL, fRepT, fRepL, fIx, fLen, fAbs, fInt, fTup, fList, fAppend, fExtend, fPop, fPopAt, fMin2, fMax2, fNeg, fIsN, fNotN, isNone, fSum, fSumT, fInX, fIxX, fLenX, r1F, r2F, rgOk, compStep, wipeD, putB, keepD, startS, outsD, outD, mBody, mBodyO, sPar, yNil, yCons, xE, xO, setH, setHs, rdOk, List.set, bind_ite, atI_0, atI_1, atI_2, ixN_0, ixN_1, List.getElem?_cons_zero, eCallB, okL_1, okL_2, okL_3, okL_4, lentS, pinv, frzB, lendB, lent1, List.idxOf?, List.findIdx?, List.findIdx?.go, putS, putS1, oD1X, fEqXE, hlast, hnx, f7]
      by_cases c : most < TL b f (i + 1)
      · rw [if_pos c] at hres
        have hroom : ((most : Int) - TL b f i) < (ys.length : Int) := hover (by rw [hlen]; omega)
        have hne : ys ≠ [] := fun z => by rw [z] at hroom; simp at hroom; omega
        have hneg : (most : Int) - TL b f i - ys.length < 0 := by omega
        refine ⟨.rt (ansD b f .opened) [.dat (bskD b), .dat (frD f), .dat (.int (len : Nat)), .dat (.int (most : Nat)), .own (.list ((List.range (i + 1)).map fun j => lvlD (PL b f j))), .dat (.int ((most : Int) - TL b f i - ys.length)), .dat (.int (i : Nat)), .dat (.tuple ys)], seq_to a1 ?_, by rw [← hres], rfl⟩
        simp only [D]
        simp [sSeq, sAsg, sOwn, sIf, sRet, sRetO, sRetV, sRetN, sDrop, sNext, sCont, sBreak, sAug, sFor, sSetL, eVar, eC, e1, e2, eB, eTup, eO, oB, o2, oLst, oCall, oDict0X, oLc, oLc2, aNil, aCons, tV, tAnd', tOr', tNot', tT', tYesF, truth', truth, eIf, eAnd, eOr, eNot, eCh, eMt, eMt0, eCall, eIsi, isaD, typeD, isDct, eCntT, eGetX, sPutX, frzV, frzs, val, vals, slD, slDat, cont, setC, isListD, free_eq, isFr_no, isFr_dat, isFr_own, isFr_bor, gN, gT, partsD, iL, iT, iR1, iR2, iEnL, iEnT, iZLL, iZTT, iZTL, iKeysX, iValsX, iItemsX, fI0, fI, fPlus, fCatT, fAddS, fCatL, fRepT, fRepL, fIx, fLen, fAbs, fInt, fTup, fList, fAppend, fExtend, fPop, fPopAt, fMin2, fMax2, fNeg, fIsN, fNotN, isNone, fSum, fSumT, fInX, fIxX, fLenX, r1F, r2F, rgOk, compStep, wipeD, putB, keepD, startS, outsD, outD, mBody, mBodyO, sPar, yNil, yCons, xE, xO, setH, setHs, rdOk, List.set, bind_ite, atI_0, atI_1, atI_2, ixN_0, ixN_1, List.getElem?_cons_zero, eCallB, okL_1, okL_2, okL_3, okL_4, lentS, pinv, frzB, lendB, lent1, List.idxOf?, List.findIdx?, List.findIdx?.go, putS, putS1, oD1X, fEqXE, truth', hne, hneg, ansD, sizeLine_eq]
      · rw [if_neg c] at hres
        have hys : ys = (PL b f (i + 1)).map itD := (hfull (by rw [hlen]; omega)).trans (sortKv_eq _)
        subst hys
        by_cases z : PL b f (i + 1) = []
        · rw [if_pos z] at hres
          refine ⟨.rt (ansD b f (.never i)) [.dat (bskD b), .dat (frD f), .dat (.int (len : Nat)), .dat (.int (most : Nat)), .own (.list ((List.range (i + 1)).map fun j => lvlD (PL b f j))), .dat (.int ((most : Int) - TL b f i)), .dat (.int (i : Nat)), .dat (.tuple ((PL b f (i + 1)).map itD))], seq_to a1 ?_, by rw [← hres], rfl⟩
          simp only [D]
          simp [sSeq, sAsg, sOwn, sIf, sRet, sRetO, sRetV, sRetN, sDrop, sNext, sCont, sBreak, sAug, sFor, sSetL, eVar, eC, e1, e2, eB, eTup, eO, oB, o2, oLst, oCall, oDict0X, oLc, oLc2, aNil, aCons, tV, tAnd', tOr', tNot', tT', tYesF, truth', truth, eIf, eAnd, eOr, eNot, eCh, eMt, eMt0, eCall, eIsi, isaD, typeD, isDct, eCntT, eGetX, sPutX, frzV, frzs, val, vals, slD, slDat, cont, setC, isListD, free_eq, isFr_no, isFr_dat, isFr_own, isFr_bor, gN, gT, partsD, iL, iT, iR1, iR2, iEnL, iEnT, iZLL, iZTT, iZTL, iKeysX, iValsX, iItemsX, fI0, fI, fPlus, fCatT, fAddS, fCatL, fRepT, fRepL, fIx, fLen, fAbs, fInt, fTup, fList, fAppend, fExtend, fPop, fPopAt, fMin2, fMax2, fNeg, fIsN, fNotN, isNone, fSum, fSumT, fInX, fIxX, fLenX, r1F, r2F, rgOk, compStep, wipeD, putB, keepD, startS, outsD, outD, mBody, mBodyO, sPar, yNil, yCons, xE, xO, setH, setHs, rdOk, List.set, bind_ite, atI_0, atI_1, atI_2, ixN_0, ixN_1, List.getElem?_cons_zero, eCallB, okL_1, okL_2, okL_3, okL_4, lentS, pinv, frzB, lendB, lent1, List.idxOf?, List.findIdx?, List.findIdx?.go, putS, putS1, oD1X, fEqXE, truth', z, ansD, sizeLine_eq]
        · rw [if_neg z] at hres
          have hpos : ¬ ((most : Int) - TL b f i - ((PL b f (i + 1)).length : Nat) < 0) := by omega
          have hroom : (most : Int) - TL b f i - ((PL b f (i + 1)).length : Nat) = (most : Int) - TL b f (i + 1) := by omega
          have hz : i + 1 < 16777216 := by omega
          refine ⟨.nx (D (i + 1) ((most : Int) - TL b f (i + 1)) (.dat (.int (i : Nat))) (.dat (.tuple ((PL b f (i + 1)).map itD)))), seq_to a1 ?_, i + 1, _, _, rfl, rfl, rfl, hres, by omega, by omega, fun j => ?_⟩
          · simp only [D]
            rw [← hroom, List.range_succ (n := i + 1), List.map_append]
            simp [sSeq, sAsg, sOwn, sIf, sRet, sRetO, sRetV, sRetN, sDrop, sNext, sCont, sBreak, sAug, sFor, sSetL, eVar, eC, e1, e2, eB, eTup, eO, oB, o2, oLst, oCall, oDict0X, oLc, oLc2, aNil, aCons, tV, tAnd', tOr', tNot', tT', tYesF, truth', truth, eIf, eAnd, eOr, eNot, eCh, eMt, eMt0, eCall, eIsi, isaD, typeD, isDct, eCntT, eGetX, sPutX, frzV, frzs, val, vals, slD, slDat, cont, setC, isListD, free_eq, isFr_no, isFr_dat, isFr_own, isFr_bor, gN, gT, partsD, iL, iT, iR1, iR2, iEnL, iEnT, iZLL, iZTT, iZTL, iKeysX, iValsX, iItemsX, fI0, fI, fPlus, fCatT, fAddS, fCatL, fRepT, fRepL, fIx, fLen, fAbs, fInt, fTup, fList, fAppend, fExtend, fPop, fPopAt, fMin2, fMax2, fNeg, fIsN, fNotN, isNone, fSum, fSumT, fInX, fIxX, fLenX, r1F, r2F, rgOk, compStep, wipeD, putB, keepD, startS, outsD, outD, mBody, mBodyO, sPar, yNil, yCons, xE, xO, setH, setHs, rdOk, List.set, bind_ite, atI_0, atI_1, atI_2, ixN_0, ixN_1, List.getElem?_cons_zero, eCallB, okL_1, okL_2, okL_3, okL_4, lentS, pinv, frzB, lendB, lent1, List.idxOf?, List.findIdx?, List.findIdx?.go, putS, putS1, oD1X, fEqXE, truth', z, hpos, sizeLine_eq, hz, lvlD]
          · have := hr (j + 1)
            rw [List.getElem?_cons_succ, List.length_cons] at this
            rw [this]
            by_cases q : j < r.length
            · rw [if_pos q, if_pos (by omega)]
              congr 1
              omega
            · rw [if_neg q, if_neg (by omega)])
    ⟨0, .no, .no, rfl, rfl, rfl, by rw [List.length_range], by show 1 ≤ most; exact m1, by rw [List.length_range]; omega, fun j => by
      rw [List.length_range]
      by_cases c : j < len
      · rw [if_pos c, List.getElem?_range c, Nat.zero_add]
      · rw [if_neg c, List.getElem?_eq_none (by rw [List.length_range]; omega)]⟩
  have b0 : startS [false, false, false, false] [bskD b, frD f, .int (len : Nat), .int (most : Nat)] ++ List.replicate 4 .no = [.dat (bskD b), .dat (frD f), .dat (.int (len : Nat)), .dat (.int (most : Nat)), .no, .no, .no, .no] := rfl
  have s1 : (sOwn 4 (oLst (aCons (eTup (aCons (eTup (aCons (eCall m_first_state (aCons (eVar 0) aNil)) (aCons (eC (.int 0)) aNil))) aNil)) aNil))) [.dat (bskD b), .dat (frD f), .dat (.int (len : Nat)), .dat (.int (most : Nat)), .no, .no, .no, .no] = some (.nx [.dat (bskD b), .dat (frD f), .dat (.int (len : Nat)), .dat (.int (most : Nat)), .own (.list ((List.range (0 + 1)).map fun j => lvlD (PL b f j))), .no, .no, .no]) := by
    have hr : (List.range (0 + 1)).map (fun j => lvlD (PL b f j)) = [.tuple [.tuple [stD ([], b.map (·.2)), .int 0]]] := rfl
    rw [hr]
    simp [sSeq, sAsg, sOwn, sIf, sRet, sRetO, sRetV, sRetN, sDrop, sNext, sCont, sBreak, sAug, sFor, sSetL, eVar, eC, e1, e2, eB, eTup, eO, oB, o2, oLst, oCall, oDict0X, oLc, oLc2, aNil, aCons, tV, tAnd', tOr', tNot', tT', tYesF, truth', truth, eIf, eAnd, eOr, eNot, eCh, eMt, eMt0, eCall, eIsi, isaD, typeD, isDct, eCntT, eGetX, sPutX, frzV, frzs, val, vals, slD, slDat, cont, setC, isListD, free_eq, isFr_no, isFr_dat, isFr_own, isFr_bor, gN, gT, partsD, iL, iT, iR1, iR2, iEnL, iEnT, iZLL, iZTT, iZTL, iKeysX, iValsX, iItemsX, fI0, fI, fPlus, fCatT, fAddS, fCatL, fRepT, fRepL, fIx, fLen, fAbs, fInt, fTup, fList, fAppend, fExtend, fPop, fPopAt, fMin2, fMax2, fNeg, fIsN, fNotN, isNone, fSum, fSumT, fInX, fIxX, fLenX, r1F, r2F, rgOk, compStep, wipeD, putB, keepD, startS, outsD, outD, mBody, mBodyO, sPar, yNil, yCons, xE, xO, setH, setHs, rdOk, List.set, bind_ite, atI_0, atI_1, atI_2, ixN_0, ixN_1, List.getElem?_cons_zero, eCallB, okL_1, okL_2, okL_3, okL_4, lentS, pinv, frzB, lendB, lent1, List.idxOf?, List.findIdx?, List.findIdx?.go, putS, putS1, oD1X, fEqXE, hfirst, sizeLine_eq]
  have s2 : (sAsg (e2 fSub (eVar 3) (eC (.int 1))) (gN 5)) [.dat (bskD b), .dat (frD f), .dat (.int (len : Nat)), .dat (.int (most : Nat)), .own (.list ((List.range (0 + 1)).map fun j => lvlD (PL b f j))), .no, .no, .no] = some (.nx (D 0 ((most : Int) - 1) .no .no)) := by
    simp [sSeq, sAsg, sOwn, sIf, sRet, sRetO, sRetV, sRetN, sDrop, sNext, sCont, sBreak, sAug, sFor, sSetL, eVar, eC, e1, e2, eB, eTup, eO, oB, o2, oLst, oCall, oDict0X, oLc, oLc2, aNil, aCons, tV, tAnd', tOr', tNot', tT', tYesF, truth', truth, eIf, eAnd, eOr, eNot, eCh, eMt, eMt0, eCall, eIsi, isaD, typeD, isDct, eCntT, eGetX, sPutX, frzV, frzs, val, vals, slD, slDat, cont, setC, isListD, free_eq, isFr_no, isFr_dat, isFr_own, isFr_bor, gN, gT, partsD, iL, iT, iR1, iR2, iEnL, iEnT, iZLL, iZTT, iZTL, iKeysX, iValsX, iItemsX, fI0, fI, fPlus, fCatT, fAddS, fCatL, fRepT, fRepL, fIx, fLen, fAbs, fInt, fTup, fList, fAppend, fExtend, fPop, fPopAt, fMin2, fMax2, fNeg, fIsN, fNotN, isNone, fSum, fSumT, fInX, fIxX, fLenX, r1F, r2F, rgOk, compStep, wipeD, putB, keepD, startS, outsD, outD, mBody, mBodyO, sPar, yNil, yCons, xE, xO, setH, setHs, rdOk, List.set, bind_ite, atI_0, atI_1, atI_2, ixN_0, ixN_1, List.getElem?_cons_zero, eCallB, okL_1, okL_2, okL_3, okL_4, lentS, pinv, frzB, lendB, lent1, List.idxOf?, List.findIdx?, List.findIdx?.go, putS, putS1, oD1X, fEqXE, D]
  have hw := fun b => walk_range (es := aCons (eVar 2) aNil) (δ := D 0 ((most : Int) - 1) .no .no) (δ' := D 0 ((most : Int) - 1) .no .no) (r := .d (.int (len : Nat))) (n := (len : Int)) (g := gN 6) (b := b) (by simp [sSeq, sAsg, sOwn, sIf, sRet, sRetO, sRetV, sRetN, sDrop, sNext, sCont, sBreak, sAug, sFor, sSetL, eVar, eC, e1, e2, eB, eTup, eO, oB, o2, oLst, oCall, oDict0X, oLc, oLc2, aNil, aCons, tV, tAnd', tOr', tNot', tT', tYesF, truth', truth, eIf, eAnd, eOr, eNot, eCh, eMt, eMt0, eCall, eIsi, isaD, typeD, isDct, eCntT, eGetX, sPutX, frzV, frzs, val, vals, slD, slDat, cont, setC, isListD, free_eq, isFr_no, isFr_dat, isFr_own, isFr_bor, gN, gT, partsD, iL, iT, iR1, iR2, iEnL, iEnT, iZLL, iZTT, iZTL, iKeysX, iValsX, iItemsX, fI0, fI, fPlus, fCatT, fAddS, fCatL, fRepT, fRepL, fIx, fLen, fAbs, fInt, fTup, fList, fAppend, fExtend, fPop, fPopAt, fMin2, fMax2, fNeg, fIsN, fNotN, isNone, fSum, fSumT, fInX, fIxX, fLenX, r1F, r2F, rgOk, compStep, wipeD, putB, keepD, startS, outsD, outD, mBody, mBodyO, sPar, yNil, yCons, xE, xO, setH, setHs, rdOk, List.set, bind_ite, atI_0, atI_1, atI_2, ixN_0, ixN_1, List.getElem?_cons_zero, eCallB, okL_1, okL_2, okL_3, okL_4, lentS, pinv, frzB, lendB, lent1, List.idxOf?, List.findIdx?, List.findIdx?.go, putS, putS1, oD1X, fEqXE, D]) rfl (by omega) (by omega)
  rw [show ((len : Int)).toNat = len from Int.toNat_natCast len] at hw
  cases o with
  | ct δ => exact he.elim
  | bk δ => exact he.elim
  | ro x δ => exact he.elim
  | rt x δ =>
    obtain ⟨rfl, ho⟩ := he
    refine mB_rt (δ := δ) rfl ?_ ho
    rw [b0]
    exact seq_to s1 (seq_to s2 (seq_rt ((hw _).trans e)))
  | nx δ =>
    rcases he with ⟨n, s6, s7, rfl, f6, f7, hres, ht, hnl, hr⟩ | h
    · have hn : n = len := by simpa using hnl
      have hres : Ans.levels n = resF b f most 0 len := hres
      refine mB_rt (δ := D n ((most : Int) - TL b f n) s6 s7) rfl ?_ rfl
      rw [b0, ← hres]
      refine seq_to s1 (seq_to s2 (seq_to ((hw _).trans e) ?_))
      simp only [D]
      simp [sSeq, sAsg, sOwn, sIf, sRet, sRetO, sRetV, sRetN, sDrop, sNext, sCont, sBreak, sAug, sFor, sSetL, eVar, eC, e1, e2, eB, eTup, eO, oB, o2, oLst, oCall, oDict0X, oLc, oLc2, aNil, aCons, tV, tAnd', tOr', tNot', tT', tYesF, truth', truth, eIf, eAnd, eOr, eNot, eCh, eMt, eMt0, eCall, eIsi, isaD, typeD, isDct, eCntT, eGetX, sPutX, frzV, frzs, val, vals, slD, slDat, cont, setC, isListD, free_eq, isFr_no, isFr_dat, isFr_own, isFr_bor, gN, gT, partsD, iL, iT, iR1, iR2, iEnL, iEnT, iZLL, iZTT, iZTL, iKeysX, iValsX, iItemsX, fI0, fI, fPlus, fCatT, fAddS, fCatL, fRepT, fRepL, fIx, fLen, fAbs, fInt, fTup, fList, fAppend, fExtend, fPop, fPopAt, fMin2, fMax2, fNeg, fIsN, fNotN, isNone, fSum, fSumT, fInX, fIxX, fLenX, r1F, r2F, rgOk, compStep, wipeD, putB, keepD, startS, outsD, outD, mBody, mBodyO, sPar, yNil, yCons, xE, xO, setH, setHs, rdOk, List.set, bind_ite, atI_0, atI_1, atI_2, ixN_0, ixN_1, List.getElem?_cons_zero, eCallB, okL_1, okL_2, okL_3, okL_4, lentS, pinv, frzB, lendB, lent1, List.idxOf?, List.findIdx?, List.findIdx?.go, putS, putS1, oD1X, fEqXE, ansD, sizeLine_eq]
    · exact h.elim
/-! ### the law's levels -/
noncomputable def csM (b : List Kd) (f : Int × Int × Int) (lv : Kv) : List (St × Int) := lv.flatMap fun p => farther p.2 (minF (csL b f p.1))
noncomputable def LL (b : List Kd) (f : Int × Int × Int) : Nat → Kv
  | 0 => [(([], b.map (·.2)), 0)]
  | i + 1 => minF (csM b f (LL b f i))
theorem LL_perm {b : List Kd} {f : Int × Int × Int} (hb : BskOk b) (h1 : 1 ≤ f.2.2) : ∀ i, (LL b f i).Perm (PL b f i)
  | 0 => List.Perm.refl _
  | i + 1 => by
    have ih := LL_perm hb h1 i
    refine (minF_perm fun p => ?_).trans (sortKv_perm _).symm
    unfold csM csN
    rw [List.mem_flatMap, List.mem_flatMap]
    have hq : ∀ q ∈ PL b f i, (p ∈ farther q.2 (minF (csL b f q.1)) ↔ p ∈ farther q.2 (stepsK b f q.1)) := fun q hq => by
      obtain ⟨hs, _⟩ := PL_ok hb h1 i q hq
      have pm : (minF (csL b f q.1)).Perm (stepsK b f q.1) := (minF_perm fun x => (cs_mem h1 hs x).symm).trans (sortKv_perm _).symm
      exact (pm.map _).mem_iff
    constructor
    · rintro ⟨q, h, h'⟩
      have h := ih.mem_iff.mp h
      exact ⟨q, h, (hq q h).mp h'⟩
    · rintro ⟨q, h, h'⟩
      exact ⟨q, ih.mem_iff.mpr h, (hq q h).mpr h'⟩
theorem LL_ok {b : List Kd} {f : Int × Int × Int} (hb : BskOk b) (h1 : 1 ≤ f.2.2) (i : Nat) : ∀ p ∈ LL b f i, StOk b f.2.2 p.1 ∧ p.1.2.map Option.isSome = (b.map (·.2)).map Option.isSome := fun p hp => PL_ok hb h1 i p ((LL_perm hb h1 i).mem_iff.mp hp)
theorem LL_nd (b : List Kd) (f : Int × Int × Int) : ∀ i, ((LL b f i).map (·.1)).Nodup
  | 0 => by simp [LL]
  | i + 1 => (minF_of _).nd
theorem find_kv {kvs : Kv} (nd : (kvs.map (·.1)).Nodup) {s : St} {n : Int} (h : (s, n) ∈ kvs) : findD (kvs.map kvD) (stD s) = some (.int n) := by
  unfold findD
  rw [List.find?_map]
  have : ((fun p : DT × DT => eqK p.1 (stD s)) ∘ kvD) = fun p => decide (p.1 = s) := funext fun p => eqK_st p.1 s
  rw [this]
  cases hf : kvs.find? fun p => decide (p.1 = s) with
  | none => exact absurd (List.find?_eq_none.mp hf _ h) (by simp)
  | some q =>
    have h1 := List.mem_of_find?_eq_some hf
    have h2 : q.1 = s := by simpa using List.find?_some hf
    obtain ⟨q1, q2⟩ := q
    subst h2
    have := uniq_kv nd h1 h
    subst this
    rfl
noncomputable def lawFar : SF := sFor (iItemsX (eCall m__law_steps (aCons (eVar 0) (aCons (eVar 1) (aCons (eVar 6) aNil))))) (gT [(gN 7), (gN 8)])
  (sSeq (sAsg (e2 fPlus (e2 fIxX (e2 fIx (eVar 3) (e1 fNeg (eC (.int 1)))) (eVar 6)) (eVar 8)) (gN 9))
  (sPutX 5 (eVar 7) (eB fMin2 (aCons (eGetX (eVar 5) (eVar 7) (eVar 9)) (aCons (eVar 9) aNil)))))
theorem e_lawFar {b : List Kd} {f : Int × Int × Int} {s : St} {n : Int} {kvs lv : Kv} {ls : List DT} {s2 s4 s7 s8 s9 : Sl} (hb : BskOk b) (h1 : 1 ≤ f.2.2) (h3 : f.2.2 ≤ 3) (hs : StOk b f.2.2 s) (hn : kvs.length ≤ 1000000) (hlast : atI ls (-1) = some (dicD lv)) (nd : (lv.map (·.1)).Nodup) (hm : (s, n) ∈ lv) (f7 : isFr s7 = true) (f8 : isFr s8 = true) (f9 : isFr s9 = true) :
    ∃ t7 t8 t9 : Sl, isFr t7 = true ∧ isFr t8 = true ∧ isFr t9 = true ∧ lawFar [.dat (bskD b), .dat (frD f), s2, .own (.list ls), s4, .own (dicD kvs), .dat (stD s), s7, s8, s9]
      = some (.nx [.dat (bskD b), .dat (frD f), s2, .own (.list ls), s4, .own (dicD ((farther n (minF (csL b f s))).foldl addMin kvs)), .dat (stD s), t7, t8, t9]) := by
  have hst := e_lawSteps hb h1 h3 hs
  have hlen : (minF (csL b f s)).length ≤ 2048 := by
    have := minF_len (b := b) h1 h3 hs
    rw [← (minF_perm (cs_mem (b := b) h1 hs)).length_eq]
    exact this
  have hfind := find_kv nd hm
  have hkys := key_st s
  let D (kvs : Kv) (s7 s8 s9 : Sl) : DS := [.dat (bskD b), .dat (frD f), s2, .own (.list ls), s4, .own (dicD kvs), .dat (stD s), s7, s8, s9]
  obtain ⟨δ', e, kvs', t7, t8, t9, rfl, g7, g8, g9, hk, _⟩ := loop_all (enc := fun c : St × Int => pairD (stD c.1) (.int c.2)) (g := gT [gN 7, gN 8]) (b := sSeq (sAsg (e2 fPlus (e2 fIxX (e2 fIx (eVar 3) (e1 fNeg (eC (.int 1)))) (eVar 6)) (eVar 8)) (gN 9))
    (sPutX 5 (eVar 7) (eB fMin2 (aCons (eGetX (eVar 5) (eVar 7) (eVar 9)) (aCons (eVar 9) aNil))))) (minF (csL b f s))
    (fun r δ => ∃ (kvs' : Kv) (t7 t8 t9 : Sl), δ = D kvs' t7 t8 t9 ∧ isFr t7 = true ∧ isFr t8 = true ∧ isFr t9 = true ∧ (farther n r).foldl addMin kvs' = (farther n (minF (csL b f s))).foldl addMin kvs ∧ kvs'.length + r.length ≤ 1002048)
    (D kvs s7 s8 s9)
    (by
      rintro ⟨k, m⟩ r δ ⟨kvs', t7, t8, t9, rfl, g7, g8, g9, hk, hl⟩
      rw [List.length_cons] at hl
      have hz : kvs'.length < 16777216 := by omega
      have hg := get_st kvs' k (n + m)
      have hp := put_st kvs' k (minI (n + m) (getS kvs' k (n + m)))
      have hky := key_st k
      have u1 : gT [gN 7, gN 8] (pairD (stD k) (.int m)) (D kvs' t7 t8 t9) = some (D kvs' (.dat (stD k)) (.dat (.int m)) t9) := by simp [sSeq, sAsg, sOwn, sIf, sRet, sRetO, sRetV, sRetN, sDrop, sNext, sCont, sBreak, sAug, sFor, sSetL, eVar, eC, e1, e2, eB, eTup, eO, oB, o2, oLst, oCall, oDict0X, oLc, oLc2, aNil, aCons, tV, tAnd', tOr', tNot', tT', tYesF, truth', truth, eIf, eAnd, eOr, eNot, eCh, eMt, eMt0, eCall, eIsi, isaD, typeD, isDct, eCntT, eGetX, sPutX, frzV, frzs, val, vals, slD, slDat, cont, setC, isListD, free_eq, isFr_no, isFr_dat, isFr_own, isFr_bor, gN, gT, partsD, iL, iT, iR1, iR2, iEnL, iEnT, iZLL, iZTT, iZTL, iKeysX, iValsX, iItemsX, fI0, fI, fPlus, fCatT, fAddS, fCatL, fRepT, fRepL, fIx, fLen, fAbs, fInt, fTup, fList, fAppend, fExtend, fPop, fPopAt, fMin2, fMax2, fNeg, fIsN, fNotN, isNone, fSum, fSumT, fInX, fIxX, fLenX, r1F, r2F, rgOk, compStep, wipeD, putB, keepD, startS, outsD, outD, mBody, mBodyO, sPar, yNil, yCons, xE, xO, setH, setHs, rdOk, List.set, bind_ite, atI_0, atI_1, atI_2, ixN_0, ixN_1, List.getElem?_cons_zero, eCallB, okL_1, okL_2, okL_3, okL_4, lentS, pinv, frzB, lendB, lent1, List.idxOf?, List.findIdx?, List.findIdx?.go, putS, putS1, oD1X, fEqXE, D, g7, g8]
      have u2 : (sAsg (e2 fPlus (e2 fIxX (e2 fIx (eVar 3) (e1 fNeg (eC (.int 1)))) (eVar 6)) (eVar 8)) (gN 9)) (D kvs' (.dat (stD k)) (.dat (.int m)) t9) = some (.nx (D kvs' (.dat (stD k)) (.dat (.int m)) (.dat (.int (n + m))))) := by
        unfold dicD mkX at hlast
        simp only [D]
        simp [sSeq, sAsg, sOwn, sIf, sRet, sRetO, sRetV, sRetN, sDrop, sNext, sCont, sBreak, sAug, sFor, sSetL, eVar, eC, e1, e2, eB, eTup, eO, oB, o2, oLst, oCall, oDict0X, oLc, oLc2, aNil, aCons, tV, tAnd', tOr', tNot', tT', tYesF, truth', truth, eIf, eAnd, eOr, eNot, eCh, eMt, eMt0, eCall, eIsi, isaD, typeD, isDct, eCntT, eGetX, sPutX, frzV, frzs, val, vals, slD, slDat, cont, setC, isListD, free_eq, isFr_no, isFr_dat, isFr_own, isFr_bor, gN, gT, partsD, iL, iT, iR1, iR2, iEnL, iEnT, iZLL, iZTT, iZTL, iKeysX, iValsX, iItemsX, fI0, fI, fPlus, fCatT, fAddS, fCatL, fRepT, fRepL, fIx, fLen, fAbs, fInt, fTup, fList, fAppend, fExtend, fPop, fPopAt, fMin2, fMax2, fNeg, fIsN, fNotN, isNone, fSum, fSumT, fInX, fIxX, fLenX, r1F, r2F, rgOk, compStep, wipeD, putB, keepD, startS, outsD, outD, mBody, mBodyO, sPar, yNil, yCons, xE, xO, setH, setHs, rdOk, List.set, bind_ite, atI_0, atI_1, atI_2, ixN_0, ixN_1, List.getElem?_cons_zero, eCallB, okL_1, okL_2, okL_3, okL_4, lentS, pinv, frzB, lendB, lent1, List.idxOf?, List.findIdx?, List.findIdx?.go, putS, putS1, oD1X, fEqXE, hlast, dX, hkys, hfind, g9]
      refine ⟨_, ?_, addMin kvs' (k, n + m), .dat (stD k), .dat (.int m), .dat (.int (n + m)), rfl, rfl, rfl, rfl, hk, by have := addMin_len kvs' (k, n + m); omega⟩
      rw [u1, Option.bind_some]
      refine seq_to u2 ?_
      simp only [D, dicD, mkX, addMin]
      rw [← hp]
      simp [sSeq, sAsg, sOwn, sIf, sRet, sRetO, sRetV, sRetN, sDrop, sNext, sCont, sBreak, sAug, sFor, sSetL, eVar, eC, e1, e2, eB, eTup, eO, oB, o2, oLst, oCall, oDict0X, oLc, oLc2, aNil, aCons, tV, tAnd', tOr', tNot', tT', tYesF, truth', truth, eIf, eAnd, eOr, eNot, eCh, eMt, eMt0, eCall, eIsi, isaD, typeD, isDct, eCntT, eGetX, sPutX, frzV, frzs, val, vals, slD, slDat, cont, setC, isListD, free_eq, isFr_no, isFr_dat, isFr_own, isFr_bor, gN, gT, partsD, iL, iT, iR1, iR2, iEnL, iEnT, iZLL, iZTT, iZTL, iKeysX, iValsX, iItemsX, fI0, fI, fPlus, fCatT, fAddS, fCatL, fRepT, fRepL, fIx, fLen, fAbs, fInt, fTup, fList, fAppend, fExtend, fPop, fPopAt, fMin2, fMax2, fNeg, fIsN, fNotN, isNone, fSum, fSumT, fInX, fIxX, fLenX, r1F, r2F, rgOk, compStep, wipeD, putB, keepD, startS, outsD, outD, mBody, mBodyO, sPar, yNil, yCons, xE, xO, setH, setHs, rdOk, List.set, bind_ite, atI_0, atI_1, atI_2, ixN_0, ixN_1, List.getElem?_cons_zero, eCallB, okL_1, okL_2, okL_3, okL_4, lentS, pinv, frzB, lendB, lent1, List.idxOf?, List.findIdx?, List.findIdx?.go, putS, putS1, oD1X, fEqXE, dX, hky, hg, mkX, sizeLine_eq, hz, min_sw])
    ⟨kvs, s7, s8, s9, rfl, f7, f8, f9, rfl, by omega⟩
  refine ⟨t7, t8, t9, g7, g8, g9, ?_⟩
  have hk' : kvs' = (farther n (minF (csL b f s))).foldl addMin kvs := hk
  rw [← hk']
  have ei : iItemsX (eCall m__law_steps (aCons (eVar 0) (aCons (eVar 1) (aCons (eVar 6) aNil)))) (D kvs s7 s8 s9) = some ((minF (csL b f s)).map (fun c => pairD (stD c.1) (.int c.2)), D kvs s7 s8 s9) := by
    simp only [D]
    simp [sSeq, sAsg, sOwn, sIf, sRet, sRetO, sRetV, sRetN, sDrop, sNext, sCont, sBreak, sAug, sFor, sSetL, eVar, eC, e1, e2, eB, eTup, eO, oB, o2, oLst, oCall, oDict0X, oLc, oLc2, aNil, aCons, tV, tAnd', tOr', tNot', tT', tYesF, truth', truth, eIf, eAnd, eOr, eNot, eCh, eMt, eMt0, eCall, eIsi, isaD, typeD, isDct, eCntT, eGetX, sPutX, frzV, frzs, val, vals, slD, slDat, cont, setC, isListD, free_eq, isFr_no, isFr_dat, isFr_own, isFr_bor, gN, gT, partsD, iL, iT, iR1, iR2, iEnL, iEnT, iZLL, iZTT, iZTL, iKeysX, iValsX, iItemsX, fI0, fI, fPlus, fCatT, fAddS, fCatL, fRepT, fRepL, fIx, fLen, fAbs, fInt, fTup, fList, fAppend, fExtend, fPop, fPopAt, fMin2, fMax2, fNeg, fIsN, fNotN, isNone, fSum, fSumT, fInX, fIxX, fLenX, r1F, r2F, rgOk, compStep, wipeD, putB, keepD, startS, outsD, outD, mBody, mBodyO, sPar, yNil, yCons, xE, xO, setH, setHs, rdOk, List.set, bind_ite, atI_0, atI_1, atI_2, ixN_0, ixN_1, List.getElem?_cons_zero, eCallB, okL_1, okL_2, okL_3, okL_4, lentS, pinv, frzB, lendB, lent1, List.idxOf?, List.findIdx?, List.findIdx?.go, putS, putS1, oD1X, fEqXE, hst, dicD, mkX, dX]
    exact fun a b _ _ => ⟨rfl, rfl⟩
  show lawFar (D kvs s7 s8 s9) = _
  unfold lawFar sFor
  rw [ei]
  exact e
theorem PL_le {b : List Kd} {f : Int × Int × Int} : ∀ n, (PL b f n).length ≤ TL b f n
  | 0 => Nat.le_refl _
  | n + 1 => Nat.le_add_left _ _
noncomputable def lawWalk : SF := sFor (iKeysX (e2 fIx (eVar 3) (e1 fNeg (eC (.int 1))))) (gN 6) lawFar
noncomputable def lawBody : SF := sSeq (sOwn 5 oDict0X) (sSeq lawWalk (sSeq (sDrop (eMt isListD 3 fAppend (aCons (eVar 5) aNil))) (sAsg (e2 fPlus (eVar 4) (eB fLenX (aCons (eVar 5) aNil))) (gN 4))))
noncomputable def dicsD (b : List Kd) (f : Int × Int × Int) (n : Nat) : List DT := (List.range (n + 1)).map fun j => dicD (LL b f j)
noncomputable def D2 (b : List Kd) (f : Int × Int × Int) (len n : Nat) (s5 s6 s7 s8 s9 : Sl) : DS := [.dat (bskD b), .dat (frD f), .dat (.int (len : Nat)), .own (.list (dicsD b f n)), .dat (.int (TL b f n : Nat)), s5, s6, s7, s8, s9]
theorem dics_last (b : List Kd) (f : Int × Int × Int) (n : Nat) : atI (dicsD b f n) (-1) = some (dicD (LL b f n)) := atI_m1 (by simp [dicsD])
theorem e_lawBody {b : List Kd} {f : Int × Int × Int} {len n : Nat} {s5 s6 s7 s8 s9 : Sl} (hb : BskOk b) (h1 : 1 ≤ f.2.2) (h3 : f.2.2 ≤ 3) (hn : n ≤ 1000) (ht : TL b f n ≤ 80) (f5 : isFr s5 = true) (f6 : isFr s6 = true) (f7 : isFr s7 = true) (f8 : isFr s8 = true) (f9 : isFr s9 = true) :
    ∃ t5 t6 t7 t8 t9 : Sl, isFr t5 = true ∧ isFr t6 = true ∧ isFr t7 = true ∧ isFr t8 = true ∧ isFr t9 = true ∧ lawBody (D2 b f len n s5 s6 s7 s8 s9) = some (.nx (D2 b f len (n + 1) t5 t6 t7 t8 t9)) := by
  have hll : (LL b f n).length ≤ 80 := by
    rw [(LL_perm hb h1 n).length_eq]
    have := PL_le (b := b) (f := f) n
    omega
  let D (kvs : Kv) (s6 s7 s8 s9 : Sl) : DS := [.dat (bskD b), .dat (frD f), .dat (.int (len : Nat)), .own (.list (dicsD b f n)), .dat (.int (TL b f n : Nat)), .own (dicD kvs), s6, s7, s8, s9]
  obtain ⟨δ', e, kvs, t6, t7, t8, t9, rfl, g6, g7, g8, g9, hk, _⟩ := loop_all (enc := fun p : St × Int => stD p.1) (g := gN 6) (b := lawFar) (LL b f n)
    (fun r δ => ∃ (kvs : Kv) (t6 t7 t8 t9 : Sl), δ = D kvs t6 t7 t8 t9 ∧ isFr t6 = true ∧ isFr t7 = true ∧ isFr t8 = true ∧ isFr t9 = true ∧ (csM b f r).foldl addMin kvs = LL b f (n + 1) ∧ kvs.length + 2048 * r.length ≤ 200000 ∧ ∀ p ∈ r, p ∈ LL b f n)
    (D [] s6 s7 s8 s9)
    (by
      rintro ⟨s, m⟩ r δ ⟨kvs, t6, t7, t8, t9, rfl, g6, g7, g8, g9, hk, hl, hr⟩
      rw [List.length_cons] at hl
      have hm := hr _ List.mem_cons_self
      obtain ⟨hs, _⟩ := LL_ok hb h1 n _ hm
      have hcs : csM b f ((s, m) :: r) = farther m (minF (csL b f s)) ++ csM b f r := rfl
      rw [hcs, List.foldl_append] at hk
      obtain ⟨u7, u8, u9, q7, q8, q9, hf⟩ := e_lawFar (n := m) (kvs := kvs) (lv := LL b f n) (ls := dicsD b f n) (s2 := .dat (.int (len : Nat))) (s4 := .dat (.int (TL b f n : Nat))) hb h1 h3 hs (by omega) (dics_last b f n) (LL_nd b f n) hm g7 g8 g9
      have hfl := fold_len (farther m (minF (csL b f s))) kvs
      have hsl : (farther m (minF (csL b f s))).length ≤ 2048 := by
        unfold farther
        rw [List.length_map, ← (minF_perm (cs_mem (b := b) h1 hs)).length_eq]
        exact minF_len h1 h3 hs
      refine ⟨_, ?_, _, .dat (stD s), u7, u8, u9, rfl, rfl, q7, q8, q9, hk, by omega, fun p h => hr p (List.mem_cons_of_mem _ h)⟩
      have u1 : gN 6 (stD s) (D kvs t6 t7 t8 t9) = some (D kvs (.dat (stD s)) t7 t8 t9) := by simp [sSeq, sAsg, sOwn, sIf, sRet, sRetO, sRetV, sRetN, sDrop, sNext, sCont, sBreak, sAug, sFor, sSetL, eVar, eC, e1, e2, eB, eTup, eO, oB, o2, oLst, oCall, oDict0X, oLc, oLc2, aNil, aCons, tV, tAnd', tOr', tNot', tT', tYesF, truth', truth, eIf, eAnd, eOr, eNot, eCh, eMt, eMt0, eCall, eIsi, isaD, typeD, isDct, eCntT, eGetX, sPutX, frzV, frzs, val, vals, slD, slDat, cont, setC, isListD, free_eq, isFr_no, isFr_dat, isFr_own, isFr_bor, gN, gT, partsD, iL, iT, iR1, iR2, iEnL, iEnT, iZLL, iZTT, iZTL, iKeysX, iValsX, iItemsX, fI0, fI, fPlus, fCatT, fAddS, fCatL, fRepT, fRepL, fIx, fLen, fAbs, fInt, fTup, fList, fAppend, fExtend, fPop, fPopAt, fMin2, fMax2, fNeg, fIsN, fNotN, isNone, fSum, fSumT, fInX, fIxX, fLenX, r1F, r2F, rgOk, compStep, wipeD, putB, keepD, startS, outsD, outD, mBody, mBodyO, sPar, yNil, yCons, xE, xO, setH, setHs, rdOk, List.set, bind_ite, atI_0, atI_1, atI_2, ixN_0, ixN_1, List.getElem?_cons_zero, eCallB, okL_1, okL_2, okL_3, okL_4, lentS, pinv, frzB, lendB, lent1, List.idxOf?, List.findIdx?, List.findIdx?.go, putS, putS1, oD1X, fEqXE, D, g6]
      rw [u1, Option.bind_some]
      exact hf)
    ⟨[], s6, s7, s8, s9, rfl, f6, f7, f8, f9, rfl, by simp only [List.length_nil]; omega, fun p h => h⟩
  have hk' : kvs = LL b f (n + 1) := hk
  refine ⟨.dat (dicD (LL b f (n + 1))), t6, t7, t8, t9, rfl, g6, g7, g8, g9, ?_⟩
  unfold lawBody
  refine seq_to (δ' := D [] s6 s7 s8 s9) (by simp [sSeq, sAsg, sOwn, sIf, sRet, sRetO, sRetV, sRetN, sDrop, sNext, sCont, sBreak, sAug, sFor, sSetL, eVar, eC, e1, e2, eB, eTup, eO, oB, o2, oLst, oCall, oDict0X, oLc, oLc2, aNil, aCons, tV, tAnd', tOr', tNot', tT', tYesF, truth', truth, eIf, eAnd, eOr, eNot, eCh, eMt, eMt0, eCall, eIsi, isaD, typeD, isDct, eCntT, eGetX, sPutX, frzV, frzs, val, vals, slD, slDat, cont, setC, isListD, free_eq, isFr_no, isFr_dat, isFr_own, isFr_bor, gN, gT, partsD, iL, iT, iR1, iR2, iEnL, iEnT, iZLL, iZTT, iZTL, iKeysX, iValsX, iItemsX, fI0, fI, fPlus, fCatT, fAddS, fCatL, fRepT, fRepL, fIx, fLen, fAbs, fInt, fTup, fList, fAppend, fExtend, fPop, fPopAt, fMin2, fMax2, fNeg, fIsN, fNotN, isNone, fSum, fSumT, fInX, fIxX, fLenX, r1F, r2F, rgOk, compStep, wipeD, putB, keepD, startS, outsD, outD, mBody, mBodyO, sPar, yNil, yCons, xE, xO, setH, setHs, rdOk, List.set, bind_ite, atI_0, atI_1, atI_2, ixN_0, ixN_1, List.getElem?_cons_zero, eCallB, okL_1, okL_2, okL_3, okL_4, lentS, pinv, frzB, lendB, lent1, List.idxOf?, List.findIdx?, List.findIdx?.go, putS, putS1, oD1X, fEqXE, D, D2, dicD, f5]) ?_
  refine seq_to (δ' := D kvs t6 t7 t8 t9) ?_ ?_
  · have ei : iKeysX (e2 fIx (eVar 3) (e1 fNeg (eC (.int 1)))) (D [] s6 s7 s8 s9) = some ((LL b f n).map (fun p => stD p.1), D [] s6 s7 s8 s9) := by
      have hlast := dics_last b f n
      simp only [D]
      generalize dicsD b f n = ls at hlast ⊢
      unfold dicD mkX at hlast
      simp [sSeq, sAsg, sOwn, sIf, sRet, sRetO, sRetV, sRetN, sDrop, sNext, sCont, sBreak, sAug, sFor, sSetL, eVar, eC, e1, e2, eB, eTup, eO, oB, o2, oLst, oCall, oDict0X, oLc, oLc2, aNil, aCons, tV, tAnd', tOr', tNot', tT', tYesF, truth', truth, eIf, eAnd, eOr, eNot, eCh, eMt, eMt0, eCall, eIsi, isaD, typeD, isDct, eCntT, eGetX, sPutX, frzV, frzs, val, vals, slD, slDat, cont, setC, isListD, free_eq, isFr_no, isFr_dat, isFr_own, isFr_bor, gN, gT, partsD, iL, iT, iR1, iR2, iEnL, iEnT, iZLL, iZTT, iZTL, iKeysX, iValsX, iItemsX, fI0, fI, fPlus, fCatT, fAddS, fCatL, fRepT, fRepL, fIx, fLen, fAbs, fInt, fTup, fList, fAppend, fExtend, fPop, fPopAt, fMin2, fMax2, fNeg, fIsN, fNotN, isNone, fSum, fSumT, fInX, fIxX, fLenX, r1F, r2F, rgOk, compStep, wipeD, putB, keepD, startS, outsD, outD, mBody, mBodyO, sPar, yNil, yCons, xE, xO, setH, setHs, rdOk, List.set, bind_ite, atI_0, atI_1, atI_2, ixN_0, ixN_1, List.getElem?_cons_zero, eCallB, okL_1, okL_2, okL_3, okL_4, lentS, pinv, frzB, lendB, lent1, List.idxOf?, List.findIdx?, List.findIdx?.go, putS, putS1, oD1X, fEqXE, hlast, dX]
      exact fun a b _ _ => rfl
    unfold lawWalk sFor
    rw [ei]
    exact e
  · rw [hk']
    have hdl : (dicsD b f n).length < 16777216 := by
      unfold dicsD
      rw [List.length_map, List.length_range]
      omega
    have hd1 : dicsD b f (n + 1) = dicsD b f n ++ [dicD (LL b f (n + 1))] := by
      unfold dicsD
      rw [List.range_succ (n := n + 1), List.map_append]
      rfl
    have hT : ((TL b f (n + 1) : Nat) : Int) = (TL b f n : Nat) + ((LL b f (n + 1)).length : Nat) := by
      rw [(LL_perm hb h1 (n + 1)).length_eq]
      show ((TL b f n + (PL b f (n + 1)).length : Nat) : Int) = _
      omega
    simp only [D, D2, hd1, hT]
    generalize dicsD b f n = ls at hdl
    simp [sSeq, sAsg, sOwn, sIf, sRet, sRetO, sRetV, sRetN, sDrop, sNext, sCont, sBreak, sAug, sFor, sSetL, eVar, eC, e1, e2, eB, eTup, eO, oB, o2, oLst, oCall, oDict0X, oLc, oLc2, aNil, aCons, tV, tAnd', tOr', tNot', tT', tYesF, truth', truth, eIf, eAnd, eOr, eNot, eCh, eMt, eMt0, eCall, eIsi, isaD, typeD, isDct, eCntT, eGetX, sPutX, frzV, frzs, val, vals, slD, slDat, cont, setC, isListD, free_eq, isFr_no, isFr_dat, isFr_own, isFr_bor, gN, gT, partsD, iL, iT, iR1, iR2, iEnL, iEnT, iZLL, iZTT, iZTL, iKeysX, iValsX, iItemsX, fI0, fI, fPlus, fCatT, fAddS, fCatL, fRepT, fRepL, fIx, fLen, fAbs, fInt, fTup, fList, fAppend, fExtend, fPop, fPopAt, fMin2, fMax2, fNeg, fIsN, fNotN, isNone, fSum, fSumT, fInX, fIxX, fLenX, r1F, r2F, rgOk, compStep, wipeD, putB, keepD, startS, outsD, outD, mBody, mBodyO, sPar, yNil, yCons, xE, xO, setH, setHs, rdOk, List.set, bind_ite, atI_0, atI_1, atI_2, ixN_0, ixN_1, List.getElem?_cons_zero, eCallB, okL_1, okL_2, okL_3, okL_4, lentS, pinv, frzB, lendB, lent1, List.idxOf?, List.findIdx?, List.findIdx?.go, putS, putS1, oD1X, fEqXE, sizeLine_eq, hdl, dicD, mkX, dX]
theorem e_lawLevels {b : List Kd} {f : Int × Int × Int} {len : Nat} (hb : BskOk b) (h1 : 1 ≤ f.2.2) (h3 : f.2.2 ≤ 3) (hl : len ≤ 100) : m__law_levels [bskD b, frD f, .int (len : Nat)] = some (.tuple [.list (dicsD b f (kF b f 0 len)), .int (TL b f (kF b f 0 len) : Nat)], [.none, .none, .none]) := by
  have hfirst := e_first hb
  obtain ⟨δ', e, t5, t6, t7, t8, t9, rfl, g5, g6, g7, g8, g9⟩ := while_all (c := (tAnd' (tV (e2 fLe (eB fLen (aCons (eVar 3) aNil)) (eVar 2))) (tAnd' (tV (e2 fLe (eVar 4) (eC (.int 80)))) (tV (e2 (fEqXE false) (e2 fIx (eVar 3) (e1 fNeg (eC (.int 1)))) (eO oDict0X)))))) (b := lawBody)
    (fun rem δ => ∃ (n : Nat) (s5 s6 s7 s8 s9 : Sl), δ = D2 b f len n s5 s6 s7 s8 s9 ∧ isFr s5 = true ∧ isFr s6 = true ∧ isFr s7 = true ∧ isFr s8 = true ∧ isFr s9 = true ∧ n + rem = len ∧ kF b f n rem = kF b f 0 len)
    (fun δ => ∃ s5 s6 s7 s8 s9 : Sl, δ = D2 b f len (kF b f 0 len) s5 s6 s7 s8 s9 ∧ isFr s5 = true ∧ isFr s6 = true ∧ isFr s7 = true ∧ isFr s8 = true ∧ isFr s9 = true)
    (by
      rintro rem δ ⟨n, s5, s6, s7, s8, s9, rfl, f5, f6, f7, f8, f9, hn, hk⟩
      have hdl : (dicsD b f n).length = n + 1 := by
        unfold dicsD
        rw [List.length_map, List.length_range]
      have hlast := dics_last b f n
      have hemp : (LL b f n = []) ↔ PL b f n = [] := by
        have := (LL_perm hb h1 n).length_eq
        constructor <;> intro z
        · rw [z] at this; exact List.eq_nil_of_length_eq_zero this.symm
        · rw [z] at this; exact List.eq_nil_of_length_eq_zero this
      have cond : ∀ B : Bool, B = (decide (n + 1 ≤ len) && (decide (TL b f n ≤ 80) && !(LL b f n).isEmpty)) → (tAnd' (tV (e2 fLe (eB fLen (aCons (eVar 3) aNil)) (eVar 2))) (tAnd' (tV (e2 fLe (eVar 4) (eC (.int 80)))) (tV (e2 (fEqXE false) (e2 fIx (eVar 3) (e1 fNeg (eC (.int 1)))) (eO oDict0X))))) (D2 b f len n s5 s6 s7 s8 s9) = some (B, D2 b f len n s5 s6 s7 s8 s9) := by
        intro B hB
        subst hB
        simp only [D2]
        generalize dicsD b f n = ls at hdl hlast
        unfold dicD mkX at hlast
        by_cases c1 : n + 1 ≤ len
        · have c1' : (n : Int) + 1 ≤ len := by omega
          by_cases c2 : TL b f n ≤ 80
          · have c2' : (TL b f n : Int) ≤ 80 := by omega
            simp [sSeq, sAsg, sOwn, sIf, sRet, sRetO, sRetV, sRetN, sDrop, sNext, sCont, sBreak, sAug, sFor, sSetL, eVar, eC, e1, e2, eB, eTup, eO, oB, o2, oLst, oCall, oDict0X, oLc, oLc2, aNil, aCons, tV, tAnd', tOr', tNot', tT', tYesF, truth', truth, eIf, eAnd, eOr, eNot, eCh, eMt, eMt0, eCall, eIsi, isaD, typeD, isDct, eCntT, eGetX, sPutX, frzV, frzs, val, vals, slD, slDat, cont, setC, isListD, free_eq, isFr_no, isFr_dat, isFr_own, isFr_bor, gN, gT, partsD, iL, iT, iR1, iR2, iEnL, iEnT, iZLL, iZTT, iZTL, iKeysX, iValsX, iItemsX, fI0, fI, fPlus, fCatT, fAddS, fCatL, fRepT, fRepL, fIx, fLen, fAbs, fInt, fTup, fList, fAppend, fExtend, fPop, fPopAt, fMin2, fMax2, fNeg, fIsN, fNotN, isNone, fSum, fSumT, fInX, fIxX, fLenX, r1F, r2F, rgOk, compStep, wipeD, putB, keepD, startS, outsD, outD, mBody, mBodyO, sPar, yNil, yCons, xE, xO, setH, setHs, rdOk, List.set, bind_ite, atI_0, atI_1, atI_2, ixN_0, ixN_1, List.getElem?_cons_zero, eCallB, okL_1, okL_2, okL_3, okL_4, lentS, pinv, frzB, lendB, lent1, List.idxOf?, List.findIdx?, List.findIdx?.go, putS, putS1, oD1X, fEqXE, hdl, hlast, dX, mkX, c1, c1', c2, c2']
          · have c2' : ¬ (TL b f n : Int) ≤ 80 := by omega
            simp [sSeq, sAsg, sOwn, sIf, sRet, sRetO, sRetV, sRetN, sDrop, sNext, sCont, sBreak, sAug, sFor, sSetL, eVar, eC, e1, e2, eB, eTup, eO, oB, o2, oLst, oCall, oDict0X, oLc, oLc2, aNil, aCons, tV, tAnd', tOr', tNot', tT', tYesF, truth', truth, eIf, eAnd, eOr, eNot, eCh, eMt, eMt0, eCall, eIsi, isaD, typeD, isDct, eCntT, eGetX, sPutX, frzV, frzs, val, vals, slD, slDat, cont, setC, isListD, free_eq, isFr_no, isFr_dat, isFr_own, isFr_bor, gN, gT, partsD, iL, iT, iR1, iR2, iEnL, iEnT, iZLL, iZTT, iZTL, iKeysX, iValsX, iItemsX, fI0, fI, fPlus, fCatT, fAddS, fCatL, fRepT, fRepL, fIx, fLen, fAbs, fInt, fTup, fList, fAppend, fExtend, fPop, fPopAt, fMin2, fMax2, fNeg, fIsN, fNotN, isNone, fSum, fSumT, fInX, fIxX, fLenX, r1F, r2F, rgOk, compStep, wipeD, putB, keepD, startS, outsD, outD, mBody, mBodyO, sPar, yNil, yCons, xE, xO, setH, setHs, rdOk, List.set, bind_ite, atI_0, atI_1, atI_2, ixN_0, ixN_1, List.getElem?_cons_zero, eCallB, okL_1, okL_2, okL_3, okL_4, lentS, pinv, frzB, lendB, lent1, List.idxOf?, List.findIdx?, List.findIdx?.go, putS, putS1, oD1X, fEqXE, hdl, hlast, dX, mkX, c1, c1', c2, c2']
        · have c1' : ¬ (n : Int) + 1 ≤ len := by omega
          simp [sSeq, sAsg, sOwn, sIf, sRet, sRetO, sRetV, sRetN, sDrop, sNext, sCont, sBreak, sAug, sFor, sSetL, eVar, eC, e1, e2, eB, eTup, eO, oB, o2, oLst, oCall, oDict0X, oLc, oLc2, aNil, aCons, tV, tAnd', tOr', tNot', tT', tYesF, truth', truth, eIf, eAnd, eOr, eNot, eCh, eMt, eMt0, eCall, eIsi, isaD, typeD, isDct, eCntT, eGetX, sPutX, frzV, frzs, val, vals, slD, slDat, cont, setC, isListD, free_eq, isFr_no, isFr_dat, isFr_own, isFr_bor, gN, gT, partsD, iL, iT, iR1, iR2, iEnL, iEnT, iZLL, iZTT, iZTL, iKeysX, iValsX, iItemsX, fI0, fI, fPlus, fCatT, fAddS, fCatL, fRepT, fRepL, fIx, fLen, fAbs, fInt, fTup, fList, fAppend, fExtend, fPop, fPopAt, fMin2, fMax2, fNeg, fIsN, fNotN, isNone, fSum, fSumT, fInX, fIxX, fLenX, r1F, r2F, rgOk, compStep, wipeD, putB, keepD, startS, outsD, outD, mBody, mBodyO, sPar, yNil, yCons, xE, xO, setH, setHs, rdOk, List.set, bind_ite, atI_0, atI_1, atI_2, ixN_0, ixN_1, List.getElem?_cons_zero, eCallB, okL_1, okL_2, okL_3, okL_4, lentS, pinv, frzB, lendB, lent1, List.idxOf?, List.findIdx?, List.findIdx?.go, putS, putS1, oD1X, fEqXE, hdl, hlast, dX, mkX, c1, c1']
      cases rem with
      | zero =>
        left
        refine ⟨_, cond false (by rw [decide_eq_false (by omega)]; rfl), s5, s6, s7, s8, s9, ?_, f5, f6, f7, f8, f9⟩
        rw [← hk]
        rfl
      | succ rem =>
        rw [kF] at hk
        by_cases c : 80 < TL b f n ∨ PL b f n = []
        · left
          rw [if_pos c] at hk
          refine ⟨_, cond false ?_, s5, s6, s7, s8, s9, by rw [← hk], f5, f6, f7, f8, f9⟩
          rcases c with c | c
          · rw [decide_eq_false (show ¬ TL b f n ≤ 80 by omega)]
            simp
          · rw [hemp.mpr c]
            simp
        · right
          rw [if_neg c] at hk
          have c1 : TL b f n ≤ 80 := by
            have : ¬ 80 < TL b f n := fun x => c (.inl x)
            omega
          have c2 : LL b f n ≠ [] := fun x => c (.inr (hemp.mp x))
          obtain ⟨t5, t6, t7, t8, t9, g5, g6, g7, g8, g9, hb'⟩ := e_lawBody (len := len) (n := n) hb h1 h3 (by omega) c1 f5 f6 f7 f8 f9
          refine ⟨_, _, rem, cond true ?_, hb', by omega, n + 1, t5, t6, t7, t8, t9, rfl, g5, g6, g7, g8, g9, by omega, hk⟩
          rw [decide_eq_true (show n + 1 ≤ len by omega), decide_eq_true c1]
          cases hx : LL b f n with
          | nil => exact absurd hx c2
          | cons _ _ => rfl)
    len (D2 b f len 0 .no .no .no .no .no) ⟨0, .no, .no, .no, .no, .no, rfl, rfl, rfl, rfl, rfl, rfl, by omega, rfl⟩
  refine mB_rt (δ := (D2 b f len (kF b f 0 len) t5 t6 t7 t8 t9).set 3 (.dat (.list (dicsD b f (kF b f 0 len))))) rfl ?_ rfl
  have hd0 : dicsD b f 0 = [dicD [(([], b.map (·.2)), 0)]] := rfl
  have hky := key_st ([], b.map (·.2))
  refine seq_to (δ' := D2 b f len 0 .no .no .no .no .no) ?_ (seq_to e ?_)
  · simp only [D2, hd0, dicD, mkX, List.map_cons, List.map_nil, kvD]
    simp [sSeq, sAsg, sOwn, sIf, sRet, sRetO, sRetV, sRetN, sDrop, sNext, sCont, sBreak, sAug, sFor, sSetL, eVar, eC, e1, e2, eB, eTup, eO, oB, o2, oLst, oCall, oDict0X, oLc, oLc2, aNil, aCons, tV, tAnd', tOr', tNot', tT', tYesF, truth', truth, eIf, eAnd, eOr, eNot, eCh, eMt, eMt0, eCall, eIsi, isaD, typeD, isDct, eCntT, eGetX, sPutX, frzV, frzs, val, vals, slD, slDat, cont, setC, isListD, free_eq, isFr_no, isFr_dat, isFr_own, isFr_bor, gN, gT, partsD, iL, iT, iR1, iR2, iEnL, iEnT, iZLL, iZTT, iZTL, iKeysX, iValsX, iItemsX, fI0, fI, fPlus, fCatT, fAddS, fCatL, fRepT, fRepL, fIx, fLen, fAbs, fInt, fTup, fList, fAppend, fExtend, fPop, fPopAt, fMin2, fMax2, fNeg, fIsN, fNotN, isNone, fSum, fSumT, fInX, fIxX, fLenX, r1F, r2F, rgOk, compStep, wipeD, putB, keepD, startS, outsD, outD, mBody, mBodyO, sPar, yNil, yCons, xE, xO, setH, setHs, rdOk, List.set, bind_ite, atI_0, atI_1, atI_2, ixN_0, ixN_1, List.getElem?_cons_zero, eCallB, okL_1, okL_2, okL_3, okL_4, lentS, pinv, frzB, lendB, lent1, List.idxOf?, List.findIdx?, List.findIdx?.go, putS, putS1, oD1X, fEqXE, hfirst, hky, mkX, sizeLine_eq, TL]
  · simp only [D2]
    simp [sSeq, sAsg, sOwn, sIf, sRet, sRetO, sRetV, sRetN, sDrop, sNext, sCont, sBreak, sAug, sFor, sSetL, eVar, eC, e1, e2, eB, eTup, eO, oB, o2, oLst, oCall, oDict0X, oLc, oLc2, aNil, aCons, tV, tAnd', tOr', tNot', tT', tYesF, truth', truth, eIf, eAnd, eOr, eNot, eCh, eMt, eMt0, eCall, eIsi, isaD, typeD, isDct, eCntT, eGetX, sPutX, frzV, frzs, val, vals, slD, slDat, cont, setC, isListD, free_eq, isFr_no, isFr_dat, isFr_own, isFr_bor, gN, gT, partsD, iL, iT, iR1, iR2, iEnL, iEnT, iZLL, iZTT, iZTL, iKeysX, iValsX, iItemsX, fI0, fI, fPlus, fCatT, fAddS, fCatL, fRepT, fRepL, fIx, fLen, fAbs, fInt, fTup, fList, fAppend, fExtend, fPop, fPopAt, fMin2, fMax2, fNeg, fIsN, fNotN, isNone, fSum, fSumT, fInX, fIxX, fLenX, r1F, r2F, rgOk, compStep, wipeD, putB, keepD, startS, outsD, outD, mBody, mBodyO, sPar, yNil, yCons, xE, xO, setH, setHs, rdOk, List.set, bind_ite, atI_0, atI_1, atI_2, ixN_0, ixN_1, List.getElem?_cons_zero, eCallB, okL_1, okL_2, okL_3, okL_4, lentS, pinv, frzB, lendB, lent1, List.idxOf?, List.findIdx?, List.findIdx?.go, putS, putS1, oD1X, fEqXE, sizeLine_eq]
/-! ### what is due, and the law -/
theorem lvl_sort {b : List Kd} {f : Int × Int × Int} (hb : BskOk b) (h1 : 1 ≤ f.2.2) : ∀ j, sortD ((LL b f j).map itD) = (PL b f j).map itD
  | 0 => by
    show sortD [itD (([], b.map (·.2)), 0)] = [itD (([], b.map (·.2)), 0)]
    exact List.mergeSort_singleton _
  | j + 1 => by
    show _ = (sortKv (minF (csN b f (PL b f j)))).map itD
    rw [← sortKv_eq]
    have hp : (LL b f (j + 1)).Perm (minF (csN b f (PL b f j))) := (LL_perm hb h1 (j + 1)).trans (sortKv_perm _)
    refine sort_eq (its_nk _) ?_ (hp.map _)
    intro d hd d' hd'
    obtain ⟨p, hp', rfl⟩ := List.mem_map.mp hd
    obtain ⟨q, hq, rfl⟩ := List.mem_map.mp hd'
    exact alike_it ((LL_ok hb h1 _ p hp').2.trans (LL_ok hb h1 _ q hq).2.symm)
theorem e_due {b : List Kd} {f : Int × Int × Int} {k most : Nat} (hb : BskOk b) (h1 : 1 ≤ f.2.2) (hk : k ≤ 1000) (hm : most ≤ 80) : m__law_due [.list (dicsD b f k), .int (TL b f k : Nat), .int (most : Nat)] = some (ansD b f (dueF b f most k), [.none, .none, .none]) := by
  have hlast := dics_last b f k
  have hdl : (dicsD b f k).length = k + 1 := by
    unfold dicsD
    rw [List.length_map, List.length_range]
  have b0 : startS [false, false, false] [.list (dicsD b f k), .int (TL b f k : Nat), .int (most : Nat)] ++ List.replicate 1 .no = [.dat (.list (dicsD b f k)), .dat (.int (TL b f k : Nat)), .dat (.int (most : Nat)), .no] := rfl
  have hemp : (LL b f k = []) ↔ PL b f k = [] := by
    have := (LL_perm hb h1 k).length_eq
    constructor <;> intro z
    · rw [z] at this; exact List.eq_nil_of_length_eq_zero this.symm
    · rw [z] at this; exact List.eq_nil_of_length_eq_zero this
  refine mB_rt (δ := [.dat (.list (dicsD b f k)), .dat (.int (TL b f k : Nat)), .dat (.int (most : Nat)), .no]) rfl ?_ rfl
  rw [b0]
  unfold dueF
  by_cases c : most < TL b f k
  · rw [if_pos c]
    have c' : (most : Int) < TL b f k := by omega
    simp [sSeq, sAsg, sOwn, sIf, sRet, sRetO, sRetV, sRetN, sDrop, sNext, sCont, sBreak, sAug, sSetL, eVar, eC, e1, e2, eB, eTup, eO, oB, o2, oLst, oCall, oDict0X, aNil, aCons, tV, tAnd', tOr', tNot', tT', tYesF, truth', truth, eIf, eAnd, eOr, eNot, eCh, eMt, eMt0, eIsi, isaD, typeD, isDct, eCntT, eGetX, sPutX, frzV, frzs, val, vals, slD, slDat, cont, setC, isListD, free_eq, isFr_no, isFr_dat, isFr_own, isFr_bor, gN, gT, partsD, iL, iT, iR1, iR2, iEnL, iEnT, iZLL, iZTT, iZTL, iKeysX, iValsX, iItemsX, fI0, fI, fPlus, fCatT, fAddS, fCatL, fRepT, fRepL, fIx, fLen, fAbs, fInt, fTup, fList, fAppend, fExtend, fPop, fPopAt, fMin2, fMax2, fNeg, fIsN, fNotN, isNone, fSum, fSumT, fInX, fIxX, fLenX, r1F, r2F, rgOk, wipeD, putB, keepD, startS, outsD, outD, mBody, mBodyO, sPar, yNil, yCons, xE, xO, setH, setHs, rdOk, List.set, bind_ite, atI_0, atI_1, atI_2, ixN_0, ixN_1, List.getElem?_cons_zero, okL_1, okL_2, okL_3, okL_4, lentS, pinv, frzB, lendB, lent1, List.idxOf?, List.findIdx?, List.findIdx?.go, putS, putS1, oD1X, fEqXE, ansD, c, c', sizeLine_eq]
  · rw [if_neg c]
    have c' : ¬ (most : Int) < TL b f k := by omega
    refine seq_to (δ' := [.dat (.list (dicsD b f k)), .dat (.int (TL b f k : Nat)), .dat (.int (most : Nat)), .no]) (by simp [sSeq, sAsg, sOwn, sIf, sRet, sRetO, sRetV, sRetN, sDrop, sNext, sCont, sBreak, sAug, sSetL, eVar, eC, e1, e2, eB, eTup, eO, oB, o2, oLst, oCall, oDict0X, aNil, aCons, tV, tAnd', tOr', tNot', tT', tYesF, truth', truth, eIf, eAnd, eOr, eNot, eCh, eMt, eMt0, eIsi, isaD, typeD, isDct, eCntT, eGetX, sPutX, frzV, frzs, val, vals, slD, slDat, cont, setC, isListD, free_eq, isFr_no, isFr_dat, isFr_own, isFr_bor, gN, gT, partsD, iL, iT, iR1, iR2, iEnL, iEnT, iZLL, iZTT, iZTL, iKeysX, iValsX, iItemsX, fI0, fI, fPlus, fCatT, fAddS, fCatL, fRepT, fRepL, fIx, fLen, fAbs, fInt, fTup, fList, fAppend, fExtend, fPop, fPopAt, fMin2, fMax2, fNeg, fIsN, fNotN, isNone, fSum, fSumT, fInX, fIxX, fLenX, r1F, r2F, rgOk, wipeD, putB, keepD, startS, outsD, outD, mBody, mBodyO, sPar, yNil, yCons, xE, xO, setH, setHs, rdOk, List.set, bind_ite, atI_0, atI_1, atI_2, ixN_0, ixN_1, List.getElem?_cons_zero, okL_1, okL_2, okL_3, okL_4, lentS, pinv, frzB, lendB, lent1, List.idxOf?, List.findIdx?, List.findIdx?.go, putS, putS1, oD1X, fEqXE, c, c']) ?_
    have hx : tV (e2 (fEqXE true) (e2 fIx (eVar 0) (e1 fNeg (eC (.int 1)))) (eO oDict0X)) [.dat (.list (dicsD b f k)), .dat (.int (TL b f k : Nat)), .dat (.int (most : Nat)), .no] = some ((LL b f k).isEmpty, [.dat (.list (dicsD b f k)), .dat (.int (TL b f k : Nat)), .dat (.int (most : Nat)), .no]) := by
      generalize dicsD b f k = ls at hlast ⊢
      unfold dicD mkX at hlast
      simp [sSeq, sAsg, sOwn, sIf, sRet, sRetO, sRetV, sRetN, sDrop, sNext, sCont, sBreak, sAug, sSetL, eVar, eC, e1, e2, eB, eTup, eO, oB, o2, oLst, oCall, oDict0X, aNil, aCons, tV, tAnd', tOr', tNot', tT', tYesF, truth', truth, eIf, eAnd, eOr, eNot, eCh, eMt, eMt0, eIsi, isaD, typeD, isDct, eCntT, eGetX, sPutX, frzV, frzs, val, vals, slD, slDat, cont, setC, isListD, free_eq, isFr_no, isFr_dat, isFr_own, isFr_bor, gN, gT, partsD, iL, iT, iR1, iR2, iEnL, iEnT, iZLL, iZTT, iZTL, iKeysX, iValsX, iItemsX, fI0, fI, fPlus, fCatT, fAddS, fCatL, fRepT, fRepL, fIx, fLen, fAbs, fInt, fTup, fList, fAppend, fExtend, fPop, fPopAt, fMin2, fMax2, fNeg, fIsN, fNotN, isNone, fSum, fSumT, fInX, fIxX, fLenX, r1F, r2F, rgOk, wipeD, putB, keepD, startS, outsD, outD, mBody, mBodyO, sPar, yNil, yCons, xE, xO, setH, setHs, rdOk, List.set, bind_ite, atI_0, atI_1, atI_2, ixN_0, ixN_1, List.getElem?_cons_zero, okL_1, okL_2, okL_3, okL_4, lentS, pinv, frzB, lendB, lent1, List.idxOf?, List.findIdx?, List.findIdx?.go, putS, putS1, oD1X, fEqXE, hlast, dX, mkX]
    by_cases z : PL b f k = []
    · rw [if_pos z]
      have hz := hemp.mpr z
      have hk1 : 1 ≤ k := by
        cases k with
        | zero => cases z
        | succ k => omega
      have hsub : ((k : Int) + 1 - 2) = ((k - 1 : Nat) : Int) := by omega
      refine seq_rt ?_
      unfold sIf
      rw [hx, hz]
      generalize dicsD b f k = ls at hdl ⊢
      simp [sSeq, sAsg, sOwn, sIf, sRet, sRetO, sRetV, sRetN, sDrop, sNext, sCont, sBreak, sAug, sSetL, eVar, eC, e1, e2, eB, eTup, eO, oB, o2, oLst, oCall, oDict0X, aNil, aCons, tV, tAnd', tOr', tNot', tT', tYesF, truth', truth, eIf, eAnd, eOr, eNot, eCh, eMt, eMt0, eIsi, isaD, typeD, isDct, eCntT, eGetX, sPutX, frzV, frzs, val, vals, slD, slDat, cont, setC, isListD, free_eq, isFr_no, isFr_dat, isFr_own, isFr_bor, gN, gT, partsD, iL, iT, iR1, iR2, iEnL, iEnT, iZLL, iZTT, iZTL, iKeysX, iValsX, iItemsX, fI0, fI, fPlus, fCatT, fAddS, fCatL, fRepT, fRepL, fIx, fLen, fAbs, fInt, fTup, fList, fAppend, fExtend, fPop, fPopAt, fMin2, fMax2, fNeg, fIsN, fNotN, isNone, fSum, fSumT, fInX, fIxX, fLenX, r1F, r2F, rgOk, wipeD, putB, keepD, startS, outsD, outD, mBody, mBodyO, sPar, yNil, yCons, xE, xO, setH, setHs, rdOk, List.set, bind_ite, atI_0, atI_1, atI_2, ixN_0, ixN_1, List.getElem?_cons_zero, okL_1, okL_2, okL_3, okL_4, lentS, pinv, frzB, lendB, lent1, List.idxOf?, List.findIdx?, List.findIdx?.go, putS, putS1, oD1X, fEqXE, ansD, sizeLine_eq, hdl, hsub]
    · rw [if_neg z]
      have hz : LL b f k ≠ [] := fun x => z (hemp.mp x)
      have hz' : (LL b f k).isEmpty = false := by
        cases hx : LL b f k with
        | nil => exact absurd hx hz
        | cons _ _ => rfl
      refine seq_to (δ' := [.dat (.list (dicsD b f k)), .dat (.int (TL b f k : Nat)), .dat (.int (most : Nat)), .no]) ?_ ?_
      · unfold sIf
        rw [hx, hz']
        simp [sNext]
      · have hTL : ∀ j ∈ List.range (k + 1), (LL b f j).length ≤ 80 := fun j hj => by
          have := List.mem_range.mp hj
          rw [(LL_perm hb h1 j).length_eq]
          have h2 := PL_le (b := b) (f := f) j
          have h3 := TL_le b f (show j ≤ k by omega)
          omega
        have hlc := lc_map (enc := fun j : Nat => dicD (LL b f j)) (it := iL (eVar 0)) (vs := [3]) (g := gN 3) (t := tYesF) (e := eB fTup (aCons (eO (oSortIX (eVar 3))) aNil)) (δ := [.dat (.list (dicsD b f k)), .dat (.int (TL b f k : Nat)), .dat (.int (most : Nat)), .no]) (δ' := [.dat (.list (dicsD b f k)), .dat (.int (TL b f k : Nat)), .dat (.int (most : Nat)), .no]) (fun j => lvlD (PL b f j)) (List.range (k + 1)) (by simp [sSeq, sAsg, sOwn, sIf, sRet, sRetO, sRetV, sRetN, sDrop, sNext, sCont, sBreak, sAug, sFor, sSetL, eVar, eC, e1, e2, eB, eTup, eO, oB, o2, oLst, oCall, oDict0X, oLc, oLc2, aNil, aCons, tV, tAnd', tOr', tNot', tT', tYesF, truth', truth, eIf, eAnd, eOr, eNot, eCh, eMt, eMt0, eCall, eIsi, isaD, typeD, isDct, eCntT, eGetX, sPutX, frzV, frzs, val, vals, slD, slDat, cont, setC, isListD, free_eq, isFr_no, isFr_dat, isFr_own, isFr_bor, gN, gT, partsD, iL, iT, iR1, iR2, iEnL, iEnT, iZLL, iZTT, iZTL, iKeysX, iValsX, iItemsX, fI0, fI, fPlus, fCatT, fAddS, fCatL, fRepT, fRepL, fIx, fLen, fAbs, fInt, fTup, fList, fAppend, fExtend, fPop, fPopAt, fMin2, fMax2, fNeg, fIsN, fNotN, isNone, fSum, fSumT, fInX, fIxX, fLenX, r1F, r2F, rgOk, compStep, wipeD, putB, keepD, startS, outsD, outD, mBody, mBodyO, sPar, yNil, yCons, xE, xO, setH, setHs, rdOk, List.set, bind_ite, atI_0, atI_1, atI_2, ixN_0, ixN_1, List.getElem?_cons_zero, eCallB, okL_1, okL_2, okL_3, okL_4, lentS, pinv, frzB, lendB, lent1, List.idxOf?, List.findIdx?, List.findIdx?.go, putS, putS1, oD1X, fEqXE, dicsD]) (fun j hj => by
          have hok := ok_its (kvs := LL b f j) (fun p hp => (LL_ok hb h1 j p hp).2) (by have := hTL j hj; rw [sizeLine_eq]; omega)
          have hso := lvl_sort hb h1 j
          unfold lvlD
          rw [← hso]
          simp only [dicD, mkX]
          simp [sSeq, sAsg, sOwn, sIf, sRet, sRetO, sRetV, sRetN, sDrop, sNext, sCont, sBreak, sAug, sFor, sSetL, eVar, eC, e1, e2, eB, eTup, eO, oB, o2, oLst, oCall, oDict0X, oLc, oLc2, aNil, aCons, tV, tAnd', tOr', tNot', tT', tYesF, truth', truth, eIf, eAnd, eOr, eNot, eCh, eMt, eMt0, eCall, eIsi, isaD, typeD, isDct, eCntT, eGetX, sPutX, frzV, frzs, val, vals, slD, slDat, cont, setC, isListD, free_eq, isFr_no, isFr_dat, isFr_own, isFr_bor, gN, gT, partsD, iL, iT, iR1, iR2, iEnL, iEnT, iZLL, iZTT, iZTL, iKeysX, iValsX, iItemsX, fI0, fI, fPlus, fCatT, fAddS, fCatL, fRepT, fRepL, fIx, fLen, fAbs, fInt, fTup, fList, fAppend, fExtend, fPop, fPopAt, fMin2, fMax2, fNeg, fIsN, fNotN, isNone, fSum, fSumT, fInX, fIxX, fLenX, r1F, r2F, rgOk, compStep, wipeD, putB, keepD, startS, outsD, outD, mBody, mBodyO, sPar, yNil, yCons, xE, xO, setH, setHs, rdOk, List.set, bind_ite, atI_0, atI_1, atI_2, ixN_0, ixN_1, List.getElem?_cons_zero, eCallB, okL_1, okL_2, okL_3, okL_4, lentS, pinv, frzB, lendB, lent1, List.idxOf?, List.findIdx?, List.findIdx?.go, putS, putS1, oD1X, fEqXE, oSortIX, dX]
          exact ⟨hok, rfl⟩) (by rw [List.length_range, sizeLine_eq]; omega)
        simp [sSeq, sAsg, sOwn, sIf, sRet, sRetO, sRetV, sRetN, sDrop, sNext, sCont, sBreak, sAug, sSetL, eVar, eC, e1, e2, eB, eTup, eO, oB, o2, oLst, oCall, oDict0X, aNil, aCons, tV, tAnd', tOr', tNot', tT', tYesF, truth', truth, eIf, eAnd, eOr, eNot, eCh, eMt, eMt0, eIsi, isaD, typeD, isDct, eCntT, eGetX, sPutX, frzV, frzs, val, vals, slD, slDat, cont, setC, isListD, free_eq, isFr_no, isFr_dat, isFr_own, isFr_bor, gN, gT, partsD, iL, iT, iR1, iR2, iEnL, iEnT, iZLL, iZTT, iZTL, iKeysX, iValsX, iItemsX, fI0, fI, fPlus, fCatT, fAddS, fCatL, fRepT, fRepL, fIx, fLen, fAbs, fInt, fTup, fList, fAppend, fExtend, fPop, fPopAt, fMin2, fMax2, fNeg, fIsN, fNotN, isNone, fSum, fSumT, fInX, fIxX, fLenX, r1F, r2F, rgOk, wipeD, putB, keepD, startS, outsD, outD, mBody, mBodyO, sPar, yNil, yCons, xE, xO, setH, setHs, rdOk, List.set, bind_ite, atI_0, atI_1, atI_2, ixN_0, ixN_1, List.getElem?_cons_zero, okL_1, okL_2, okL_3, okL_4, lentS, pinv, frzB, lendB, lent1, List.idxOf?, List.findIdx?, List.findIdx?.go, putS, putS1, oD1X, fEqXE, hlc, ansD, sizeLine_eq]
theorem res_ok {b : List Kd} {f : Int × Int × Int} {most : Nat} : ∀ (rem i : Nat), TL b f i ≤ most → ∀ n, resF b f most i rem = .levels n → n ≤ i + rem ∧ TL b f n ≤ most
  | 0, i, ht, n, h => by
    rw [resF] at h
    cases h
    exact ⟨Nat.le_refl _, ht⟩
  | rem + 1, i, ht, n, h => by
    rw [resF] at h
    by_cases c : most < TL b f (i + 1)
    · rw [if_pos c] at h
      cases h
    · rw [if_neg c] at h
      by_cases z : PL b f (i + 1) = []
      · rw [if_pos z] at h
        cases h
      · rw [if_neg z] at h
        obtain ⟨h1, h2⟩ := res_ok rem (i + 1) (by omega) n h
        exact ⟨by omega, h2⟩
theorem pl_ans {b : List Kd} {f : Int × Int × Int} (hb : BskOk b) (h1 : 1 ≤ f.2.2) (h3 : f.2.2 ≤ 3) {a : Ans} (ha : ∀ n, a = .levels n → n ≤ 100 ∧ TL b f n ≤ 80) : Pl 9 (ansD b f a) := by
  have two : ∀ (n : Nat) (x y : DT), Pl n x → Pl n y → Pl (n + 1) (.tuple [x, y]) := fun n x y hx hy => .tup n _ (fun z hz => by
    rcases List.mem_cons.mp hz with rfl | hz
    · exact hx
    · cases List.mem_singleton.mp hz
      exact hy) (by show 2 ≤ 65536; decide)
  cases a with
  | never i => exact two 8 _ _ (.str _ _ (by decide +kernel)) (.int _ _)
  | opened => exact two 8 _ _ (.str _ _ (by decide +kernel)) (.none _)
  | levels n =>
    obtain ⟨hn, ht⟩ := ha n rfl
    refine two 8 _ _ (.str _ _ (by decide +kernel)) (.tup 7 _ (fun x hx => ?_) (by rw [List.length_map, List.length_range]; omega))
    obtain ⟨j, hj, rfl⟩ := List.mem_map.mp hx
    have hj := List.mem_range.mp hj
    have h2 := PL_le (b := b) (f := f) j
    have h4 := TL_le b f (show j ≤ n by omega)
    refine .tup 6 _ (fun x hx => ?_) (by rw [List.length_map]; omega)
    obtain ⟨p, hp, rfl⟩ := List.mem_map.mp hx
    obtain ⟨hs, _⟩ := PL_ok hb h1 j p hp
    exact two 5 _ _ (pl_st (by have := hs.len; omega) (by have := hs.many.1; omega) 2) (.int _ _)
theorem e_law (ns : List Int) (hn : ns.length ≤ 63) : m_law [scrD ns] = some (.bool true, [.none]) := by
  obtain ⟨p, q1, hp⟩ := e_pot (ns := ns) (i := 0) hn (by decide) (by decide)
  obtain ⟨b, f, p2, q2, hb, h1, h3, hp2⟩ := e_set hp
  obtain ⟨r, p3, q3, r0, r1, hp3⟩ := e_take hp2 (n := 21) (by decide) (by decide)
  obtain ⟨len, rfl⟩ : ∃ len : Nat, r = len := ⟨r.toNat, by omega⟩
  have q4 := e_lawLevels (b := b) (f := f) (len := len) hb h1 h3 (by omega)
  have hkl : kF b f 0 len ≤ 1000 := by
    have : ∀ rem i, kF b f i rem ≤ i + rem := by
      intro rem
      induction rem with
      | zero => intro i; exact Nat.le_refl _
      | succ rem ih =>
        intro i
        rw [kF]
        split
        · omega
        · have := ih (i + 1)
          omega
    have := this len 0
    omega
  obtain ⟨s, p4, q5, s0, s1, hp4⟩ := e_take hp3 (n := 20) (by decide) (by decide)
  obtain ⟨s, rfl⟩ : ∃ m : Nat, s = m := ⟨s.toNat, by omega⟩
  have hT1 : 1 ≤ TL b f (kF b f 0 len) := TL_le b f (Nat.zero_le _)
  have hsame : ∀ m : Nat, 1 ≤ m → m ≤ 80 → m_levels_of [bskD b, frD f, .int (len : Nat), .int (m : Nat)] = some (ansD b f (resF b f m 0 len), [.none, .none, .none, .none]) ∧ m__law_due [.list (dicsD b f (kF b f 0 len)), .int (TL b f (kF b f 0 len) : Nat), .int (m : Nat)] = some (ansD b f (resF b f m 0 len), [.none, .none, .none]) ∧ m__law_same [ansD b f (resF b f m 0 len), ansD b f (resF b f m 0 len)] = some (.bool true, [.none, .none]) := by
    intro m m1 m8
    refine ⟨e_levelsOf hb h1 h3 (by omega) m1 m8, ?_, e_same 9 _ (pl_ans hb h1 h3 fun n hn' => ?_)⟩
    · rw [← due_res m8 len 0 m1 (by simp [PL])]
      exact e_due hb h1 hkl m8
    · obtain ⟨g1, g2⟩ := res_ok len 0 m1 n hn'
      omega
  generalize kF b f 0 len = k at *
  generalize hTk : TL b f k = T at *
  let D (pp : DT) (s7 : Sl) : DS := [.dat (scrD ns), .own pp, .dat (bskD b), .dat (frD f), .dat (.int (len : Nat)), .dat (.list (dicsD b f k)), .dat (.int (T : Nat)), s7]
  let xs : List Nat := [1 + s, max 1 (min 80 (T - 1)), min 80 T, 80]
  have hxs : ∀ x ∈ xs, 1 ≤ x ∧ x ≤ 80 := by
    intro x hx
    simp only [xs, List.mem_cons, List.not_mem_nil, or_false] at hx
    omega
  have it : iT (eTup (aCons (e2 fPlus (eC (.int 1)) (eCallB [true, false] m__law_take (aCons (eVar 1) (aCons (eC (.int 20)) aNil)))) (aCons (eB fMax2 (aCons (eC (.int 1)) (aCons (eB fMin2 (aCons (eC (.int 80)) (aCons (e2 fSub (eVar 6) (eC (.int 1))) aNil))) aNil))) (aCons (eB fMin2 (aCons (eC (.int 80)) (aCons (eVar 6) aNil))) (aCons (eC (.int 80)) aNil))))) (D p3 .no) = some (xs.map fun (i : Nat) => PyData.int (i : Int), D p4 .no) := by
    have v1 : ((1 + s : Nat) : Int) = 1 + (s : Int) := by omega
    have v2 : ((max 1 (min 80 (T - 1)) : Nat) : Int) = if 1 < (if (T : Int) - 1 < 80 then (T : Int) - 1 else 80) then (if (T : Int) - 1 < 80 then (T : Int) - 1 else 80) else 1 := by
      split <;> split at * <;> omega
    have v3 : ((min 80 T : Nat) : Int) = if (T : Int) < 80 then (T : Int) else 80 := by
      split <;> omega
    have hx : xs.map (fun (i : Nat) => PyData.int (i : Int)) = [.int ((1 + s : Nat) : Int), .int ((max 1 (min 80 (T - 1)) : Nat) : Int), .int ((min 80 T : Nat) : Int), .int 80] := rfl
    rw [hx, v1, v2, v3]
    simp only [D]
    simp [sSeq, sAsg, sOwn, sIf, sRet, sRetO, sRetV, sRetN, sDrop, sNext, sCont, sBreak, sAug, sFor, sSetL, eVar, eC, e1, e2, eB, eTup, eO, oB, o2, oLst, oCall, oDict0X, oLc, oLc2, aNil, aCons, tV, tAnd', tOr', tNot', tT', tYesF, truth', truth, eIf, eAnd, eOr, eNot, eCh, eMt, eMt0, eCall, eIsi, isaD, typeD, isDct, eCntT, eGetX, sPutX, frzV, frzs, val, vals, slD, slDat, cont, setC, isListD, free_eq, isFr_no, isFr_dat, isFr_own, isFr_bor, gN, gT, partsD, iL, iT, iR1, iR2, iEnL, iEnT, iZLL, iZTT, iZTL, iKeysX, iValsX, iItemsX, fI0, fI, fPlus, fCatT, fAddS, fCatL, fRepT, fRepL, fIx, fLen, fAbs, fInt, fTup, fList, fAppend, fExtend, fPop, fPopAt, fMin2, fMax2, fNeg, fIsN, fNotN, isNone, fSum, fSumT, fInX, fIxX, fLenX, r1F, r2F, rgOk, compStep, wipeD, putB, keepD, startS, outsD, outD, mBody, mBodyO, sPar, yNil, yCons, xE, xO, setH, setHs, rdOk, List.set, bind_ite, atI_0, atI_1, atI_2, ixN_0, ixN_1, List.getElem?_cons_zero, eCallB, okL_1, okL_2, okL_3, okL_4, lentS, pinv, frzB, lendB, lent1, List.idxOf?, List.findIdx?, List.findIdx?.go, putS, putS1, oD1X, fEqXE, q5, sizeLine_eq]
  obtain ⟨δ', e, s7, rfl, f7, _⟩ := loop_all (enc := fun i : Nat => PyData.int (i : Int)) (g := gN 7) (b := sIf (tNot' (tV (eCall m__law_same (aCons (eCall m_levels_of (aCons (eVar 2) (aCons (eVar 3) (aCons (eVar 4) (aCons (eVar 7) aNil))))) (aCons (eCall m__law_due (aCons (eVar 5) (aCons (eVar 6) (aCons (eVar 7) aNil)))) aNil)))))
    (sRet (eC (.bool false)))
    sNext) xs
    (fun r δ => ∃ s7 : Sl, δ = D p4 s7 ∧ isFr s7 = true ∧ ∀ x ∈ r, x ∈ xs)
    (D p4 .no)
    (by
      rintro m r δ ⟨s7, rfl, f7, hr⟩
      obtain ⟨m1, m8⟩ := hxs m (hr m List.mem_cons_self)
      obtain ⟨w1, w2, w3⟩ := hsame m m1 m8
      refine ⟨D p4 (.dat (.int (m : Nat))), ?_, .dat (.int (m : Nat)), rfl, rfl, fun x h => hr x (List.mem_cons_of_mem _ h)⟩
      have u1 : gN 7 (.int (m : Nat)) (D p4 s7) = some (D p4 (.dat (.int (m : Nat)))) := by simp [sSeq, sAsg, sOwn, sIf, sRet, sRetO, sRetV, sRetN, sDrop, sNext, sCont, sBreak, sAug, sFor, sSetL, eVar, eC, e1, e2, eB, eTup, eO, oB, o2, oLst, oCall, oDict0X, oLc, oLc2, aNil, aCons, tV, tAnd', tOr', tNot', tT', tYesF, truth', truth, eIf, eAnd, eOr, eNot, eCh, eMt, eMt0, eCall, eIsi, isaD, typeD, isDct, eCntT, eGetX, sPutX, frzV, frzs, val, vals, slD, slDat, cont, setC, isListD, free_eq, isFr_no, isFr_dat, isFr_own, isFr_bor, gN, gT, partsD, iL, iT, iR1, iR2, iEnL, iEnT, iZLL, iZTT, iZTL, iKeysX, iValsX, iItemsX, fI0, fI, fPlus, fCatT, fAddS, fCatL, fRepT, fRepL, fIx, fLen, fAbs, fInt, fTup, fList, fAppend, fExtend, fPop, fPopAt, fMin2, fMax2, fNeg, fIsN, fNotN, isNone, fSum, fSumT, fInX, fIxX, fLenX, r1F, r2F, rgOk, compStep, wipeD, putB, keepD, startS, outsD, outD, mBody, mBodyO, sPar, yNil, yCons, xE, xO, setH, setHs, rdOk, List.set, bind_ite, atI_0, atI_1, atI_2, ixN_0, ixN_1, List.getElem?_cons_zero, eCallB, okL_1, okL_2, okL_3, okL_4, lentS, pinv, frzB, lendB, lent1, List.idxOf?, List.findIdx?, List.findIdx?.go, putS, putS1, oD1X, fEqXE, D, f7]
      rw [u1, Option.bind_some]
      simp only [D]
      simp [sSeq, sAsg, sOwn, sIf, sRet, sRetO, sRetV, sRetN, sDrop, sNext, sCont, sBreak, sAug, sFor, sSetL, eVar, eC, e1, e2, eB, eTup, eO, oB, o2, oLst, oCall, oDict0X, oLc, oLc2, aNil, aCons, tV, tAnd', tOr', tNot', tT', tYesF, truth', truth, eIf, eAnd, eOr, eNot, eCh, eMt, eMt0, eCall, eIsi, isaD, typeD, isDct, eCntT, eGetX, sPutX, frzV, frzs, val, vals, slD, slDat, cont, setC, isListD, free_eq, isFr_no, isFr_dat, isFr_own, isFr_bor, gN, gT, partsD, iL, iT, iR1, iR2, iEnL, iEnT, iZLL, iZTT, iZTL, iKeysX, iValsX, iItemsX, fI0, fI, fPlus, fCatT, fAddS, fCatL, fRepT, fRepL, fIx, fLen, fAbs, fInt, fTup, fList, fAppend, fExtend, fPop, fPopAt, fMin2, fMax2, fNeg, fIsN, fNotN, isNone, fSum, fSumT, fInX, fIxX, fLenX, r1F, r2F, rgOk, compStep, wipeD, putB, keepD, startS, outsD, outD, mBody, mBodyO, sPar, yNil, yCons, xE, xO, setH, setHs, rdOk, List.set, bind_ite, atI_0, atI_1, atI_2, ixN_0, ixN_1, List.getElem?_cons_zero, eCallB, okL_1, okL_2, okL_3, okL_4, lentS, pinv, frzB, lendB, lent1, List.idxOf?, List.findIdx?, List.findIdx?.go, putS, putS1, oD1X, fEqXE, w1, w2, w3])
    ⟨.no, rfl, rfl, fun x h => h⟩
  refine mB_rt (δ := D p4 s7) rfl ?_ rfl
  have b0 : startS [false] [scrD ns] ++ List.replicate 7 .no = [.dat (scrD ns), .no, .no, .no, .no, .no, .no, .no] := rfl
  rw [b0]
  refine seq_to (δ' := [.dat (scrD ns), .own p, .no, .no, .no, .no, .no, .no]) (by simp [sSeq, sAsg, sOwn, sIf, sRet, sRetO, sRetV, sRetN, sDrop, sNext, sCont, sBreak, sAug, sFor, sSetL, eVar, eC, e1, e2, eB, eTup, eO, oB, o2, oLst, oCall, oDict0X, oLc, oLc2, aNil, aCons, tV, tAnd', tOr', tNot', tT', tYesF, truth', truth, eIf, eAnd, eOr, eNot, eCh, eMt, eMt0, eCall, eIsi, isaD, typeD, isDct, eCntT, eGetX, sPutX, frzV, frzs, val, vals, slD, slDat, cont, setC, isListD, free_eq, isFr_no, isFr_dat, isFr_own, isFr_bor, gN, gT, partsD, iL, iT, iR1, iR2, iEnL, iEnT, iZLL, iZTT, iZTL, iKeysX, iValsX, iItemsX, fI0, fI, fPlus, fCatT, fAddS, fCatL, fRepT, fRepL, fIx, fLen, fAbs, fInt, fTup, fList, fAppend, fExtend, fPop, fPopAt, fMin2, fMax2, fNeg, fIsN, fNotN, isNone, fSum, fSumT, fInX, fIxX, fLenX, r1F, r2F, rgOk, compStep, wipeD, putB, keepD, startS, outsD, outD, mBody, mBodyO, sPar, yNil, yCons, xE, xO, setH, setHs, rdOk, List.set, bind_ite, atI_0, atI_1, atI_2, ixN_0, ixN_1, List.getElem?_cons_zero, eCallB, okL_1, okL_2, okL_3, okL_4, lentS, pinv, frzB, lendB, lent1, List.idxOf?, List.findIdx?, List.findIdx?.go, putS, putS1, oD1X, fEqXE, q1]) ?_
  refine seq_to (δ' := [.dat (scrD ns), .own p2, .dat (bskD b), .dat (frD f), .no, .no, .no, .no]) (by simp [sSeq, sAsg, sOwn, sIf, sRet, sRetO, sRetV, sRetN, sDrop, sNext, sCont, sBreak, sAug, sFor, sSetL, eVar, eC, e1, e2, eB, eTup, eO, oB, o2, oLst, oCall, oDict0X, oLc, oLc2, aNil, aCons, tV, tAnd', tOr', tNot', tT', tYesF, truth', truth, eIf, eAnd, eOr, eNot, eCh, eMt, eMt0, eCall, eIsi, isaD, typeD, isDct, eCntT, eGetX, sPutX, frzV, frzs, val, vals, slD, slDat, cont, setC, isListD, free_eq, isFr_no, isFr_dat, isFr_own, isFr_bor, gN, gT, partsD, iL, iT, iR1, iR2, iEnL, iEnT, iZLL, iZTT, iZTL, iKeysX, iValsX, iItemsX, fI0, fI, fPlus, fCatT, fAddS, fCatL, fRepT, fRepL, fIx, fLen, fAbs, fInt, fTup, fList, fAppend, fExtend, fPop, fPopAt, fMin2, fMax2, fNeg, fIsN, fNotN, isNone, fSum, fSumT, fInX, fIxX, fLenX, r1F, r2F, rgOk, compStep, wipeD, putB, keepD, startS, outsD, outD, mBody, mBodyO, sPar, yNil, yCons, xE, xO, setH, setHs, rdOk, List.set, bind_ite, atI_0, atI_1, atI_2, ixN_0, ixN_1, List.getElem?_cons_zero, eCallB, okL_1, okL_2, okL_3, okL_4, lentS, pinv, frzB, lendB, lent1, List.idxOf?, List.findIdx?, List.findIdx?.go, putS, putS1, oD1X, fEqXE, q2]) ?_
  refine seq_to (δ' := [.dat (scrD ns), .own p3, .dat (bskD b), .dat (frD f), .dat (.int (len : Nat)), .no, .no, .no]) (by simp [sSeq, sAsg, sOwn, sIf, sRet, sRetO, sRetV, sRetN, sDrop, sNext, sCont, sBreak, sAug, sFor, sSetL, eVar, eC, e1, e2, eB, eTup, eO, oB, o2, oLst, oCall, oDict0X, oLc, oLc2, aNil, aCons, tV, tAnd', tOr', tNot', tT', tYesF, truth', truth, eIf, eAnd, eOr, eNot, eCh, eMt, eMt0, eCall, eIsi, isaD, typeD, isDct, eCntT, eGetX, sPutX, frzV, frzs, val, vals, slD, slDat, cont, setC, isListD, free_eq, isFr_no, isFr_dat, isFr_own, isFr_bor, gN, gT, partsD, iL, iT, iR1, iR2, iEnL, iEnT, iZLL, iZTT, iZTL, iKeysX, iValsX, iItemsX, fI0, fI, fPlus, fCatT, fAddS, fCatL, fRepT, fRepL, fIx, fLen, fAbs, fInt, fTup, fList, fAppend, fExtend, fPop, fPopAt, fMin2, fMax2, fNeg, fIsN, fNotN, isNone, fSum, fSumT, fInX, fIxX, fLenX, r1F, r2F, rgOk, compStep, wipeD, putB, keepD, startS, outsD, outD, mBody, mBodyO, sPar, yNil, yCons, xE, xO, setH, setHs, rdOk, List.set, bind_ite, atI_0, atI_1, atI_2, ixN_0, ixN_1, List.getElem?_cons_zero, eCallB, okL_1, okL_2, okL_3, okL_4, lentS, pinv, frzB, lendB, lent1, List.idxOf?, List.findIdx?, List.findIdx?.go, putS, putS1, oD1X, fEqXE, q3]) ?_
  refine seq_to (δ' := D p3 .no) (by simp [sSeq, sAsg, sOwn, sIf, sRet, sRetO, sRetV, sRetN, sDrop, sNext, sCont, sBreak, sAug, sFor, sSetL, eVar, eC, e1, e2, eB, eTup, eO, oB, o2, oLst, oCall, oDict0X, oLc, oLc2, aNil, aCons, tV, tAnd', tOr', tNot', tT', tYesF, truth', truth, eIf, eAnd, eOr, eNot, eCh, eMt, eMt0, eCall, eIsi, isaD, typeD, isDct, eCntT, eGetX, sPutX, frzV, frzs, val, vals, slD, slDat, cont, setC, isListD, free_eq, isFr_no, isFr_dat, isFr_own, isFr_bor, gN, gT, partsD, iL, iT, iR1, iR2, iEnL, iEnT, iZLL, iZTT, iZTL, iKeysX, iValsX, iItemsX, fI0, fI, fPlus, fCatT, fAddS, fCatL, fRepT, fRepL, fIx, fLen, fAbs, fInt, fTup, fList, fAppend, fExtend, fPop, fPopAt, fMin2, fMax2, fNeg, fIsN, fNotN, isNone, fSum, fSumT, fInX, fIxX, fLenX, r1F, r2F, rgOk, compStep, wipeD, putB, keepD, startS, outsD, outD, mBody, mBodyO, sPar, yNil, yCons, xE, xO, setH, setHs, rdOk, List.set, bind_ite, atI_0, atI_1, atI_2, ixN_0, ixN_1, List.getElem?_cons_zero, eCallB, okL_1, okL_2, okL_3, okL_4, lentS, pinv, frzB, lendB, lent1, List.idxOf?, List.findIdx?, List.findIdx?.go, putS, putS1, oD1X, fEqXE, q4, D]) ?_
  refine seq_to (δ' := D p4 s7) ?_ (by simp [sSeq, sAsg, sOwn, sIf, sRet, sRetO, sRetV, sRetN, sDrop, sNext, sCont, sBreak, sAug, sFor, sSetL, eVar, eC, e1, e2, eB, eTup, eO, oB, o2, oLst, oCall, oDict0X, oLc, oLc2, aNil, aCons, tV, tAnd', tOr', tNot', tT', tYesF, truth', truth, eIf, eAnd, eOr, eNot, eCh, eMt, eMt0, eCall, eIsi, isaD, typeD, isDct, eCntT, eGetX, sPutX, frzV, frzs, val, vals, slD, slDat, cont, setC, isListD, free_eq, isFr_no, isFr_dat, isFr_own, isFr_bor, gN, gT, partsD, iL, iT, iR1, iR2, iEnL, iEnT, iZLL, iZTT, iZTL, iKeysX, iValsX, iItemsX, fI0, fI, fPlus, fCatT, fAddS, fCatL, fRepT, fRepL, fIx, fLen, fAbs, fInt, fTup, fList, fAppend, fExtend, fPop, fPopAt, fMin2, fMax2, fNeg, fIsN, fNotN, isNone, fSum, fSumT, fInX, fIxX, fLenX, r1F, r2F, rgOk, compStep, wipeD, putB, keepD, startS, outsD, outD, mBody, mBodyO, sPar, yNil, yCons, xE, xO, setH, setHs, rdOk, List.set, bind_ite, atI_0, atI_1, atI_2, ixN_0, ixN_1, List.getElem?_cons_zero, eCallB, okL_1, okL_2, okL_3, okL_4, lentS, pinv, frzB, lendB, lent1, List.idxOf?, List.findIdx?, List.findIdx?.go, putS, putS1, oD1X, fEqXE])
  unfold sFor
  rw [it]
  exact e
def spLaw (K : PySem.W.Frag) : Sp := fun vs H Q _ => ∃ (a : Addr) (ns : List Int), vs = [.ref a] ∧ SqL K H a (ns.map V.int) ∧ ns.length ≤ 63 ∧ ∀ H', Q (.bl true) H'
/-! ### the law as it is asked -/
theorem law_sp {P : Program} {w : World} {K : PySem.W.Frag} {us : List V} {H : Hp} {Q : VK} {E : XK} (h : spLaw K us H Q E) : spM P w K [false] m_law us H Q E := by
  obtain ⟨a, ns, rfl, hs, hl, q⟩ := h
  refine ⟨H, fun _ => none, [scrD ns], .bool true, [.none], fun _ _ e => e, rfl, rfl, (fun a i e => by cases e), fun j b v d h1 h2 h3 => ?_, e_law ns hl, fun v H' F' ow' _ _ _ hd => ?_⟩
  · cases j with
    | zero =>
      cases Option.some.inj h1
      cases Option.some.inj h2
      cases Option.some.inj h3
      unfold ArgAt
      rw [if_neg (by decide)]
      exact .scr hs
    | succ j => cases h1
  · cases hd
    exact q _
theorem fn_law {P : Program} {w : World} {K : PySem.W.Frag} {mg : Str → Option Value} {base : Heap} {k : Nat} {f : Addr} {fd : FuncData} (F : FnOk P w K mg base CX0 k f fd P_law (spM P w K [false] m_law)) : FnOk P w K mg base CX0 k f fd P_law (spLaw K) :=
  ⟨fun us H Q E s => F.len us H Q E (law_sp s), fun B ou t H ar ws us Q E r e0 bi va hs => F.run B ou t H ar ws us Q E r e0 bi va (law_sp hs)⟩
theorem all_mk {l : PySem.W.OpenLaw} {w : World} {K : PySem.W.Frag} {h : Heap} {mg : Str → Option Value} {fa f1 f2 f3 f4 f5 f6 f7 f8 f9 f10 f11 f12 f13 f14 f15 f16 f17 f18 f19 f20 f21 f22 f23 f24 f25 : Addr}  (X : K.In h) (G : h.Ns mainGlobals mg) (hfa : mg "law" = some (.ref fa))
    {od1 an1 od2 an2 od3 an3 od4 an4 od5 an5 od6 an6 od7 an7 od8 an8 od9 an9 od10 an10 od11 an11 od12 an12 od13 an13 od14 an14 od15 an15 od16 an16 od17 an17 od18 an18 od19 an19 od20 an20 od21 an21 od22 an22 od23 an23 od24 an24 od25 an25 : Option Addr} {sl1 sl2 sl3 sl4 sl5 sl6 sl7 sl8 sl9 sl10 sl11 sl12 sl13 sl14 sl15 sl16 sl17 sl18 sl19 sl20 sl21 sl22 sl23 sl24 sl25 : Array (Option Value)} {oc1 kV1 dc1 pm1 cd1 ct1 oc2 kV2 dc2 pm2 cd2 ct2 oc3 kV3 dc3 pm3 cd3 ct3 oc4 kV4 dc4 pm4 cd4 ct4 oc5 kV5 dc5 pm5 cd5 ct5 oc6 kV6 dc6 pm6 cd6 ct6 oc7 kV7 dc7 pm7 cd7 ct7 oc8 kV8 dc8 pm8 cd8 ct8 oc9 kV9 dc9 pm9 cd9 ct9 oc10 kV10 dc10 pm10 cd10 ct10 oc11 kV11 dc11 pm11 cd11 ct11 oc12 kV12 dc12 pm12 cd12 ct12 oc13 kV13 dc13 pm13 cd13 ct13 oc14 kV14 dc14 pm14 cd14 ct14 oc15 kV15 dc15 pm15 cd15 ct15 oc16 kV16 dc16 pm16 cd16 ct16 oc17 kV17 dc17 pm17 cd17 ct17 oc18 kV18 dc18 pm18 cd18 ct18 oc19 kV19 dc19 pm19 cd19 ct19 oc20 kV20 dc20 pm20 cd20 ct20 oc21 kV21 dc21 pm21 cd21 ct21 oc22 kV22 dc22 pm22 cd22 ct22 oc23 kV23 dc23 pm23 cd23 ct23 oc24 kV24 dc24 pm24 cd24 ct24 oc25 kV25 dc25 pm25 cd25 ct25 : Value}
    (a1 : PySem.W.nsIn K mainGlobals "_law_pot" = some (some (.ref f1))) (l1 : K.lookup f1 = some ⟨oc1, od1, .func (PySem.W.fnOf "_law_pot" "_law_pot" (defArgs s__law_pot) (defBody s__law_pot) (defScope s__law_pot) .none kV1 dc1 pm1 an1 cd1 ct1), sl1⟩) (c1 : PySem.W.codeIn K cd1 "_law_pot" = true) (k1 : PySem.W.keepIn K (.ref f1) = true)
    (a2 : PySem.W.nsIn K mainGlobals "_law_take" = some (some (.ref f2))) (l2 : K.lookup f2 = some ⟨oc2, od2, .func (PySem.W.fnOf "_law_take" "_law_take" (defArgs s__law_take) (defBody s__law_take) (defScope s__law_take) .none kV2 dc2 pm2 an2 cd2 ct2), sl2⟩) (c2 : PySem.W.codeIn K cd2 "_law_take" = true) (k2 : PySem.W.keepIn K (.ref f2) = true)
    (a3 : PySem.W.nsIn K mainGlobals "_law_wisp" = some (some (.ref f3))) (l3 : K.lookup f3 = some ⟨oc3, od3, .func (PySem.W.fnOf "_law_wisp" "_law_wisp" (defArgs s__law_wisp) (defBody s__law_wisp) (defScope s__law_wisp) .none kV3 dc3 pm3 an3 cd3 ct3), sl3⟩) (c3 : PySem.W.codeIn K cd3 "_law_wisp" = true) (k3 : PySem.W.keepIn K (.ref f3) = true)
    (a4 : PySem.W.nsIn K mainGlobals "_law_set" = some (some (.ref f4))) (l4 : K.lookup f4 = some ⟨oc4, od4, .func (PySem.W.fnOf "_law_set" "_law_set" (defArgs s__law_set) (defBody s__law_set) (defScope s__law_set) .none kV4 dc4 pm4 an4 cd4 ct4), sl4⟩) (c4 : PySem.W.codeIn K cd4 "_law_set" = true) (k4 : PySem.W.keepIn K (.ref f4) = true)
    (a5 : PySem.W.nsIn K mainGlobals "_law_first" = some (some (.ref f5))) (l5 : K.lookup f5 = some ⟨oc5, od5, .func (PySem.W.fnOf "_law_first" "_law_first" (defArgs s__law_first) (defBody s__law_first) (defScope s__law_first) .none kV5 dc5 pm5 an5 cd5 ct5), sl5⟩) (c5 : PySem.W.codeIn K cd5 "_law_first" = true) (k5 : PySem.W.keepIn K (.ref f5) = true)
    (a6 : PySem.W.nsIn K mainGlobals "_law_lots" = some (some (.ref f6))) (l6 : K.lookup f6 = some ⟨oc6, od6, .func (PySem.W.fnOf "_law_lots" "_law_lots" (defArgs s__law_lots) (defBody s__law_lots) (defScope s__law_lots) .none kV6 dc6 pm6 an6 cd6 ct6), sl6⟩) (c6 : PySem.W.codeIn K cd6 "_law_lots" = true) (k6 : PySem.W.keepIn K (.ref f6) = true)
    (a7 : PySem.W.nsIn K mainGlobals "_law_at" = some (some (.ref f7))) (l7 : K.lookup f7 = some ⟨oc7, od7, .func (PySem.W.fnOf "_law_at" "_law_at" (defArgs s__law_at) (defBody s__law_at) (defScope s__law_at) .none kV7 dc7 pm7 an7 cd7 ct7), sl7⟩) (c7 : PySem.W.codeIn K cd7 "_law_at" = true) (k7 : PySem.W.keepIn K (.ref f7) = true)
    (a8 : PySem.W.nsIn K mainGlobals "_law_length" = some (some (.ref f8))) (l8 : K.lookup f8 = some ⟨oc8, od8, .func (PySem.W.fnOf "_law_length" "_law_length" (defArgs s__law_length) (defBody s__law_length) (defScope s__law_length) .none kV8 dc8 pm8 an8 cd8 ct8), sl8⟩) (c8 : PySem.W.codeIn K cd8 "_law_length" = true) (k8 : PySem.W.keepIn K (.ref f8) = true)
    (a9 : PySem.W.nsIn K mainGlobals "_law_steps" = some (some (.ref f9))) (l9 : K.lookup f9 = some ⟨oc9, od9, .func (PySem.W.fnOf "_law_steps" "_law_steps" (defArgs s__law_steps) (defBody s__law_steps) (defScope s__law_steps) .none kV9 dc9 pm9 an9 cd9 ct9), sl9⟩) (c9 : PySem.W.codeIn K cd9 "_law_steps" = true) (k9 : PySem.W.keepIn K (.ref f9) = true)
    (a10 : PySem.W.nsIn K mainGlobals "_law_levels" = some (some (.ref f10))) (l10 : K.lookup f10 = some ⟨oc10, od10, .func (PySem.W.fnOf "_law_levels" "_law_levels" (defArgs s__law_levels) (defBody s__law_levels) (defScope s__law_levels) .none kV10 dc10 pm10 an10 cd10 ct10), sl10⟩) (c10 : PySem.W.codeIn K cd10 "_law_levels" = true) (k10 : PySem.W.keepIn K (.ref f10) = true)
    (a11 : PySem.W.nsIn K mainGlobals "_law_same" = some (some (.ref f11))) (l11 : K.lookup f11 = some ⟨oc11, od11, .func (PySem.W.fnOf "_law_same" "_law_same" (defArgs s__law_same) (defBody s__law_same) (defScope s__law_same) .none kV11 dc11 pm11 an11 cd11 ct11), sl11⟩) (c11 : PySem.W.codeIn K cd11 "_law_same" = true) (k11 : PySem.W.keepIn K (.ref f11) = true)
    (a12 : PySem.W.nsIn K mainGlobals "kept_from" = some (some (.ref f12))) (l12 : K.lookup f12 = some ⟨oc12, od12, .func (PySem.W.fnOf "kept_from" "kept_from" (defArgs s_kept_from) (defBody s_kept_from) (defScope s_kept_from) .none kV12 dc12 pm12 an12 cd12 ct12), sl12⟩) (c12 : PySem.W.codeIn K cd12 "kept_from" = true) (k12 : PySem.W.keepIn K (.ref f12) = true)
    (a13 : PySem.W.nsIn K mainGlobals "laid_from" = some (some (.ref f13))) (l13 : K.lookup f13 = some ⟨oc13, od13, .func (PySem.W.fnOf "laid_from" "laid_from" (defArgs s_laid_from) (defBody s_laid_from) (defScope s_laid_from) .none kV13 dc13 pm13 an13 cd13 ct13), sl13⟩) (c13 : PySem.W.codeIn K cd13 "laid_from" = true) (k13 : PySem.W.keepIn K (.ref f13) = true)
    (a14 : PySem.W.nsIn K mainGlobals "thick_at" = some (some (.ref f14))) (l14 : K.lookup f14 = some ⟨oc14, od14, .func (PySem.W.fnOf "thick_at" "thick_at" (defArgs s_thick_at) (defBody s_thick_at) (defScope s_thick_at) .none kV14 dc14 pm14 an14 cd14 ct14), sl14⟩) (c14 : PySem.W.codeIn K cd14 "thick_at" = true) (k14 : PySem.W.keepIn K (.ref f14) = true)
    (a15 : PySem.W.nsIn K mainGlobals "thickness_of" = some (some (.ref f15))) (l15 : K.lookup f15 = some ⟨oc15, od15, .func (PySem.W.fnOf "thickness_of" "thickness_of" (defArgs s_thickness_of) (defBody s_thickness_of) (defScope s_thickness_of) .none kV15 dc15 pm15 an15 cd15 ct15), sl15⟩) (c15 : PySem.W.codeIn K cd15 "thickness_of" = true) (k15 : PySem.W.keepIn K (.ref f15) = true)
    (a16 : PySem.W.nsIn K mainGlobals "length_of" = some (some (.ref f16))) (l16 : K.lookup f16 = some ⟨oc16, od16, .func (PySem.W.fnOf "length_of" "length_of" (defArgs s_length_of) (defBody s_length_of) (defScope s_length_of) .none kV16 dc16 pm16 an16 cd16 ct16), sl16⟩) (c16 : PySem.W.codeIn K cd16 "length_of" = true) (k16 : PySem.W.keepIn K (.ref f16) = true)
    (a17 : PySem.W.nsIn K mainGlobals "aged" = some (some (.ref f17))) (l17 : K.lookup f17 = some ⟨oc17, od17, .func (PySem.W.fnOf "aged" "aged" (defArgs s_aged) (defBody s_aged) (defScope s_aged) .none kV17 dc17 pm17 an17 cd17 ct17), sl17⟩) (c17 : PySem.W.codeIn K cd17 "aged" = true) (k17 : PySem.W.keepIn K (.ref f17) = true)
    (a18 : PySem.W.nsIn K mainGlobals "manys_behind" = some (some (.ref f18))) (l18 : K.lookup f18 = some ⟨oc18, od18, .func (PySem.W.fnOf "manys_behind" "manys_behind" (defArgs s_manys_behind) (defBody s_manys_behind) (defScope s_manys_behind) .none kV18 dc18 pm18 an18 cd18 ct18), sl18⟩) (c18 : PySem.W.codeIn K cd18 "manys_behind" = true) (k18 : PySem.W.keepIn K (.ref f18) = true)
    (a19 : PySem.W.nsIn K mainGlobals "choices_of" = some (some (.ref f19))) (l19 : K.lookup f19 = some ⟨oc19, od19, .func (PySem.W.fnOf "choices_of" "choices_of" (defArgs s_choices_of) (defBody s_choices_of) (defScope s_choices_of) .none kV19 dc19 pm19 an19 cd19 ct19), sl19⟩) (c19 : PySem.W.codeIn K cd19 "choices_of" = true) (k19 : PySem.W.keepIn K (.ref f19) = true)
    (a20 : PySem.W.nsIn K mainGlobals "steps_of" = some (some (.ref f20))) (l20 : K.lookup f20 = some ⟨oc20, od20, .func (PySem.W.fnOf "steps_of" "steps_of" (defArgs s_steps_of) (defBody s_steps_of) (defScope s_steps_of) .none kV20 dc20 pm20 an20 cd20 ct20), sl20⟩) (c20 : PySem.W.codeIn K cd20 "steps_of" = true) (k20 : PySem.W.keepIn K (.ref f20) = true)
    (a21 : PySem.W.nsIn K mainGlobals "next_level" = some (some (.ref f21))) (l21 : K.lookup f21 = some ⟨oc21, od21, .func (PySem.W.fnOf "next_level" "next_level" (defArgs s_next_level) (defBody s_next_level) (defScope s_next_level) .none kV21 dc21 pm21 an21 cd21 ct21), sl21⟩) (c21 : PySem.W.codeIn K cd21 "next_level" = true) (k21 : PySem.W.keepIn K (.ref f21) = true)
    (a22 : PySem.W.nsIn K mainGlobals "first_state" = some (some (.ref f22))) (l22 : K.lookup f22 = some ⟨oc22, od22, .func (PySem.W.fnOf "first_state" "first_state" (defArgs s_first_state) (defBody s_first_state) (defScope s_first_state) .none kV22 dc22 pm22 an22 cd22 ct22), sl22⟩) (c22 : PySem.W.codeIn K cd22 "first_state" = true) (k22 : PySem.W.keepIn K (.ref f22) = true)
    (a23 : PySem.W.nsIn K mainGlobals "levels_of" = some (some (.ref f23))) (l23 : K.lookup f23 = some ⟨oc23, od23, .func (PySem.W.fnOf "levels_of" "levels_of" (defArgs s_levels_of) (defBody s_levels_of) (defScope s_levels_of) .none kV23 dc23 pm23 an23 cd23 ct23), sl23⟩) (c23 : PySem.W.codeIn K cd23 "levels_of" = true) (k23 : PySem.W.keepIn K (.ref f23) = true)
    (a24 : PySem.W.nsIn K mainGlobals "_law_due" = some (some (.ref f24))) (l24 : K.lookup f24 = some ⟨oc24, od24, .func (PySem.W.fnOf "_law_due" "_law_due" (defArgs s__law_due) (defBody s__law_due) (defScope s__law_due) .none kV24 dc24 pm24 an24 cd24 ct24), sl24⟩) (c24 : PySem.W.codeIn K cd24 "_law_due" = true) (k24 : PySem.W.keepIn K (.ref f24) = true)
    (a25 : PySem.W.nsIn K mainGlobals "law" = some (some (.ref f25))) (l25 : K.lookup f25 = some ⟨oc25, od25, .func (PySem.W.fnOf "law" "law" (defArgs s_law) (defBody s_law) (defScope s_law) .none kV25 dc25 pm25 an25 cd25 ct25), sl25⟩) (c25 : PySem.W.codeIn K cd25 "law" = true) (k25 : PySem.W.keepIn K (.ref f25) = true)
    (z1 : PySem.W.nsIn K mainGlobals "len" = some none)
    (z2 : PySem.W.nsIn K mainGlobals "sum" = some none)
    (z3 : PySem.W.nsIn K mainGlobals "abs" = some none)
    (z4 : PySem.W.nsIn K mainGlobals "isinstance" = some none)
    (z5 : PySem.W.nsIn K mainGlobals "max" = some none)
    (z6 : PySem.W.nsIn K mainGlobals "min" = some none)
    (z7 : PySem.W.nsIn K mainGlobals "tuple" = some none)
    (z8 : PySem.W.nsIn K mainGlobals "list" = some none)
    (z9 : PySem.W.nsIn K mainGlobals "int" = some none)
    (z10 : PySem.W.nsIn K mainGlobals "bool" = some none)
    (z11 : PySem.W.nsIn K mainGlobals "range" = some none)
    (z12 : PySem.W.nsIn K mainGlobals "enumerate" = some none)
    (z13 : PySem.W.nsIn K mainGlobals "zip" = some none)
    (z14 : PySem.W.nsIn K mainGlobals "repr" = some none)
    (z15 : PySem.W.nsIn K mainGlobals "str" = some none)
    (z16 : PySem.W.nsIn K mainGlobals "sorted" = some none)
    (z17 : PySem.W.nsIn K mainGlobals "set" = some none)
    (z18 : PySem.W.nsIn K mainGlobals "all" = some none)
    (z19 : PySem.W.nsIn K mainGlobals "any" = some none)
    (z20 : PySem.W.nsIn K mainGlobals "dict" = some none)
    (zq : PySem.W.nsIn K cStatics "sys.int_max_str_digits" = some none) :
    ∃ fd : FuncData, (∀ (s : Shared) (v : Value), BindsTo s fd ⟨[v], []⟩ [("_law_script", v)]) ∧ ∀ base : Heap, K.In base → base.Ns mainGlobals mg → FnOk l.prog w K mg base CX0 12 fa fd P_law (spLaw K) := by
  have e := hfa.symm.trans (PySem.W.mg_of X G a25)
  cases e
  have nd := zq
  have F1 := fun_mk (st := s__law_pot) l1 c1 k1
  have F2 := fun_mk (st := s__law_take) l2 c2 k2
  have F3 := fun_mk (st := s__law_wisp) l3 c3 k3
  have F4 := fun_mk (st := s__law_set) l4 c4 k4
  have F5 := fun_mk (st := s__law_first) l5 c5 k5
  have F6 := fun_mk (st := s__law_lots) l6 c6 k6
  have F7 := fun_mk (st := s__law_at) l7 c7 k7
  have F8 := fun_mk (st := s__law_length) l8 c8 k8
  have F9 := fun_mk (st := s__law_steps) l9 c9 k9
  have F10 := fun_mk (st := s__law_levels) l10 c10 k10
  have F11 := fun_mk (st := s__law_same) l11 c11 k11
  have F12 := fun_mk (st := s_kept_from) l12 c12 k12
  have F13 := fun_mk (st := s_laid_from) l13 c13 k13
  have F14 := fun_mk (st := s_thick_at) l14 c14 k14
  have F15 := fun_mk (st := s_thickness_of) l15 c15 k15
  have F16 := fun_mk (st := s_length_of) l16 c16 k16
  have F17 := fun_mk (st := s_aged) l17 c17 k17
  have F18 := fun_mk (st := s_manys_behind) l18 c18 k18
  have F19 := fun_mk (st := s_choices_of) l19 c19 k19
  have F20 := fun_mk (st := s_steps_of) l20 c20 k20
  have F21 := fun_mk (st := s_next_level) l21 c21 k21
  have F22 := fun_mk (st := s_first_state) l22 c22 k22
  have F23 := fun_mk (st := s_levels_of) l23 c23 k23
  have F24 := fun_mk (st := s__law_due) l24 c24 k24
  have F25 := fun_mk (st := s_law) l25 c25 k25
  have bi : Bi mg := ⟨PySem.W.mg_none_of X G z1, PySem.W.mg_none_of X G z2, PySem.W.mg_none_of X G z3, PySem.W.mg_none_of X G z4, PySem.W.mg_none_of X G z5, PySem.W.mg_none_of X G z6, PySem.W.mg_none_of X G z7, PySem.W.mg_none_of X G z8, PySem.W.mg_none_of X G z9, PySem.W.mg_none_of X G z10, PySem.W.mg_none_of X G z11, PySem.W.mg_none_of X G z12, PySem.W.mg_none_of X G z13, PySem.W.mg_none_of X G z14, PySem.W.mg_none_of X G z15, PySem.W.mg_none_of X G z16, PySem.W.mg_none_of X G z17, PySem.W.mg_none_of X G z18, PySem.W.mg_none_of X G z19, PySem.W.mg_none_of X G z20⟩
  refine ⟨PySem.W.fnOf "law" "law" (defArgs s_law) (defBody s_law) (defScope s_law) .none kV25 dc25 pm25 an25 cd25 ct25, fun s v => .of_eq rfl, fun base _ _ => ?_⟩
  have C__law_pot : Cal l.prog w K mg base "_law_pot" P__law_pot 1 (spMO l.prog w K [false, false] m__law_pot) f1 _ := ⟨ok__law_pot F1 bi nd, PySem.W.mg_of X G a1, F1.kp, F1.binds (ps := P__law_pot) fun _ _ _ _ _ _ us hl => match us, hl with | [_, _], _ => rfl⟩
  have C__law_take : Cal l.prog w K mg base "_law_take" P__law_take 1 (spM l.prog w K [true, false] m__law_take) f2 _ := ⟨ok__law_take F2 bi, PySem.W.mg_of X G a2, F2.kp, F2.binds (ps := P__law_take) fun _ _ _ _ _ _ us hl => match us, hl with | [_, _], _ => rfl⟩
  have C__law_wisp : Cal l.prog w K mg base "_law_wisp" P__law_wisp 2 (spM l.prog w K [true, false, false] m__law_wisp) f3 _ := ⟨ok__law_wisp F3 bi C__law_take, PySem.W.mg_of X G a3, F3.kp, F3.binds (ps := P__law_wisp) fun _ _ _ _ _ _ us hl => match us, hl with | [_, _, _], _ => rfl⟩
  have C__law_set : Cal l.prog w K mg base "_law_set" P__law_set 3 (spM l.prog w K [true] m__law_set) f4 _ := ⟨ok__law_set F4 bi C__law_take C__law_wisp, PySem.W.mg_of X G a4, F4.kp, F4.binds (ps := P__law_set) fun _ _ _ _ _ _ us hl => match us, hl with | [_], _ => rfl⟩
  have C__law_first : Cal l.prog w K mg base "_law_first" P__law_first 1 (spM l.prog w K [false] m__law_first) f5 _ := ⟨ok__law_first F5 bi, PySem.W.mg_of X G a5, F5.kp, F5.binds (ps := P__law_first) fun _ _ _ _ _ _ us hl => match us, hl with | [_], _ => rfl⟩
  have C__law_lots : Cal l.prog w K mg base "_law_lots" P__law_lots 1 (spM l.prog w K [false, false] m__law_lots) f6 _ := ⟨ok__law_lots F6 bi, PySem.W.mg_of X G a6, F6.kp, F6.binds (ps := P__law_lots) fun _ _ _ _ _ _ us hl => match us, hl with | [_, _], _ => rfl⟩
  have C__law_at : Cal l.prog w K mg base "_law_at" P__law_at 1 (spM l.prog w K [false, false] m__law_at) f7 _ := ⟨ok__law_at F7 bi, PySem.W.mg_of X G a7, F7.kp, F7.binds (ps := P__law_at) fun _ _ _ _ _ _ us hl => match us, hl with | [_, _], _ => rfl⟩
  have C__law_length : Cal l.prog w K mg base "_law_length" P__law_length 1 (spM l.prog w K [false] m__law_length) f8 _ := ⟨ok__law_length F8 bi, PySem.W.mg_of X G a8, F8.kp, F8.binds (ps := P__law_length) fun _ _ _ _ _ _ us hl => match us, hl with | [_], _ => rfl⟩
  have C__law_steps : Cal l.prog w K mg base "_law_steps" P__law_steps 2 (spM l.prog w K [false, false, false] m__law_steps) f9 _ := ⟨ok__law_steps F9 bi C__law_lots C__law_at C__law_length, PySem.W.mg_of X G a9, F9.kp, F9.binds (ps := P__law_steps) fun _ _ _ _ _ _ us hl => match us, hl with | [_, _, _], _ => rfl⟩
  have C__law_levels : Cal l.prog w K mg base "_law_levels" P__law_levels 3 (spM l.prog w K [false, false, false] m__law_levels) f10 _ := ⟨ok__law_levels F10 bi C__law_steps C__law_first, PySem.W.mg_of X G a10, F10.kp, F10.binds (ps := P__law_levels) fun _ _ _ _ _ _ us hl => match us, hl with | [_, _, _], _ => rfl⟩
  have C__law_same : Cal l.prog w K mg base "_law_same" P__law_same 11 (spM l.prog w K [false, false] m__law_same) f11 _ := ⟨okR__law_same F11 bi (PySem.W.mg_of X G a11) (F11.binds (ps := P__law_same) fun _ _ _ _ _ _ us hl => match us, hl with | [_, _], _ => rfl) 10, PySem.W.mg_of X G a11, F11.kp, F11.binds (ps := P__law_same) fun _ _ _ _ _ _ us hl => match us, hl with | [_, _], _ => rfl⟩
  have C_kept_from : Cal l.prog w K mg base "kept_from" P_kept_from 1 (spM l.prog w K [false, false] m_kept_from) f12 _ := ⟨ok_kept_from F12 bi, PySem.W.mg_of X G a12, F12.kp, F12.binds (ps := P_kept_from) fun _ _ _ _ _ _ us hl => match us, hl with | [_, _], _ => rfl⟩
  have C_laid_from : Cal l.prog w K mg base "laid_from" P_laid_from 1 (spM l.prog w K [false, false] m_laid_from) f13 _ := ⟨ok_laid_from F13 bi, PySem.W.mg_of X G a13, F13.kp, F13.binds (ps := P_laid_from) fun _ _ _ _ _ _ us hl => match us, hl with | [_, _], _ => rfl⟩
  have C_thick_at : Cal l.prog w K mg base "thick_at" P_thick_at 1 (spM l.prog w K [false, false] m_thick_at) f14 _ := ⟨ok_thick_at F14 bi, PySem.W.mg_of X G a14, F14.kp, F14.binds (ps := P_thick_at) fun _ _ _ _ _ _ us hl => match us, hl with | [_, _], _ => rfl⟩
  have C_thickness_of : Cal l.prog w K mg base "thickness_of" P_thickness_of 2 (spM l.prog w K [false, false] m_thickness_of) f15 _ := ⟨ok_thickness_of F15 bi C_thick_at, PySem.W.mg_of X G a15, F15.kp, F15.binds (ps := P_thickness_of) fun _ _ _ _ _ _ us hl => match us, hl with | [_, _], _ => rfl⟩
  have C_length_of : Cal l.prog w K mg base "length_of" P_length_of 1 (spM l.prog w K [false] m_length_of) f16 _ := ⟨ok_length_of F16 bi, PySem.W.mg_of X G a16, F16.kp, F16.binds (ps := P_length_of) fun _ _ _ _ _ _ us hl => match us, hl with | [_], _ => rfl⟩
  have C_aged : Cal l.prog w K mg base "aged" P_aged 2 (spM l.prog w K [false, false] m_aged) f17 _ := ⟨ok_aged F17 bi C_length_of, PySem.W.mg_of X G a17, F17.kp, F17.binds (ps := P_aged) fun _ _ _ _ _ _ us hl => match us, hl with | [_, _], _ => rfl⟩
  have C_manys_behind : Cal l.prog w K mg base "manys_behind" P_manys_behind 1 (spM l.prog w K [false, false] m_manys_behind) f18 _ := ⟨ok_manys_behind F18 bi, PySem.W.mg_of X G a18, F18.kp, F18.binds (ps := P_manys_behind) fun _ _ _ _ _ _ us hl => match us, hl with | [_, _], _ => rfl⟩
  have C_choices_of : Cal l.prog w K mg base "choices_of" P_choices_of 3 (spM l.prog w K [false, false, false] m_choices_of) f19 _ := ⟨ok_choices_of F19 bi C_kept_from C_laid_from C_thickness_of C_aged C_manys_behind, PySem.W.mg_of X G a19, F19.kp, F19.binds (ps := P_choices_of) fun _ _ _ _ _ _ us hl => match us, hl with | [_, _, _], _ => rfl⟩
  have C_steps_of : Cal l.prog w K mg base "steps_of" P_steps_of 4 (spM l.prog w K [false, false, false] m_steps_of) f20 _ := ⟨ok_steps_of F20 bi C_choices_of, PySem.W.mg_of X G a20, F20.kp, F20.binds (ps := P_steps_of) fun _ _ _ _ _ _ us hl => match us, hl with | [_, _, _], _ => rfl⟩
  have C_next_level : Cal l.prog w K mg base "next_level" P_next_level 5 (spM l.prog w K [false, false, false, false] m_next_level) f21 _ := ⟨ok_next_level F21 bi C_steps_of, PySem.W.mg_of X G a21, F21.kp, F21.binds (ps := P_next_level) fun _ _ _ _ _ _ us hl => match us, hl with | [_, _, _, _], _ => rfl⟩
  have C_first_state : Cal l.prog w K mg base "first_state" P_first_state 1 (spM l.prog w K [false] m_first_state) f22 _ := ⟨ok_first_state F22 bi, PySem.W.mg_of X G a22, F22.kp, F22.binds (ps := P_first_state) fun _ _ _ _ _ _ us hl => match us, hl with | [_], _ => rfl⟩
  have C_levels_of : Cal l.prog w K mg base "levels_of" P_levels_of 6 (spM l.prog w K [false, false, false, false] m_levels_of) f23 _ := ⟨ok_levels_of F23 bi C_next_level C_first_state, PySem.W.mg_of X G a23, F23.kp, F23.binds (ps := P_levels_of) fun _ _ _ _ _ _ us hl => match us, hl with | [_, _, _, _], _ => rfl⟩
  have C__law_due : Cal l.prog w K mg base "_law_due" P__law_due 1 (spM l.prog w K [false, false, false] m__law_due) f24 _ := ⟨ok__law_due F24 bi, PySem.W.mg_of X G a24, F24.kp, F24.binds (ps := P__law_due) fun _ _ _ _ _ _ us hl => match us, hl with | [_, _, _], _ => rfl⟩
  exact fn_law (ok_law F25 bi C__law_take C_levels_of C__law_due C__law_same C__law_levels C__law_set C__law_pot)
end My
open PySem PySem.W PyProof.Rows
set_option maxHeartbeats 0 in
theorem PySem.Challenge.cw_evenstrand_k43_levels_by_steps_holds : PySem.Challenge.rw_evenstrand_k43_levels_by_steps.Holds := by
  w_on; o_law; k_head; (case hw => w_witness2)
  k_fill
  refine L2.walk_of (l := PySem.Challenge.rw_evenstrand_k43_levels_by_steps) (n := 63) (k := 12) (x := "_law_script") (CX := fun _ => L2.CX0) (sp := fun w => My.spLaw _) rfl (by decide) rfl ⟨rfl, by decide, by decide⟩ (fun w h Y => PySem.W.kIn_of Y) ?F (fun _ _ a ns hl _ hS => ⟨a, ns, rfl, hS, hl, fun _ => rfl⟩) (fun _ _ _ _ _ h => h)
  case F =>
    intro w mg fa h KX G hmg
    refine' My.all_mk KX G hmg ?a1 ?l1 ?c1 ?k1 ?a2 ?l2 ?c2 ?k2 ?a3 ?l3 ?c3 ?k3 ?a4 ?l4 ?c4 ?k4 ?a5 ?l5 ?c5 ?k5 ?a6 ?l6 ?c6 ?k6 ?a7 ?l7 ?c7 ?k7 ?a8 ?l8 ?c8 ?k8 ?a9 ?l9 ?c9 ?k9 ?a10 ?l10 ?c10 ?k10 ?a11 ?l11 ?c11 ?k11 ?a12 ?l12 ?c12 ?k12 ?a13 ?l13 ?c13 ?k13 ?a14 ?l14 ?c14 ?k14 ?a15 ?l15 ?c15 ?k15 ?a16 ?l16 ?c16 ?k16 ?a17 ?l17 ?c17 ?k17 ?a18 ?l18 ?c18 ?k18 ?a19 ?l19 ?c19 ?k19 ?a20 ?l20 ?c20 ?k20 ?a21 ?l21 ?c21 ?k21 ?a22 ?l22 ?c22 ?k22 ?a23 ?l23 ?c23 ?k23 ?a24 ?l24 ?c24 ?k24 ?a25 ?l25 ?c25 ?k25 ?z1 ?z2 ?z3 ?z4 ?z5 ?z6 ?z7 ?z8 ?z9 ?z10 ?z11 ?z12 ?z13 ?z14 ?z15 ?z16 ?z17 ?z18 ?z19 ?z20  ?zq
    (case a1 => k_is)
    (case l1 => k_is)
    (case c1 => k_is)
    (case k1 => k_is)
    (case a2 => k_is)
    (case l2 => k_is)
    (case c2 => k_is)
    (case k2 => k_is)
    (case a3 => k_is)
    (case l3 => k_is)
    (case c3 => k_is)
    (case k3 => k_is)
    (case a4 => k_is)
    (case l4 => k_is)
    (case c4 => k_is)
    (case k4 => k_is)
    (case a5 => k_is)
    (case l5 => k_is)
    (case c5 => k_is)
    (case k5 => k_is)
    (case a6 => k_is)
    (case l6 => k_is)
    (case c6 => k_is)
    (case k6 => k_is)
    (case a7 => k_is)
    (case l7 => k_is)
    (case c7 => k_is)
    (case k7 => k_is)
    (case a8 => k_is)
    (case l8 => k_is)
    (case c8 => k_is)
    (case k8 => k_is)
    (case a9 => k_is)
    (case l9 => k_is)
    (case c9 => k_is)
    (case k9 => k_is)
    (case a10 => k_is)
    (case l10 => k_is)
    (case c10 => k_is)
    (case k10 => k_is)
    (case a11 => k_is)
    (case l11 => k_is)
    (case c11 => k_is)
    (case k11 => k_is)
    (case a12 => k_is)
    (case l12 => k_is)
    (case c12 => k_is)
    (case k12 => k_is)
    (case a13 => k_is)
    (case l13 => k_is)
    (case c13 => k_is)
    (case k13 => k_is)
    (case a14 => k_is)
    (case l14 => k_is)
    (case c14 => k_is)
    (case k14 => k_is)
    (case a15 => k_is)
    (case l15 => k_is)
    (case c15 => k_is)
    (case k15 => k_is)
    (case a16 => k_is)
    (case l16 => k_is)
    (case c16 => k_is)
    (case k16 => k_is)
    (case a17 => k_is)
    (case l17 => k_is)
    (case c17 => k_is)
    (case k17 => k_is)
    (case a18 => k_is)
    (case l18 => k_is)
    (case c18 => k_is)
    (case k18 => k_is)
    (case a19 => k_is)
    (case l19 => k_is)
    (case c19 => k_is)
    (case k19 => k_is)
    (case a20 => k_is)
    (case l20 => k_is)
    (case c20 => k_is)
    (case k20 => k_is)
    (case a21 => k_is)
    (case l21 => k_is)
    (case c21 => k_is)
    (case k21 => k_is)
    (case a22 => k_is)
    (case l22 => k_is)
    (case c22 => k_is)
    (case k22 => k_is)
    (case a23 => k_is)
    (case l23 => k_is)
    (case c23 => k_is)
    (case k23 => k_is)
    (case a24 => k_is)
    (case l24 => k_is)
    (case c24 => k_is)
    (case k24 => k_is)
    (case a25 => k_is)
    (case l25 => k_is)
    (case c25 => k_is)
    (case k25 => k_is)
    (case z1 => k_is)
    (case z2 => k_is)
    (case z3 => k_is)
    (case z4 => k_is)
    (case z5 => k_is)
    (case z6 => k_is)
    (case z7 => k_is)
    (case z8 => k_is)
    (case z9 => k_is)
    (case z10 => k_is)
    (case z11 => k_is)
    (case z12 => k_is)
    (case z13 => k_is)
    (case z14 => k_is)
    (case z15 => k_is)
    (case z16 => k_is)
    (case z17 => k_is)
    (case z18 => k_is)
    (case z19 => k_is)
    (case z20 => k_is)
    (case zq => k_is)
