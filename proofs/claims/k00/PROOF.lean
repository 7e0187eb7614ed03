import PyProof.Rows.All
import Wide.All
import OpenK.AllK
import Wide.FinOn
import HandS.ForMost
import HandS.Wide
import HandS.Exc
import HandS.ExcInit
import HandS.IsInst
import HandS.ExcIs
import HandS.ExcField
import HandS.TryMany
import HandS.Comp
import HandS.DictComp
import HandS.Iter
import HandS.Dict
import HandS.Defaults
import HandS.WordsExc
import HandS.Ends
import PyProof.StrBlock2
import HandS.CallSlots
import PySem.Challenge.RW_orderlymoves_k00_errors_and_what_they_ke
set_option Elab.async false
set_option linter.all false
set_option maxRecDepth 100000
set_option maxHeartbeats 4000000
namespace OM
open PySem L2
def top (i : Nat) : Stmt := PySem.Challenge.pw_orderlymoves_k00_errors_and_what_they_ke.main.body.getD i (.Pass ⟨0, 0, 0, 0⟩)
abbrev sDice : Stmt := top 15
abbrev sRoll : Stmt := top 16
abbrev sOneOf : Stmt := top 17

/-- all but a is as it was -/
def But (a : Addr) (H H' : Hp) : Prop := ∀ b o, b ≠ a → H b = some o → H' b = some o
/-- a dice: a list of three ints -/
def Dice (H : Hp) (a : Addr) : Prop := ∃ l m c : Int, H a = some (.lst [.int l, .int m, .int c])

structure TxtD (mg : Str → Option Value) : Prop where
  len : mg "len" = none
  int : mg "int" = none
  abs : mg "abs" = none

def spDice (K : PySem.W.Frag) : Sp := fun vs H Q _ => ∃ (a : Addr) (ns : List Int) (k : Nat), vs = [.ref a, .int (k : Int)] ∧ SqL K H a (ns.map V.int) ∧
  ∀ H' p, Same H H' → H p = none → Dice H' p → Q (.ref p) H'
def spRoll : Sp := fun vs H Q _ => ∃ (d : Addr) (n : Int), vs = [.ref d, .int n] ∧ Dice H d ∧ 0 < n ∧ n < 1073741824 ∧
  ∀ H' (r : Int), 0 ≤ r → r < n → But d H H' → Dice H' d → Q (.int r) H'
def spOneOf (K : PySem.W.Frag) : Sp := fun vs H Q _ => ∃ (d a : Addr) (xs : List V), vs = [.ref d, .ref a] ∧ Dice H d ∧ SqL K H a xs ∧ (H d ≠ none → a ≠ d) ∧ 0 < xs.length ∧ xs.length < 1073741824 ∧
  ∀ H' (i : Nat) v, xs[i]? = some v → But d H H' → Dice H' d → Q v H'

section
variable {P : Program} {w : World} {K : PySem.W.Frag} {mg : Str → Option Value} {base : Heap}
theorem scR : FnScope ["_law_dice_here", "_law_total", "_law_number", "_law_drawn", "_law_one", "_law_two"] ["_law_dice_here", "_law_total"] (defScope sRoll) := ⟨rfl, rfl, rfl, by decide +kernel, rfl, by decide +kernel, by decide +kernel⟩
theorem ok_roll {f : Addr} {fd : FuncData} (F : Fun K "_law_roll" "_law_roll" sRoll f fd) (T : TxtD mg) : FnOk P w K mg base CX0 1 f fd ["_law_dice_here", "_law_total"] spRoll := by
  refine F.ok scR (fun vs H Q E h => ?_) (fun cdv A outer s H vs Q E hr h => ?_)
  · obtain ⟨d, n, rfl, _⟩ := h
    rfl
  · obtain ⟨d, n, rfl, ⟨l, m, c, hd⟩, n0, n1, k⟩ := h
    have big : ∀ {x : Int}, 0 ≤ x → x < 2305843009213693952 → (-(2 ^ 64) < x ∧ x < 2 ^ 64) := fun h1 h2 => ⟨by omega, by omega⟩
    refine ⟨_, pss_cons (ps_set (i := 2) scR.nd rfl (Or.inl rfl) (pe_callTy call_int1 (by rfl) T.int (by decide +kernel) (pa_cons (pv 1) pa_nil)))
      (pss_cons (ps_if (pt_cmpR op_gt (pe_ix ix_list (pv 0) pe_int (fun _ _ => rfl)) pe_int (nomark _))
        (pss_cons (ps_set (i := 3) scR.nd rfl (Or.inl rfl) (pe_op op_mod (pe_ix ix_list (pv 0) pe_int (fun _ _ => rfl)) (pv 2)))
        (pss_cons (ps_asg (pe_op op_fdiv (pe_ix ix_list (pv 0) pe_int (fun _ _ => rfl)) (pv 2)) (pg_sub (pv 0) pe_int set_list))
        (pss_one (ps_ret (pe_callTy call_int1 (by rfl) T.int (by decide +kernel) (pa_cons (pv 3) pa_nil))))))
        pss_nil)
      (pss_cons (ps_asg (pe_op op_add (pe_ix ix_list (pv 0) pe_int (fun _ _ => rfl)) pe_int) (pg_sub (pv 0) pe_int set_list))
      (pss_cons (ps_set (i := 4) scR.nd rfl (Or.inl rfl) (pe_op op_mod (pe_op op_add (pe_ix ix_list (pv 0) pe_int (fun _ _ => rfl)) (pe_op op_mul pe_int (pe_ix ix_list (pv 0) pe_int (fun _ _ => rfl)))) pe_int))
      (pss_cons (ps_set (i := 5) scR.nd rfl (Or.inl rfl) (pe_op op_add (pe_op op_mul (pe_op op_mod (pe_op op_mul (pv 4) (pv 4)) pe_int) (pv 4)) (pe_op op_mul pe_int (pe_ix ix_list (pv 0) pe_int (fun _ _ => rfl)))))
      (pss_cons (ps_set (i := 5) scR.nd rfl (Or.inl rfl) (pe_op op_mod (pv 5) pe_int))
      (pss_one (ps_ret (pe_callTy call_int1 (by rfl) T.int (by decide +kernel) (pa_cons (pe_op op_mod (pe_op op_fdiv (pv 5) pe_int) (pv 2)) pa_nil))))))))), ?_⟩
    refine ⟨_, rfl, .inl ⟨_, rfl, ?_⟩⟩
    refine ⟨_, rfl, d, _, _, _, rfl, rfl, SqL.of hd, rfl, _, _, rfl, rfl, _, rfl, ite2 (fun h0 => ?_) (fun h0 => ?_)⟩
    · refine ⟨_, rfl, d, _, _, _, rfl, rfl, SqL.of hd, rfl, _, rfl, _, _, rfl, rfl, n0, ?_⟩
      refine ⟨_, rfl, d, _, _, _, rfl, rfl, SqL.of hd, rfl, _, rfl, _, _, rfl, rfl, ⟨n0, n1⟩, _, rfl, d, _, _, 0, rfl, rfl, hd, rfl, ?_⟩
      refine ⟨_, rfl, .inl ⟨_, rfl, ?_⟩⟩
      refine k _ _ (Int.emod_nonneg _ (by omega)) (Int.emod_lt_of_pos _ n0) (fun b o nb e => by rw [upd_ne nb]; exact e) ⟨_, _, _, upd_same⟩
    · refine ⟨_, rfl, d, _, _, _, rfl, rfl, SqL.of hd, rfl, _, _, rfl, rfl, _, rfl, d, _, _, 2, rfl, rfl, hd, rfl, ?_⟩
      have hd2 : upd H d (.lst [.int l, .int m, .int (c + 1)]) d = some (.lst [.int l, .int m, .int (c + 1)]) := upd_same
      refine ⟨_, rfl, d, _, _, _, rfl, rfl, SqL.of hd2, rfl, _, rfl, d, _, _, _, rfl, rfl, SqL.of hd2, rfl, _, _, rfl, rfl, .inl (by decide), _, _, rfl, rfl, _, _, rfl, rfl, (by show (0 : Int) < 2305843009213693951; decide), ?_⟩
      have o0 : 0 ≤ (m + 1000099 * (c + 1)) % 2305843009213693951 := Int.emod_nonneg _ (by decide)
      have o1 : (m + 1000099 * (c + 1)) % 2305843009213693951 < 2305843009213693951 := Int.emod_lt_of_pos _ (by decide)
      refine ⟨_, rfl, _, rfl, _, _, rfl, rfl, .inl (big o0 (by omega)), _, _, rfl, rfl, (by show (0 : Int) < 2305843009213693921; decide), _, rfl, _, _, rfl, rfl, .inr (big o0 (by omega)), _, rfl, d, _, _, _, rfl, rfl, SqL.of hd2, rfl, _, _, rfl, rfl, .inl (by decide), _, _, rfl, rfl, ?_⟩
      refine ⟨_, rfl, _, _, rfl, rfl, (by show (0 : Int) < 2305843009213693907; decide), ?_⟩
      refine ⟨_, rfl, _, _, rfl, rfl, ⟨by decide, by decide⟩, _, rfl, _, _, rfl, rfl, n0, .inl ⟨_, rfl, ?_⟩⟩
      exact k _ _ (Int.emod_nonneg _ (by omega)) (Int.emod_lt_of_pos _ n0) (fun b o nb e => by rw [upd_ne nb]; exact e) ⟨_, _, _, upd_same⟩
theorem scO : FnScope ["_law_dice_here", "_law_items"] ["_law_dice_here", "_law_items"] (defScope sOneOf) := ⟨rfl, rfl, rfl, by decide +kernel, rfl, by decide +kernel, by decide +kernel⟩
theorem But.seq {K : PySem.W.Frag} {H H' : Hp} {d a : Addr} {xs : List V} (e : But d H H') (n : H d ≠ none → a ≠ d) (dn : H d ≠ none) (h : SqL K H a xs) : SqL K H' a xs := by
  rcases h with (h | ⟨o, h⟩) | h
  · exact .inl (.inl (e _ _ (n dn) h))
  · exact .inl (.inr ⟨o, e _ _ (n dn) h⟩)
  · exact .inr h
theorem Dice.ne {H : Hp} {d : Addr} (h : Dice H d) : H d ≠ none := by
  obtain ⟨_, _, _, e⟩ := h
  rw [e]
  exact fun z => nomatch z
theorem ok_oneof {f fR : Addr} {fd fdR : FuncData} (F : Fun K "_law_one_of" "_law_one_of" sOneOf f fd) (T : TxtD mg) (FR : Fun K "_law_roll" "_law_roll" sRoll fR fdR) (gR : mg "_law_roll" = some (.ref fR)) (bR : Binds K fdR ["_law_dice_here", "_law_total"] []) :
    FnOk P w K mg base CX0 2 f fd ["_law_dice_here", "_law_items"] (spOneOf K) := by
  have GR : FnOk P w K mg base CX0 1 fR fdR ["_law_dice_here", "_law_total"] spRoll := ok_roll FR T
  refine F.ok scO (fun vs H Q E h => ?_) (fun cdv A outer s H vs Q E hr h => ?_)
  · obtain ⟨d, a, xs, rfl, _⟩ := h
    rfl
  · obtain ⟨d, a, xs, rfl, hd, hx, ne, l0, l1, k⟩ := h
    refine ⟨_, pss_one (ps_ret (pe_ix ix_list (pv 1) (pe_call GR hr rfl gR FR.kp bR .nil pass0 (pa_cons (pv 0) (pa_cons (pe_callB call_len_seq (by rfl) T.len PySem.boot_len (pa_cons (pv 1) pa_nil)) pa_nil))) (fun _ _ => rfl))), ?_⟩
    refine ⟨_, rfl, _, rfl, _, rfl, a, _, rfl, .inl hx, d, _, rfl, hd, by omega, by omega, fun H' r r0 r1 hb hd' => ?_⟩
    obtain ⟨i, rfl⟩ : ∃ i : Nat, r = (i : Int) := ⟨r.toNat, by omega⟩
    have hi : i < xs.length := by omega
    have hv : xs[i]? = some xs[i] := List.getElem?_eq_getElem hi
    exact ⟨a, xs, _, _, rfl, rfl, hb.seq ne hd.ne hx, atI_nat hv, k _ i _ hv hb hd'⟩
theorem scD : FnScope ["_law_script", "_law_at", "_law_cell", "_law_great", "_law_left", "_law_mixed"] ["_law_script", "_law_at"] (defScope sDice) := ⟨rfl, rfl, rfl, by decide +kernel, rfl, by decide +kernel, by decide +kernel⟩
/-- a power of a greater base -/
theorem op_powB {X : Cx} : OpR X (binaryOp .Pow) (rI (fun i j => 0 ≤ j ∧ (PySem.Builtin.Int.intBits i : Int) * j ≤ 2 ^ 27) fun i j => .int (i ^ j.toNat)) := opI fun _ _ _ _ _ _ _ hc q => PyProof.Rows.pow_int hc.1 hc.2 q
theorem ok_dice {f : Addr} {fd : FuncData} (F : Fun K "_law_dice" "_law_dice" sDice f fd) (T : TxtD mg) : FnOk P w K mg base CX0 1 f fd ["_law_script", "_law_at"] (spDice K) := by
  refine F.ok scD (fun vs H Q E h => ?_) (fun cdv A outer s H vs Q E hr h => ?_)
  · obtain ⟨a, ns, k, rfl, _⟩ := h
    rfl
  · obtain ⟨a, ns, k, rfl, hS, q⟩ := h
    refine ⟨_, pss_cons (ps_set (i := 2) scD.nd rfl (Or.inl rfl) (pe_op op_add (pe_op op_mul pe_int (pv 1)) pe_int))
      (pss_cons (ps_if (pt_cmpR op_lt (pv 1) (pe_callB call_len_seq (by rfl) T.len PySem.boot_len (pa_cons (pv 0) pa_nil)) (nomark _))
        (pss_one (ps_set (i := 2) scD.nd rfl (Or.inl rfl) (pe_ix ix_list (pv 0) (pv 1) (fun _ _ => rfl)))) pss_nil)
      (pss_cons (ps_set (i := 3) scD.nd rfl (Or.inl rfl) (pe_op op_mod (pe_callTy call_int1 (by rfl) T.int (by decide +kernel) (pa_cons (pe_callB call_abs (by rfl) T.abs (by decide +kernel) (pa_cons (pv 2) pa_nil)) pa_nil)) (pe_op op_powB (pe_op op_pow pe_int pe_int) pe_int)))
      (pss_cons (ps_set (i := 4) scD.nd rfl (Or.inl rfl) (pe_op op_fdivW (pv 3) (pe_op op_pow pe_int pe_int)))
      (pss_cons (ps_set (i := 5) scD.nd rfl (Or.inl rfl) (pe_op op_add (pe_op op_add (pe_op op_add (pe_op op_mul (pe_op op_mod (pv 3) pe_int) pe_int) (pe_op op_mul pe_int (pv 1))) (pe_op op_mul pe_int (pe_callTy call_int1 (by rfl) T.int (by decide +kernel) (pa_cons (pe_cmpR op_lt (pv 2) pe_int (nomark _)) pa_nil)))) pe_int))
      (pss_one (ps_ret (pe_lst (pa_cons (pv 4) (pa_cons (pe_op op_mod (pv 5) pe_int) (pa_cons pe_int pa_nil)))))))))), ?_⟩
    refine ⟨_, rfl, _, _, rfl, rfl, .inl (by decide), _, _, rfl, rfl, ?_⟩
    refine ⟨_, rfl, _, rfl, a, _, rfl, .inl hS, _, _, rfl, rfl, _, rfl, ite2 (fun h0 => ?_) (fun h0 => ?_)⟩
    · have h1 : k < ns.length := by
        rw [List.length_map] at h0
        have h2 := of_decide_eq_true h0
        omega
      have hv : (ns.map V.int)[k]? = some (V.int ns[k]) := by
        rw [List.getElem?_map, List.getElem?_eq_getElem h1]
        rfl
      refine ⟨_, rfl, _, rfl, a, _, _, _, rfl, rfl, hS, atI_nat hv, ?_⟩
      refine ⟨_, rfl, _, rfl, .inl ⟨_, rfl, ?_⟩⟩
      refine ⟨_, _, rfl, rfl, ⟨by decide, by decide, by decide⟩, _, _, rfl, rfl, ⟨by decide, by decide +kernel⟩, _, _, rfl, rfl, (by show (0 : Int) < (10 ^ (60 : Int).toNat) ^ (10 : Int).toNat; decide +kernel), ?_⟩
      refine ⟨_, rfl, _, _, rfl, rfl, ⟨by decide, by decide, by decide⟩, _, _, rfl, rfl, wide_div (b := 64) (by show (0 : Int) < 10 ^ (18 : Int).toNat; decide +kernel) (by show (10 ^ (18 : Int).toNat : Int).natAbs < 2 ^ 64; decide +kernel) (by decide) (by decide), ?_⟩
      refine ⟨_, rfl, _, _, rfl, rfl, (by show (0 : Int) < 2147483423; decide), _, _, rfl, rfl, .inr (by decide), _, rfl, _, _, rfl, rfl, .inl (by decide), _, _, rfl, rfl, _, rfl, _, _, rfl, rfl, .inr ⟨_, rfl, ?_⟩⟩
      refine ⟨_, _, rfl, rfl, .inl (by decide), _, _, rfl, rfl, _, _, rfl, rfl, ?_⟩
      refine ⟨_, rfl, _, rfl, _, _, rfl, rfl, (by show (0 : Int) < 2147483399; decide), (by show 3 ≤ sizeLine; decide), fun p hp => ?_⟩
      exact q _ p (fun b o e => by rw [upd_ne (ne_of_none e hp)]; exact e) hp ⟨_, _, _, upd_same⟩
    · refine ⟨_, rfl, _, rfl, .inl ⟨_, rfl, ?_⟩⟩
      refine ⟨_, _, rfl, rfl, ⟨by decide, by decide, by decide⟩, _, _, rfl, rfl, ⟨by decide, by decide +kernel⟩, _, _, rfl, rfl, (by show (0 : Int) < (10 ^ (60 : Int).toNat) ^ (10 : Int).toNat; decide +kernel), ?_⟩
      refine ⟨_, rfl, _, _, rfl, rfl, ⟨by decide, by decide, by decide⟩, _, _, rfl, rfl, wide_div (b := 64) (by show (0 : Int) < 10 ^ (18 : Int).toNat; decide +kernel) (by show (10 ^ (18 : Int).toNat : Int).natAbs < 2 ^ 64; decide +kernel) (by decide) (by decide), ?_⟩
      refine ⟨_, rfl, _, _, rfl, rfl, (by show (0 : Int) < 2147483423; decide), _, _, rfl, rfl, .inr (by decide), _, rfl, _, _, rfl, rfl, .inl (by decide), _, _, rfl, rfl, _, rfl, _, _, rfl, rfl, .inr ⟨_, rfl, ?_⟩⟩
      refine ⟨_, _, rfl, rfl, .inl (by decide), _, _, rfl, rfl, _, _, rfl, rfl, ?_⟩
      refine ⟨_, rfl, _, rfl, _, _, rfl, rfl, (by show (0 : Int) < 2147483399; decide), (by show 3 ≤ sizeLine; decide), fun p hp => ?_⟩
      exact q _ p (fun b o e => by rw [upd_ne (ne_of_none e hp)]; exact e) hp ⟨_, _, _, upd_same⟩
end
end OM

namespace OM
open PySem
/-- what is asked of a built-in class's own __init__ -/
structure InitF (B initId : String) : Prop where
  init : Slot B "__init__" initId
  initEntry : entryFor table initId = some Builtin.«BaseException.__init__»
  initSplit : splitId initId = some (B, "__init__")
  initKind : builtinKind initId = some .slot
  initRow : Manifest.signature? initId = some ⟨.positional, "*", B, .self, [⟨"args", .varPos, false⟩]⟩
  noStar : (B != "*") = true
theorem InitF.of {B n i : String} (F : ExcCallFacts B n i) : InitF B i := ⟨F.init, F.initEntry, F.initSplit, F.initKind, F.initRow, F.noStar⟩
theorem initF_KE : InitF "KeyError" "KeyError.__init__" where
  init := .of (owner := "KeyError") (n := "__init__") (by rw [typeLookup_type, builtinLookup_eq_fast]; kernel_rfl) (by decide +kernel) (by decide +kernel) (by decide +kernel)
    (by first | exact .inl (by decide +kernel) | exact .inr (by decide +kernel)) (by rw [isSubtype_type]; kernel_rfl)
  initEntry := entryFor_alias (id' := "BaseException.__init__") (by rw [fastTable_eq_tree]; kernel_rfl) (by first | rfl | decide +kernel) (by decide +kernel) (by rw [fastTable_eq_tree]; kernel_rfl)
  initSplit := by kernel_rfl
  initKind := by kernel_rfl
  initRow := by kernel_rfl
  noStar := by decide +kernel

/-- own classes, then a built-in chain -/
def refsT (tail : List Value) : List Value → Bool
  | .ref _ :: r => refsT tail r
  | l => l == tail
structure BaseX (B newId initId : String) (tail : List Value) : Prop where
  F : ∃ Bn inN bmN, ExcBaseFacts Bn newId inN bmN ∧ tail.contains (.type Bn) = true
  I : InitF B initId
  hasB : tail.contains (.type B) = true
  noAttr : tail.contains (.type "AttributeError") = false
  noName : tail.contains (.type "NameError") = false
  pass : ∀ self : Value, refuseLoop self "__setattr__" tail = pure ()
  obj : tail.contains (.type "object") = true
  ne : tail.isEmpty = false
  ty : typeOf (.type B) = pure (.type "type")
  stub : Manifest.isStub B = false
theorem base_VE : BaseX "ValueError" "ValueError.__new__" "ValueError.__init__" [.type "ValueError", .type "Exception", .type "BaseException", .type "object"] :=
  ⟨⟨_, _, _, F.excBase_ValueError, by decide +kernel⟩, .of F.excBase_ValueError.toExcCallFacts, by decide +kernel, by decide +kernel, by decide +kernel, fun self => by kernel_rfl, by decide +kernel, rfl, by kernel_rfl, by decide +kernel⟩
theorem base_LE : BaseX "LookupError" "LookupError.__new__" "LookupError.__init__" [.type "LookupError", .type "Exception", .type "BaseException", .type "object"] :=
  ⟨⟨_, _, _, F.excBase_LookupError, by decide +kernel⟩, .of F.excBase_LookupError.toExcCallFacts, by decide +kernel, by decide +kernel, by decide +kernel, fun self => by kernel_rfl, by decide +kernel, rfl, by kernel_rfl, by decide +kernel⟩
theorem base_RE : BaseX "RuntimeError" "RuntimeError.__new__" "RuntimeError.__init__" [.type "RuntimeError", .type "Exception", .type "BaseException", .type "object"] :=
  ⟨⟨_, _, _, F.excBase_RuntimeError, by decide +kernel⟩, .of F.excBase_RuntimeError.toExcCallFacts, by decide +kernel, by decide +kernel, by decide +kernel, fun self => by kernel_rfl, by decide +kernel, rfl, by kernel_rfl, by decide +kernel⟩
theorem base_OE : BaseX "OverflowError" "OverflowError.__new__" "OverflowError.__init__" [.type "OverflowError", .type "ArithmeticError", .type "Exception", .type "BaseException", .type "object"] :=
  ⟨⟨_, _, _, F.excBase_OverflowError, by decide +kernel⟩, .of F.excBase_OverflowError.toExcCallFacts, by decide +kernel, by decide +kernel, by decide +kernel, fun self => by kernel_rfl, by decide +kernel, rfl, by kernel_rfl, by decide +kernel⟩
theorem base_IE : BaseX "IndexError" "IndexError.__new__" "IndexError.__init__" [.type "IndexError", .type "LookupError", .type "Exception", .type "BaseException", .type "object"] :=
  ⟨⟨_, _, _, F.excBase_IndexError, by decide +kernel⟩, .of F.excBase_IndexError.toExcCallFacts, by decide +kernel, by decide +kernel, by decide +kernel, fun self => by kernel_rfl, by decide +kernel, rfl, by kernel_rfl, by decide +kernel⟩
theorem base_AE : BaseX "ArithmeticError" "ArithmeticError.__new__" "ArithmeticError.__init__" [.type "ArithmeticError", .type "Exception", .type "BaseException", .type "object"] :=
  ⟨⟨_, _, _, F.excBase_ArithmeticError, by decide +kernel⟩, .of F.excBase_ArithmeticError.toExcCallFacts, by decide +kernel, by decide +kernel, by decide +kernel, fun self => by kernel_rfl, by decide +kernel, rfl, by kernel_rfl, by decide +kernel⟩
theorem base_KE : BaseX "KeyError" "LookupError.__new__" "KeyError.__init__" [.type "KeyError", .type "LookupError", .type "Exception", .type "BaseException", .type "object"] :=
  ⟨⟨_, _, _, F.excBase_LookupError, by decide +kernel⟩, initF_KE, by decide +kernel, by decide +kernel, by decide +kernel, fun self => by kernel_rfl, by decide +kernel, rfl, by kernel_rfl, by decide +kernel⟩
theorem refsT_cases {tail : List Value} : ∀ l : List Value, refsT tail l = true → (∃ c r, l = .ref c :: r ∧ refsT tail r = true) ∨ l = tail
  | [], e => .inr (beq_iff_eq.mp e)
  | .ref c :: r, e => .inl ⟨c, r, rfl, e⟩
  | .none :: _, e => .inr (beq_iff_eq.mp e)
  | .ellipsis :: _, e => .inr (beq_iff_eq.mp e)
  | .notImplemented :: _, e => .inr (beq_iff_eq.mp e)
  | .bool _ :: _, e => .inr (beq_iff_eq.mp e)
  | .int _ _ :: _, e => .inr (beq_iff_eq.mp e)
  | .float _ _ :: _, e => .inr (beq_iff_eq.mp e)
  | .str _ _ :: _, e => .inr (beq_iff_eq.mp e)
  | .bytes _ _ :: _, e => .inr (beq_iff_eq.mp e)
  | .type _ :: _, e => .inr (beq_iff_eq.mp e)
  | .builtin _ :: _, e => .inr (beq_iff_eq.mp e)
theorem refsT_pass {tail : List Value} {self : Value} (hp : refuseLoop self "__setattr__" tail = pure ()) : ∀ l : List Value, refsT tail l = true → refuseLoop self "__setattr__" l = pure () := by
  intro l
  induction l with
  | nil =>
    intro e
    rcases refsT_cases [] e with ⟨c, r', q, h⟩ | q
    · cases q
    · rw [q]; exact hp
  | cons a r ih =>
    intro e
    rcases refsT_cases (a :: r) e with ⟨c, r', q, h⟩ | q
    · obtain ⟨rfl, rfl⟩ := List.cons.inj q
      rw [refuseLoop_ref]; exact ih h
    · rw [q]; exact hp
theorem refsT_contains {tail : List Value} (X : String) : ∀ l : List Value, refsT tail l = true → l.contains (.type X) = tail.contains (.type X) := by
  intro l
  induction l with
  | nil =>
    intro e
    rcases refsT_cases [] e with ⟨c, r', q, h⟩ | q
    · cases q
    · rw [q]
  | cons a r ih =>
    intro e
    rcases refsT_cases (a :: r) e with ⟨c, r', q, h⟩ | q
    · obtain ⟨rfl, rfl⟩ := List.cons.inj q
      rw [List.contains_cons, ih h]; rfl
    · rw [q]
theorem refsT_ne {tail : List Value} (hn : tail.isEmpty = false) {l : List Value} (e : refsT tail l = true) : l.isEmpty = false := by
  rcases refsT_cases l e with ⟨c, r', q, h⟩ | q
  · rw [q]; rfl
  · rw [q]; exact hn

open PySem.HandSPX Builtin Builtin.ObjectAttr
section
variable {M : Model} {A : Around} {E : Value → Shared → Prop} {h : Heap} {g : Array GenState} {d : Drawn} {t : Nat} {os : OsState}
variable {nm q : Str} {C N : Addr} {bs bm bmB tail : List Value} {hdct : Bool} {sn : List Str} {sub : List Value} {ab : Bool} {col : Option Bool} {dd : Option Addr} {k0 k1 k2 k3 k5 : Option Value} {B newId initId : String}
theorem check_newX {Bn inN : String} {bmN : List Value} (F : ExcBaseFacts Bn newId inN bmN) (hB : bm.contains (.type Bn) = true) {rest : List Value} {Q : Unit → Shared → Prop}
    (hC : h.get? C = some (excClassObj nm q C N bs bm hdct sn sub ab col dd k0 k1 k2 k3 k5 newId)) (hq : Q () ⟨h, g, d, t, os⟩) : wpAny M A (checkBuiltinCall newId ⟨.ref C :: rest, []⟩) Q E ⟨h, g, d, t, os⟩ := by
  have hcont : (Value.ref C :: bm).contains (.type Bn) = true := by rw [List.contains_cons, hB, Bool.or_true]
  have hstar := F.noStar
  simp only [checkBuiltinCall, F.newKind, F.newSplit, F.newRow]
  repeat (first | refine wpAny_loadPart_at hC ?_ | (refine wpAny_isSubtype_exc hC ?_; rw [hcont]) | refine wpAny_staticBase_exc hC ?_ | refine wpAny_madeBy_exc hC ?_ | simp only [bne_self_eq_false, Bool.false_eq_true, if_false] | wp_step)
  exact hq
theorem check_initX (F : InitF B initId) (hB : bm.contains (.type B) = true) {e : Addr} {oe : Obj} {rest : List Value} {Q : Unit → Shared → Prop}
    (hC : h.get? C = some (excClassObj nm q C N bs bm hdct sn sub ab col dd k0 k1 k2 k3 k5 newId)) (he : h.get? e = some oe) (hcls : oe.cls = .ref C) (hq : Q () ⟨h, g, d, t, os⟩) :
    wpAny M A (checkBuiltinCall initId ⟨.ref e :: rest, []⟩) Q E ⟨h, g, d, t, os⟩ := by
  have hcB : (Value.ref C :: bm).contains (.type B) = true := by rw [List.contains_cons, hB, Bool.or_true]
  have hshort := F.noStar
  simp only [checkBuiltinCall, F.initKind, F.initSplit, F.initRow]
  repeat (first | (with_reducible refine wpAny_loadPart_at he ?_; rw [hcls]) | with_reducible refine wpAny_loadPart_at hC ?_ | (with_reducible refine wpAny_isSubtype_exc hC ?_; rw [hcB]) | wp_step)
  refine wpAny_onRaise ?_
  rw [show ∀ (a b : String) (n : Nat), Bind.check ⟨.positional, "*", B, .self, [⟨"args", .varPos, false⟩]⟩ a b n (List.map (fun x => x.fst) ({ pos := Value.ref e :: rest } : Args).kw) = pure () from
    fun a b n => check_star_args _ _ _ _ _ _]
  exact wpAny_pure hq
end
section
variable {prog : Program} {w : World} {A : Around} {E : Value → Shared → Prop} {R : Result → Shared → Prop} {h : Heap} {g : Array GenState} {d : Drawn} {t : Nat} {os : OsState}
variable {nm q : Str} {C N : Addr} {bs bm tail : List Value} {hdct : Bool} {sn : List Str} {sub : List Value} {ab : Bool} {col : Option Bool} {dd : Option Addr} {k0 k1 k2 k3 k5 : Option Value} {B newId initId : String}
theorem newX (X : BaseX B newId initId tail) (hm : refsT tail bm = true) {rest : List Value}
    (hC : h.get? C = some (excClassObj nm q C N bs bm hdct sn sub ab col dd k0 k1 k2 k3 k5 newId))
    (hq : R (.ok (.ret (.ref (h.objs.size + 1)))) ⟨(h.push { cls := .type "tuple", data := .seq rest.toArray }).push
      { cls := .ref C, data := .fields #[.ref h.objs.size, .none, .none, .none, .bool false, .none] }, g, d, t, os⟩) (hrest : rest.length ≤ sizeLine) :
    codeAny (model prog w) A (.builtin newId ⟨.ref C :: rest, []⟩) R ⟨h, g, d, t, os⟩ := by
  obtain ⟨Bn, inN, bmN, F, hBn⟩ := X.F
  have hends := F.ends
  have hcB : (Value.ref C :: bm).contains (.type Bn) = true := by rw [List.contains_cons, refsT_contains _ _ hm, hBn, Bool.or_true]
  have hcA : (Value.ref C :: bm).contains (.type "AttributeError") = false := by rw [List.contains_cons, refsT_contains _ _ hm, X.noAttr]; rfl
  have hcN : (Value.ref C :: bm).contains (.type "NameError") = false := by rw [List.contains_cons, refsT_contains _ _ hm, X.noName]; rfl
  refine codeAny_builtinAt F.entry ?_
  unfold Builtin.«BaseException.__new__»
  refine wpAt_bind ?_
  show wpAt _ _ _ (stack >>= _) _ _ _
  refine wpAt_bind (wpAt_stack fun p below => wpAt_of_wpAny ?_)
  wp_walk
  refine wpAt_of_wpAny ?_
  rw [F.owner]
  repeat (first | with_reducible refine wpAny_madeHere_exc F.canon hC ?_ | with_reducible refine wpAny_loadPart_at hC ?_ | (with_reducible refine wpAny_isSubtype_exc hC ?_; first | rw [hcB] | rw [hcA] | rw [hcN]) | wp_step)
  show R _ _
  rw [Heap.size_push]
  exact hq
theorem type_callX (X : BaseX B newId initId tail) (hm : refsT tail bm = true) {rest : List Value} {fI : Addr} {Q : Fin → Shared → Prop}
    (hC : h.get? C = some (excClassObj nm q C N bs bm hdct sn sub ab col dd k0 k1 k2 k3 k5 newId))
    (hi : W.Looks (model prog w) h (typeLookup (.ref C) "__init__") (some (.ref fI))) (hb : ∀ self, W.Looks (model prog w) h (bindSpecial (.ref fI) self) (.ref fI, [self])) (hrest : rest.length ≤ sizeLine)
    (hq : codeAny (model prog w) A (.call (.ref fI) ⟨.ref (h.objs.size + 1) :: rest, []⟩)
      (fun r s' => match r with | .ok (.ret v) => v = .none ∧ Q (.done (.ret (.ref (h.objs.size + 1)))) s' | .ok _ => False | .error e => E e s')
      ⟨(h.push (W.kdv_tup rest)).push (excO C h.objs.size), g, d, t, os⟩) :
    wpAny (model prog w) A (Builtin.«type.__call__» ⟨.ref C :: rest, []⟩) Q E ⟨h, g, d, t, os⟩ := by
  obtain ⟨Bn, inN, bmN, F, hBn⟩ := X.F
  repeat (first | with_reducible refine wpAny_loadPart_at hC ?_ | with_reducible refine wpAny_madeBy_exc hC ?_ | wp_step)
  refine codeAny_call_builtin_code (Code.quiet_builtin _ F.quiet) (check_newX F (by rw [refsT_contains _ _ hm, hBn]) hC ?_)
  refine newX X hm hC ?_ hrest
  show wpAny _ _ _ _ _ _
  have k : ∀ b o, h.get? b = some o → ((h.push (W.kdv_tup rest)).push (excO C h.objs.size)).get? b = some o := fun b o e => Heap.get?_push_of_some _ (Heap.get?_push_of_some _ e)
  have hC₁ := k _ _ hC
  have hget : ((h.push (W.kdv_tup rest)).push (excO C h.objs.size)).get? (h.objs.size + 1) = some (excO C h.objs.size) := by heap_get
  have hcC : (Value.ref C :: bm).contains (.ref C) = true := by simp
  have i1 := hi.keeps k
  have b1 := (hb (.ref (h.objs.size + 1))).keeps k
  unfold isInstance
  repeat (first | with_reducible refine wpAny_loadPart_at hget ?_ | (with_reducible refine wpAny_isSubtype_exc hC₁ ?_; rw [hcC]) | wp_step)
  show wpAny _ _ (typeLookup (.ref C) _) _ _ _
  refine i1.at ?_
  refine wpAny_holding (wpAny_bind (b1.at ?_))
  refine wpAny_bind (wpAny_call (codeAny_mono hq fun r s' z => ?_))
  rcases r with e | (v | _ | _ | _) <;> first | exact z | exact z.elim | skip
  obtain ⟨rfl, z⟩ := z
  first
    | exact wpAny_pure (wpAny_pure z)
    | (wp_walk; exact z)
theorem callX (X : BaseX B newId initId tail) (hm : refsT tail bm = true) {rest : List Value} {fI : Addr}
    (hC : h.get? C = some (excClassObj nm q C N bs bm hdct sn sub ab col dd k0 k1 k2 k3 k5 newId))
    (hi : W.Looks (model prog w) h (typeLookup (.ref C) "__init__") (some (.ref fI))) (hb : ∀ self, W.Looks (model prog w) h (bindSpecial (.ref fI) self) (.ref fI, [self])) (hrest : rest.length ≤ sizeLine)
    (hq : codeAny (model prog w) (A.under (.builtin "type.__call__" ⟨.ref C :: rest, []⟩)) (.call (.ref fI) ⟨.ref (h.objs.size + 1) :: rest, []⟩) (W.InitBack (h.objs.size + 1) R)
      ⟨(h.push (W.kdv_tup rest)).push (excO C h.objs.size), g, d, t, os⟩) :
    codeAny (model prog w) A (.call (.ref C) ⟨rest, []⟩) R ⟨h, g, d, t, os⟩ := by
  have f1 := tc_lookup
  have f2 := tc_bind (.ref C)
  have hTy : (⟨h, g, d, t, os⟩ : Shared).TypeIs (.ref C) "type" := ⟨_, hC, rfl⟩
  refine codeAny_of_tree ?_
  show wpAny _ _ (callAny (.ref C) _) _ _ _
  repeat (any_goals (first | assumption | with_reducible refine wpAny_loadPart_at hC ?_ | wp_step))
  refine ⟨rfl, ?_⟩
  refine codeAny_call_builtin_at (Code.quiet_builtin _ (by decide +kernel)) entry_typeCall (wpAny_check_type_call_sub hC (type_callX X hm hC hi hb hrest ?_))
  refine codeAny_mono hq fun r s' z => ?_
  rcases r with e | (v | _ | _ | _) <;> exact z
theorem init_baseX (X : BaseX B newId initId tail) {tail' : List Value} {newId' : String} (hm : refsT tail' bm = true) (hB : tail'.contains (.type B) = true) {e t0 : Addr} {rest : List Value}
    (hC : h.get? C = some (excClassObj nm q C N bs bm hdct sn sub ab col dd k0 k1 k2 k3 k5 newId')) (he : h.get? e = some (excO C t0)) (hrest : rest.length ≤ sizeLine)
    (hq : ∀ h' t1, (∀ b o, b ≠ e → h.get? b = some o → h'.get? b = some o) → h'.get? e = some (excO C t1) → R (.ok (.ret .none)) ⟨h', g, d, t, os⟩) :
    codeAny (model prog w) A (.call (.builtin initId) ⟨.ref e :: rest, []⟩) R ⟨h, g, d, t, os⟩ := by
  refine codeAny_call_builtin X.I.init.plain X.I.initEntry (check_initX X.I (by rw [refsT_contains _ _ hm, hB]) hC he rfl ?_)
  wp_walk
  refine hq _ h.objs.size (fun b o hb ho => ?_) ?_
  · rw [Heap.get?_update_other _ _ (Ne.symm hb)]
    exact Heap.get?_push_of_some _ ho
  · rw [Heap.get?_update_self _ (Heap.get?_push_of_some _ he) rfl]
    rfl
end
end OM

namespace OM
open PySem PySem.HandSPX Builtin Builtin.ObjectAttr
section
variable {prog : Program} {w : World} {A : Around} {E : Value → Shared → Prop} {R : Result → Shared → Prop} {hp : Heap} {g : Array GenState} {d : Drawn} {t : Nat} {os : OsState}
variable {B newId initId : String} {tail : List Value}
theorem osaX (Y : BaseX B newId initId tail) {K : W.Frag} {name : Str} {tk : Tok} {v : Value} {x C : Addr} {fv : Array Value} {cd : ClassData}
    (X : K.In hp) (hx : hp.get? x = some { cls := .ref C, data := .fields fv }) (hcd : W.clsIn K C = some cd) (hm : refsT tail cd.mro = true) (hh : cd.hasDict = true) (ha : W.findIn K (.ref C) name = some none)
    (hq : ∀ h' tk' dx, (∀ b o, b ≠ x → hp.get? b = some o → h'.get? b = some o) → hp.objs.size ≤ dx → dx ≠ x → h'.get? x = some { cls := .ref C, dict := some dx, data := .fields fv } →
      h'.Ns1 dx (fun y => if y = name then some v else none) → R (.ok (.ret .none)) ⟨h', g, d, tk', os⟩) :
    codeAny (model prog w) A (.call (.builtin "object.__setattr__") ⟨[.ref x, .str name tk, v], []⟩) R ⟨hp, g, d, t, os⟩ := by
  have I : W.InstAt hp x { cls := .ref C, data := .fields fv } C none := ⟨hx, rfl, rfl, trivial⟩
  have SF := F.store_object
  have ne := refsT_ne Y.ne hm
  have hob : cd.mro.contains (.type "object") = true := (refsT_contains "object" _ hm).trans Y.obj
  have hxs : x ≠ hp.objs.size := Nat.ne_of_lt (Heap.lt_size hx)
  have sub : W.Looks (model prog w) hp (isInstance (.ref x) (.type "object")) true := I.type.andThen (W.looks_mroIn X (by unfold W.mroIn; rw [hcd, Option.bind_some, if_neg (by rw [ne]; decide), hob]))
  refine codeAny_call_builtin SF.slot.plain SF.entry (@W.check_slot (model prog w) _ _ ⟨hp, g, d, t, os⟩ "object.__setattr__" "object" "__setattr__" (.ref x) [.str name tk, v] [] _ SF.kind SF.split sub (SF.args (.ref x) (.str name tk) v) ?_)
  have hmr : W.Looks (model prog w) hp (mroOf (.ref C)) cd.mro := (W.looks_clsIn X hcd).andThen .now
  have L3 : W.Looks (model prog w) hp (storeTaker? none) none := .now
  have hcls : W.Looks (model prog w) hp (classData C) cd := W.looks_clsIn X hcd
  rw [W.osa_eq, refuse_eq]
  refine wpAny_bind (wpAny_bind (I.type.at (wpAny_bind (hmr.at ?_))))
  rw [refsT_pass (Y.pass _) _ hm]
  refine wpAny_pure (wpAny_bind (I.type.at (wpAny_bind ((W.looks_findIn X ha).at (wpAny_bind (L3.at ?_))))))
  show wpAny _ _ (storeInOwnDict (.ref x) (.ref C) (.str name tk) name v false) _ _ _
  obtain ⟨nm, bs, mro, ns, qn, hd, sn, sb, ab, col, del⟩ := cd
  dsimp only at hh
  subst hh
  unfold storeInOwnDict ownDictForStores
  repeat (first | with_reducible refine store_in_new ?_ ?_ | with_reducible refine wpAny_loadPart_at hx ?_ | with_reducible refine hcls.at ?_ | wp_step)
  · exact ⟨_, #[], _, (Heap.get?_update_ne _ _ _ _ hxs.symm).trans (Heap.get?_push_at rfl rfl), rfl, fun e he => absurd he (by simp), fun _ => rfl⟩
  · intro h' tk' hn' hs
    have hx₁ : (hp.push { cls := .type "dict", data := .dict #[] }).get? x = some { cls := .ref C, data := .fields fv } := Heap.get?_push_of_some _ hx
    refine hq h' tk' hp.objs.size (fun b o hb ho => ?_) (Nat.le_refl _) hxs.symm ?_ hn'
    · exact (hs.2 b (Nat.ne_of_lt (Heap.lt_size ho))).trans ((Heap.get?_update_ne _ _ _ _ hb).trans (Heap.get?_push_of_some _ ho))
    · exact (hs.2 x hxs).trans (Heap.get?_update_self _ hx₁ rfl)
theorem osaX_old (Y : BaseX B newId initId tail) {K : W.Frag} {name : Str} {tk : Tok} {v : Value} {x C dx : Addr} {fv : Array Value} {cd : ClassData} {m0 : Str → Option Value} {nl : List Str}
    (X : K.In hp) (hx : hp.get? x = some { cls := .ref C, dict := some dx, data := .fields fv }) (hns : hp.Ns1 dx m0) (hw : Within m0 nl) (hz : nl.length ≤ 1000) (hcd : W.clsIn K C = some cd) (hm : refsT tail cd.mro = true) (hh : cd.hasDict = true)
    (ha : W.findIn K (.ref C) name = some none)
    (hq : ∀ h' tk', (∀ b o, b ≠ dx → hp.get? b = some o → h'.get? b = some o) → h'.Ns1 dx (fun y => if y = name then some v else m0 y) → R (.ok (.ret .none)) ⟨h', g, d, tk', os⟩) :
    codeAny (model prog w) A (.call (.builtin "object.__setattr__") ⟨[.ref x, .str name tk, v], []⟩) R ⟨hp, g, d, t, os⟩ := by
  obtain ⟨oD, esD, epD, hoD, hdD, _⟩ := hns.count hw
  have I : W.InstAt hp x { cls := .ref C, dict := some dx, data := .fields fv } C (some oD) := ⟨hx, rfl, rfl, hoD⟩
  have SF := F.store_object
  have ne := refsT_ne Y.ne hm
  have hob : cd.mro.contains (.type "object") = true := (refsT_contains "object" _ hm).trans Y.obj
  have sub : W.Looks (model prog w) hp (isInstance (.ref x) (.type "object")) true := I.type.andThen (W.looks_mroIn X (by unfold W.mroIn; rw [hcd, Option.bind_some, if_neg (by rw [ne]; decide), hob]))
  refine codeAny_call_builtin SF.slot.plain SF.entry (@W.check_slot (model prog w) _ _ ⟨hp, g, d, t, os⟩ "object.__setattr__" "object" "__setattr__" (.ref x) [.str name tk, v] [] _ SF.kind SF.split sub (SF.args (.ref x) (.str name tk) v) ?_)
  have hmr : W.Looks (model prog w) hp (mroOf (.ref C)) cd.mro := (W.looks_clsIn X hcd).andThen .now
  have L3 : W.Looks (model prog w) hp (storeTaker? none) none := .now
  have hcls : W.Looks (model prog w) hp (classData C) cd := W.looks_clsIn X hcd
  rw [W.osa_eq, refuse_eq]
  refine wpAny_bind (wpAny_bind (I.type.at (wpAny_bind (hmr.at ?_))))
  rw [refsT_pass (Y.pass _) _ hm]
  refine wpAny_pure (wpAny_bind (I.type.at (wpAny_bind ((W.looks_findIn X ha).at (wpAny_bind (L3.at ?_))))))
  show wpAny _ _ (storeInOwnDict (.ref x) (.ref C) (.str name tk) name v false) _ _ _
  obtain ⟨nm, bs, mro, ns, qn, hd, sn, sb, ab, col, del⟩ := cd
  dsimp only at hh
  subst hh
  unfold storeInOwnDict ownDictForStores
  repeat (first | with_reducible refine PySem.OEX.store_in_old hns hw hz ?_ | with_reducible refine wpAny_loadPart_at hx ?_ | with_reducible refine hcls.at ?_ | wp_step)
  intro h' tk' hn' hs
  exact hq h' tk' (fun b o hb ho => (hs.2 b hb).trans ho) hn'
end
end OM

namespace PySem.W
open PySem PySem.Calls PyProof.Rows
/-- a function read off its class: itself -/
theorem om_fn_get_none {prog : Program} {w : World} {A : Around} {R : Result → Shared → Prop} {s : Shared} {K : Frag} {p C : Addr} (X : K.In s.heap) (hp : typeIn K (.ref p) = some (.type "function"))
    (h : R (.ok (.ret (.ref p))) s) : codeAny (model prog w) A (.call (.builtin "function.__get__") ⟨[.ref p, .none, .ref C], []⟩) R s := by
  obtain ⟨o, ho, hc⟩ := Option.map_eq_some_iff.mp hp
  obtain ⟨hh, g, dr, t, os⟩ := s
  refine codeAny_call_builtin KF.slot_fn.plain KF.entry_fn (KF.slot_fn.check _ _ _ _ _ _ _ _ ⟨_, X _ _ ho, hc⟩ (KF.args_fn _ _ _) ?_)
  unfold Builtin.«function.__get__»
  refine wpAny_bind (wpAny_of_eq (a := ((.ref p : Value), (none : Option Value), some (.ref C : Value))) (by first | rfl | kernel_rfl) ?_)
  exact wpAny_pure h
end PySem.W

namespace OM
open PySem PySem.Spec PyProof.Rows L2
/-- what the written part says of an own exception class -/
structure OexB (K : PySem.W.Frag) (C : Addr) (tail : List Value) : Prop where
  cls : ∃ B newId initId nm q N bs bm sn sub ab col dd k0 k1 k2 k3 k5, BaseX B newId initId tail ∧ K.lookup C = some (excClassObj nm q C N bs bm true sn sub ab col dd k0 k1 k2 k3 k5 newId) ∧ refsT tail bm = true
  sa : PySem.W.findIn K (.ref C) "__setattr__" = some (some (.builtin "object.__setattr__"))
  exC : PySem.W.subIn K (.ref C) (.type "BaseException") = some true
  tyC : PySem.W.typeIn K (.ref C) = some (.type "type")
  kC : PySem.W.keepIn K (.ref C) = true
section
variable {X : Cx} {pins : List (Addr × Obj)} {σ : L2.St} {H : Hp} {s : Shared} {a C dx : Addr} {f : Str} {y : V} {u : Value} {fs : List (Str × V)} {Q : Unit → Shared → Prop} {E : Value → Shared → Prop} {A : Around} {tail : List Value}
theorem ostB_new (T : OexB X.K C tail) (I : Inv X pins σ H s) (e : H a = some (exo a C none)) (hno : PySem.W.findIn X.K (.ref C) f = some none) (ry : RelV y u)
    (h : ∀ dx s', H dx = none → dx ≠ a → Inv X pins σ (upd (upd H dx (exd dx [(f, y)])) a (exo a C (some dx))) s' → Q () s') : wpAny (model X.prog X.w) A (setAttr (.ref a) f u) Q E s := by
  obtain ⟨B, newId, initId, nm, q, N, bs, bm, sn, sub, ab, col, dd, k0, k1, k2, k3, k5, Y, hC, hbm⟩ := T.cls
  have hcl : PySem.W.clsIn X.K C = some { name := nm, bases := bs, mro := .ref C :: bm, ns := N, qualname := q, hasDict := true, slotNames := sn, subclasses := sub, abstract := ab, collection := col, hasDel := false } := by unfold PySem.W.clsIn; rw [hC] <;> rfl
  obtain ⟨t1, ho⟩ := exo_at I.hok e
  obtain ⟨hp, g, d, t, os⟩ := s
  refine PySem.W.set_plain I.kIn (ox := { cls := .ref C, dict := none, data := .fields #[.ref t1, .none, .none, .none, .bool false, .none] }) (od := none) ⟨ho, rfl, rfl, trivial⟩ T.sa ?_
  refine osaX Y I.kIn ho hcl (show refsT tail (.ref C :: bm) = true from hbm) rfl hno (fun h' tk' dx k dn dne hx hn => ?_)
  have hnd : H dx = none := I.hok.fresh dn
  have nd : ∀ {b : Addr} {o : Obj}, hp.get? b = some o → b ≠ dx := fun {b o} q => Nat.ne_of_lt (Nat.lt_of_lt_of_le (Heap.lt_size q) dn)
  have na : ∀ {b : Addr}, H b = none → b ≠ a := fun {b} n z => by
    rw [z, e] at n
    cases n
  have Un1 : Un X.fs [] H (upd (upd H dx (exd dx [(f, y)])) a (exo a C (some dx))) hp h' := {
    keep := fun b o q n _ _ => k b o (na n) q
    slot := fun b o q n _ _ => ⟨o.slots, k b o (na n) q⟩
    free := fun b o q n _ => by rw [upd_ne (na n), upd_ne (nd q)]; exact n
    there := fun b o q _ => by
      by_cases hb : b = a
      · exact ⟨_, by rw [hb]; exact hx⟩
      · exact ⟨o, k b o hb q⟩
    tups := fun b xs q => by rw [upd_ne (at_ne e q exo_tup), upd_ne (ne_of_none q hnd)]; exact q
    frzs := fun b o v q => by rw [upd_ne (at_ne e q exo_frz), upd_ne (ne_of_none q hnd)]; exact q
    tbls := fun b ps q => ⟨#[], by rw [upd_ne (at_ne e q exo_tbl), upd_ne (ne_of_none q hnd), q]; simp⟩ }
  refine h dx _ hnd dne (I.un (t' := tk') Un1 fun b o q => ?_)
  by_cases hb : b = a
  · subst hb
    rw [upd_same] at q
    cases q
    exact exo_ok hx
  · rw [upd_ne hb] at q
    by_cases hd : b = dx
    · subst hd
      rw [upd_same] at q
      cases q
      exact exd_ok hn (relO_put (fs := []) ry fun g => True.intro)
    · rw [upd_ne hd] at q
      exact (I.hok b o q).stay (fun c v hc z => k c v (by
          rcases hc with hc | hc
          · rw [hc]
            exact hb
          · exact at_ne e hc exo_own) z)
        (fun c hc => by rw [upd_ne (at_ne e hc exo_own), upd_ne (ne_of_none hc hnd)]; exact hc) (fun c xs hc => by rw [upd_ne (at_ne e hc exo_tup), upd_ne (ne_of_none hc hnd)]; exact hc)
theorem ostB_old (T : OexB X.K C tail) (I : Inv X pins σ H s) (e : H a = some (exo a C (some dx))) (ed : H dx = some (exd dx fs)) (hl : fs.length ≤ 900) (hno : PySem.W.findIn X.K (.ref C) f = some none) (ry : RelV y u)
    (h : ∀ s', Inv X pins σ (upd H dx (exd dx ((f, y) :: fs))) s' → Q () s') : wpAny (model X.prog X.w) A (setAttr (.ref a) f u) Q E s := by
  obtain ⟨B, newId, initId, nm, q, N, bs, bm, sn, sub, ab, col, dd, k0, k1, k2, k3, k5, Y, hC, hbm⟩ := T.cls
  have hcl : PySem.W.clsIn X.K C = some { name := nm, bases := bs, mro := .ref C :: bm, ns := N, qualname := q, hasDict := true, slotNames := sn, subclasses := sub, abstract := ab, collection := col, hasDel := false } := by unfold PySem.W.clsIn; rw [hC] <;> rfl
  obtain ⟨t1, ho⟩ := exo_at I.hok e
  obtain ⟨mA, hns, rel⟩ := exd_at I.hok ed
  have hw := within_of rel
  obtain ⟨hp, g, d, t, os⟩ := s
  obtain ⟨oD, _, _, hoD, _, _⟩ := hns.count hw
  refine PySem.W.set_plain I.kIn (ox := { cls := .ref C, dict := some dx, data := .fields #[.ref t1, .none, .none, .none, .bool false, .none] }) (od := some oD) ⟨ho, rfl, rfl, hoD⟩ T.sa ?_
  refine osaX_old Y I.kIn ho hns hw (by rw [List.length_map]; omega) hcl (show refsT tail (.ref C :: bm) = true from hbm) rfl hno (fun h' tk' k hn => ?_)
  have hd : ∃ o, h'.get? dx = some o := by
    obtain ⟨o, _, _, e', _⟩ := hn
    exact ⟨o, e'⟩
  exact h _ (I.write (t' := tk') (x := dx) (e := dx) (o := exd dx ((f, y) :: fs)) (by rw [ed]; exact True.intro) (.inl rfl) k hd (exd_ok hn (relO_put ry rel)))
/-- B.__init__(self, ..): nothing of it is told -/
theorem binit_ok {B nI initId : String} {tB : List Value} {us : List Value} {Q : Value → Shared → Prop} (Y : BaseX B nI initId tB) (T : OexB X.K C tail) (hB : tail.contains (.type B) = true) (I : Inv X pins σ H s) (e : H a = some (exo a C none)) (hl : us.length ≤ sizeLine)
    (h : ∀ s', Inv X pins σ H s' → Q .none s') : wpAny (model X.prog X.w) A (call (.builtin initId) (.ref a :: us)) Q E s := by
  obtain ⟨B', newId, initId', nm, q, N, bs, bm, sn, sub, ab, col, dd, k0, k1, k2, k3, k5, Y', hC, hbm⟩ := T.cls
  obtain ⟨t1, ho⟩ := exo_at I.hok e
  obtain ⟨hp, g, d, t, os⟩ := s
  refine wpAny_call (init_baseX Y hbm hB (I.kIn _ _ hC) ho hl fun h' t2 k hx => ?_)
  have J := I.write (t' := t) (x := a) (e := a) (o := exo a C none) (by rw [e]; exact True.intro) (.inl rfl) k ⟨_, hx⟩ (exo_ok hx)
  have eu : upd H a (exo a C none) = H := by
    funext b
    by_cases hb : b = a
    · rw [hb, upd_same, e]
    · rw [upd_ne hb]
  rw [eu] at J
  exact h _ J
end
/-- B.__init__(self, ..) -/
def tBin (K : PySem.W.Frag) (B : String) (ta : TA) : TE := fun σ H Q => ta σ H fun vs H1 => ∃ (a C : Addr) (tail : List Value) (ws : List V), vs = .ref a :: ws ∧ ws.length ≤ 1000 ∧ OexB K C tail ∧ tail.contains (.type B) = true ∧ H1 a = some (exo a C none) ∧ Q .non H1
/-- self.f = e -/
def tOsB (K : PySem.W.Frag) (f : Str) (to te : TE) : TS := fun D σ H => te σ H fun y H1 => to σ H1 fun x H2 => ∃ (a C : Addr) (tail : List Value), x = .ref a ∧ OexB K C tail ∧ PySem.W.findIn K (.ref C) f = some none ∧
  ((H2 a = some (exo a C none) ∧ ∀ dx, H2 dx = none → dx ≠ a → D.nx σ (upd (upd H2 dx (exd dx [(f, y)])) a (exo a C (some dx)))) ∨
    ∃ (dx : Addr) (fs : List (Str × V)), H2 a = some (exo a C (some dx)) ∧ H2 dx = some (exd dx fs) ∧ fs.length ≤ 900 ∧ D.nx σ (upd H2 dx (exd dx ((f, y) :: fs))))
/-- C.m(e, ..): a function of the class at C, called unbound -/
structure UMeth (K : PySem.W.Frag) (C : Addr) (m : Str) (f : Addr) : Prop where
  ga : PySem.W.specialIn K (.ref C) "__getattribute__" = some (some (.builtin "type.__getattribute__"))
  rd : PySem.W.readsIn K C (.type "type") = true
  at_ : PySem.W.findCls K (.ref C) (.type "type") m = some (.val (.ref f))
  ty : PySem.W.typeIn K (.ref f) = some (.type "function")
  kp : PySem.W.keepIn K (.ref f) = true
section
variable {X : Cx} {o e : Expr} {es : List Expr} {to te : TE} {ta : TA} {f : Str} {p p' p1 p2 pos apos : Pos} {x : Str}
theorem pe_binit {B nI initId : String} {tB : List Value} {pl : Sem Bool} (Y : BaseX B nI initId tB) (hg : Gl X x) (hm : X.mg x = none) (hv : bootBuiltins x = some (.type B)) (vV : PySem.W.findCls X.K (.type B) (.type "type") "__init__" = some (.val (.builtin initId))) (hi : PySem.W.handedIn (.builtin initId) = true) (ha : PA X (e :: es) ta)
    (hn : x ≠ "__name__" := by decide) (hd : (x == ("__debug__" : Str)) = false := by decide)
    (hc : eval (.Call (.Attribute (.Name x p1) "__init__" p2) (e :: es) [] pos) X.env = (do
      let ov ← eval (.Name x p1) X.env
      standAt p2.atName
      let (f, first) ← holding [ov] (getMethod ov "__init__" pl)
      callWith pos f first (backTo pos (starEach (e :: es) X.env)) (backToKw pos (keywordEach [] X.env))) := by rfl)
    (he : starEach (e :: es) X.env = (false, eval e X.env) :: starEach es X.env := by rfl) (hpl : (backTo pos (starEach es X.env)).any (·.1) = false := by rfl) :
    PE X (.Call (.Attribute (.Name x p1) "__init__" p2) (e :: es) [] pos) (tBin X.K B ta) := by
  refine ⟨fun pins s σ H Q I h => ?_⟩
  refine PySem.W.methodCall_KW (ld_blt I hg hm hv ?_ hn hd) hc
  obtain ⟨m, fr⟩ := I.fr
  refine PySem.W.method_type fr I.ok.mod.kin Y.ty Y.stub vV hi ?_
  show wpAny _ _ (callWith pos (Value.builtin initId) [] (backTo pos (starEach (e :: es) X.env)) []) _ _ _
  refine PyProof.Rows.callWith_method1 (thn (ha.run pos pins _ σ H _ (I.tok _) h) fun us s1 ⟨vs, H1, I1, r1, a, C, tail, ws, ev, hl, T, hB, ea, q⟩ => ?_) he hpl
  subst ev
  cases r1 with
  | @cons _ u0 _ ur ra rw' =>
    obtain rfl : u0 = Value.ref a := ra
    have hlen : ur.length ≤ sizeLine := by
      rw [← Paired.length rw', sizeLine_eq]
      omega
    exact binit_ok Y T hB I1 ea hlen fun s' J => ⟨.non, H1, J, rfl, q⟩
theorem ps_ostB (ho : PE X o to) (he : PE X e te) (hs : swapsWith e (some (.Attribute o f p')) pos.line X.env = pure false := by rfl) : PS X (.Assign [.Attribute o f p'] e pos) (tOsB X.K f to te) := by
  refine ⟨fun pins s σ H D I h => ?_⟩
  refine plainObj_wpAny_Assign_Attribute (thn (he.run pins s σ H _ I h) fun v s1 ⟨y, H1, I1, r1, q1⟩ => thn (ho.run pins s1 σ H1 _ I1 q1) fun u s2 ⟨x, H2, I2, r2, a, C, tail, ex, T, hno, q⟩ => ?_) hs
  subst ex
  obtain rfl : u = Value.ref a := r2
  rcases q with ⟨ea, q⟩ | ⟨dx, fs, ea, ed, hl, q⟩
  · exact ostB_new T I2 ea hno r1 fun dx s' n ne J => ⟨σ, _, J, q dx n ne⟩
  · exact ostB_old T I2 ea ed hl hno r1 fun s' J => ⟨σ, _, J, q⟩
def tUMe (C : Addr) (sp : Sp) (E : XK) (to : TE) (t : TA) : TE := fun σ H Q => to σ H fun x H1 => x = .ref C ∧ t σ H1 fun vs H2 => sp vs H2 Q E
theorem pe_umeth {CX : CXT} {k : Nat} {C fn : Addr} {m : Str} {fd : FuncData} {ps : List Str} {sp : Sp} {E : XK} {pl : Sem Bool} (ho : PE X o to) (U : UMeth X.K C m fn) (F : FnOk X.prog X.w X.K X.mg X.base CX k fn fd ps sp) (hr : Room k X.A) (hb : Binds X.K fd ps []) (hx : Passes CX X E) (ha : PA X (e :: es) ta)
    (hst : starEach (e :: es) X.env = (false, eval e X.env) :: starEach es X.env := by rfl) (hpl : (backTo pos (starEach es X.env)).any (·.1) = false := by rfl)
    (ht : eval (.Call (.Attribute o m apos) (e :: es) [] pos) X.env = (do
      let ov ← eval o X.env
      standAt apos.atName
      let (f, first) ← holding [ov] (getMethod ov m pl)
      callWith pos f first (backTo pos (starEach (e :: es) X.env)) (backToKw pos (keywordEach [] X.env))) := by rfl) :
    PE X (.Call (.Attribute o m apos) (e :: es) [] pos) (tUMe C sp E to ta) := by
  refine ⟨fun pins s σ H Q I h => ?_⟩
  refine PySem.W.methodCall_KW (pl := pl) (thn (ho.run pins s σ H _ I h) fun u s1 ⟨x, H1, I1, rx, ex, q⟩ => ?_) ht
  subst ex
  obtain rfl : u = Value.ref C := rx
  refine PySem.W.method_cls I1.kIn U.ga (PySem.W.cls_value I1.kIn U.rd U.at_ rfl ?_)
  have I2 : Inv X pins σ H1 { s1 with toks := s1.toks + 1 } := I1.tok _
  refine PySem.W.callWith_K (first := []) (h₀ := X.base) I.ok.mod.kin U.kp (thn (ha.run pos pins _ σ H1 _ I2 q) fun us s3 ⟨vs, H2, I3, rv, q2⟩ => ⟨I3.kIn, ?_⟩) hst hpl
  have q3 : sp (vs ++ []) H2 Q E := by rw [List.append_nil]; exact q2
  exact run_fn F hr hb (dvs := []) (ds := []) .nil hx I3 rv q3
end
end OM

namespace PySem.W
open PySem PySem.Spec PySem.Calls PyProof.Rows
theorem om_forIn_pass {M : Model} {A : Around} {β : Type} {f : Value → β → Sem (ForInStep β)} {b : β} {E : Value → Shared → Prop} {s : Shared} : ∀ {l : List Value} {Q : β → Shared → Prop},
    (∀ c ∈ l, ∀ (Q : ForInStep β → Shared → Prop), Q (.yield b) s → wpAny M A (f c b) Q E s) → Q b s → wpAny M A (forIn l b f) Q E s
  | [], Q, _, q => by
    rw [List.forIn_nil]
    exact wpAny_pure q
  | c :: l, Q, h, q => by
    rw [List.forIn_cons]
    refine wpAny_bind (h c List.mem_cons_self _ ?_)
    exact om_forIn_pass (fun c hc => h c (List.mem_cons_of_mem _ hc)) q
theorem om_forIn_any {M : Model} {A : Around} {β : Type} {f : Value → β → Sem (ForInStep β)} {b x : β} {E : Value → Shared → Prop} {s : Shared} (g : Value → Bool) : ∀ {l : List Value} {Q : β → Shared → Prop},
    (∀ c ∈ l, ∀ (Q : ForInStep β → Shared → Prop), Q (if g c = true then .done x else .yield b) s → wpAny M A (f c b) Q E s) → Q (if l.any g = true then x else b) s → wpAny M A (forIn l b f) Q E s
  | [], Q, _, q => by
    rw [List.forIn_nil]
    exact wpAny_pure q
  | c :: l, Q, h, q => by
    rw [List.forIn_cons]
    refine wpAny_bind (h c List.mem_cons_self _ ?_)
    rw [List.any_cons] at q
    cases e : g c with
    | true =>
      rw [e, Bool.true_or, if_pos rfl] at q
      rw [if_pos rfl]
      exact wpAny_pure q
    | false =>
      rw [e, Bool.false_or] at q
      rw [if_neg Bool.false_ne_true]
      exact om_forIn_any g (fun c hc => h c (List.mem_cons_of_mem _ hc)) q
theorem om_exmAny_all {K : Frag} {cls : Value} : ∀ {l : List Value} {b : Bool}, exmAny K cls l = some b → (∀ c ∈ l, exmOne K cls c = some (exmOne K cls c == some true)) ∧ b = l.any fun c => exmOne K cls c == some true
  | [], b, h => by
    have e : some false = some b := h
    cases e
    exact ⟨fun c hc => (nomatch hc), rfl⟩
  | c :: l, b, h => by
    obtain ⟨b1, d1, h1, h2, rfl⟩ := exmAny_cons h
    obtain ⟨i1, i2⟩ := om_exmAny_all h2
    refine ⟨fun x hx => ?_, ?_⟩
    · rcases List.mem_cons.mp hx with rfl | hx
      · rw [h1]
        cases b1 <;> rfl
      · exact i1 x hx
    · rw [List.any_cons, h1, ← i2]
      cases b1 <;> rfl
theorem om_exm_tup {M : Model} {K : Frag} {cs : List Value} {cls : Value} {tp e : Addr} {b : Bool} {h : Heap} {ot : Obj} {nt : Nat} (X : K.In h) (LT : Looks M h (typeOf (.ref e)) cls) (hp : h.get? tp = some ot) (hoc : ot.cls = .type "tuple") (hod : ot.data = .seq cs.toArray nt) (hx : exmAny K cls cs = some b) :
    Looks M h (excMatches (.ref e) (.ref tp)) b := by
  intro A Q E s k₀ q
  obtain ⟨hh, g, d, tk, os⟩ := s
  have k : ∀ b o, h.get? b = some o → hh.get? b = some o := k₀
  obtain ⟨oc, odd, odt, osl⟩ := ot
  dsimp only at hoc hod
  subst hoc hod
  have LT0 : Looks M h (isInstance (.ref tp) (.type "tuple")) true := ((Looks.ld hp).andThen .now).andThen (Looks.of_pure isSubtype_tuple_tuple)
  obtain ⟨hall, hb⟩ := om_exmAny_all hx
  have LT := LT.keeps k
  have LT0 := LT0.keeps k
  have hp' := k _ _ hp
  unfold excMatches
  refine wpAny_bind (LT0.at ?_)
  dsimp only
  rw [if_pos rfl]
  first
    | refine wpAny_bind (wpAny_seqItems hp' rfl ?_)
    | refine wpAny_bind (wpAny_bind (wpAny_seqItems hp' rfl (wpAny_pure ?_)))
  dsimp only [Option.getD_some, Option.getD]
  refine wpAny_bind (wpAny_pure ?_)
  refine wpAny_bind (om_forIn_pass (fun c hc Q q => ?_) ?_)
  · refine wpAny_bind (((exm_cls (M := M) X (hall c hc)).1.keeps k).at ?_)
    simp only [Bool.not_true, Bool.false_eq_true, if_false]
    exact wpAny_pure q
  · refine wpAny_bind (LT.at ?_)
    refine wpAny_bind (om_forIn_any (fun c => exmOne K cls c == some true) (x := (some true, ())) (fun c hc Q q => ?_) ?_)
    · refine wpAny_bind (((exm_cls (M := M) X (hall c hc)).2.keeps k).at ?_)
      cases e : (exmOne K cls c == some true) with
      | true =>
        rw [e, if_pos rfl] at q
        rw [if_pos rfl]
        exact wpAny_pure q
      | false =>
        rw [e, if_neg Bool.false_ne_true] at q
        rw [if_neg Bool.false_ne_true]
        exact wpAny_pure q
    · rw [← hb]
      cases b with
      | true =>
        rw [if_pos rfl]
        exact wpAny_pure q
      | false =>
        rw [if_neg Bool.false_ne_true]
        exact wpAny_pure q
end PySem.W

namespace PySem.W
open PySem PySem.Spec PySem.Calls PyProof.Rows
section
variable {prog : Program} {w : World} {A : Around} {E : Value → Shared → Prop} {s : Shared} {K : Frag} {x D : Addr} {ox : Obj}
theorem om_findObj_data {C : Addr} {od : Option Obj} {name : Str} {a g : Value} (hc : (clsIn K C).isSome = true) (ha : findIn K (.ref C) name = some (some a)) (hg : specialIn K a "__get__" = some (some g)) (ht : takesIn K a = some true) : findObj K C od name = some (.bind g a) := by
  obtain ⟨cd, hc⟩ := Option.isSome_iff_exists.mp hc
  unfold findObj
  rw [hc, Option.bind_some, ha, Option.bind_some]
  simp [hg, ht]
theorem om_classE {od : Option Obj} {Q : Option Value → Shared → Prop} (hga : findIn K (.ref D) "__getattribute__" = some (some (.builtin "BaseException.__getattribute__"))) (hgt : findIn K (.ref D) "__getattr__" = some none) (hsub : subIn K (.ref D) (.type "BaseException") = some true)
    (hdct : hasDictIn K D = true) (ha : findIn K (.ref D) "__class__" = some (some (.builtin "object.__class__")))
    (hn : specialIn K (.builtin "object.__class__") "__get__" = some (some (.builtin "getset_descriptor.__get__"))) (htk : takesIn K (.builtin "object.__class__") = some true) (hm : mroIn K D (.type "object") = some true)
    (X : K.In s.heap) (I : InstAt s.heap x ox D od) (h : Q (some (.ref D)) { s with toks := s.toks + 1 }) : wpAny (model prog w) A (getAttr? (.ref x) "__class__") Q E s := by
  have hf : findObj K D od "__class__" = some (.bind (.builtin "getset_descriptor.__get__") (.builtin "object.__class__")) := om_findObj_data (by obtain ⟨cd, hc, _⟩ := any_some hdct; rw [hc]; rfl) ha hn htk
  obtain ⟨hp, g, d, t, os⟩ := s
  have L0 := I.type (M := model prog w)
  have L1 := looks_findIn (M := model prog w) X hga
  have L2 := looks_findIn (M := model prog w) X hgt
  have L3 := looks_find (M := model prog w) X I hf
  have sub : Looks (model prog w) hp (isInstance (.ref x) (.type "BaseException")) true := L0.andThen (looks_subIn X hsub)
  have hx0 : (false && onTheHeap (Value.builtin "BaseException.__getattribute__")) = false := rfl
  have hx2 : (Value.builtin "BaseException.__getattribute__" == Value.builtin "object.__getattribute__") = false := by decide +kernel
  have hx1 : (onTheHeap (Value.ref D) && Value.builtin "BaseException.__getattribute__" == Value.builtin "object.__getattribute__") = false := by rw [hx2]; rfl
  unfold getAttr? getAttrBy? getAttrBy
  refine wpAny_bind (wpAny_mkText (wpAny_bind (wpAny_attempt (wpAny_holding (wpAny_bind (L0.at (wpAny_bind (L1.at ?_))))))))
  show wpAny _ _ (if (onTheHeap (Value.ref D) && Value.builtin "BaseException.__getattribute__" == Value.builtin "object.__getattribute__") = true then _ else _) _ _ _
  rw [hx1, if_neg Bool.false_ne_true]
  unfold getAttrByItsOwn hookBefore
  refine wpAny_bind ?_
  rw [if_pos (show onTheHeap (Value.ref D) = true from rfl)]
  refine L2.at ?_
  refine wpAny_bind (wpAny_attempt (wpAny_holding ?_))
  unfold callGetattribute
  rw [hx0, if_neg Bool.false_ne_true]
  unfold boundAndCalled
  rw [PySem.F.excAttr_ValueError.ga.bind (.ref x)]
  refine wpAny_bind (wpAny_pure ?_)
  show wpAny _ _ (call (.builtin "BaseException.__getattribute__") [.ref x, .str "__class__" t]) _ _ _
  refine wpAny_call (codeAny_call_builtin PySem.F.excAttr_ValueError.ga.plain PySem.F.entry_bexc_ga ?_)
  refine @check_slot (model prog w) _ _ ⟨hp, g, d, t + 1, os⟩ "BaseException.__getattribute__" "BaseException" "__getattribute__" (.ref x) [.str "__class__" t] [] _ (by decide +kernel) (by decide +kernel) sub (PySem.F.args_bexc_ga (.ref x) (.str "__class__" t)) ?_
  unfold Builtin.«object.__getattribute__»
  refine wpAny_bind (wpAny_of_eq (a := ((Value.ref x : Value), [Value.str "__class__" t])) (by first | rfl | (simp only [slotArgs]; rfl)) ?_)
  refine wpAny_bind (wpAny_pure (wpAny_bind (L0.at (wpAny_bind (L3.at ?_)))))
  show wpAny _ _ (holding [Value.builtin "object.__class__"] (call (.builtin "getset_descriptor.__get__") [.builtin "object.__class__", .ref x, .ref D]) >>= ret) _ _ _
  refine wpAny_bind (wpAny_holding (wpAny_call (class_get (s := ⟨hp, g, d, t + 1, os⟩) (ox := ox) (od := od) X I hm ?_)))
  refine wpAny_pure ?_
  show wpAny _ _ (handedOut (.ref D)) _ _ _
  rw [handedOut_of (v := .ref D) rfl]
  first
    | exact wpAny_pure (wpAny_pure h)
    | exact wpAny_pure h
    | exact wpAny_pure (wpAny_bind (wpAny_pure (wpAny_pure h)))
theorem om_kitx_exc {od : Option Obj} (hga : findIn K (.ref D) "__getattribute__" = some (some (.builtin "BaseException.__getattribute__"))) (hgt : findIn K (.ref D) "__getattr__" = some none) (hsub : subIn K (.ref D) (.type "BaseException") = some true) (hdct : hasDictIn K D = true) (ha : findIn K (.ref D) "__class__" = some (some (.builtin "object.__class__")))
    (hn : specialIn K (.builtin "object.__class__") "__get__" = some (some (.builtin "getset_descriptor.__get__"))) (htk : takesIn K (.builtin "object.__class__") = some true) (hm : mroIn K D (.type "object") = some true) :
    KitX K (.ref x) (.ref D) (fun h => InstAt h x ox D od) where
  ty := fun _ _ _ I => I.type
  it := fun _ _ X _ => by
    obtain ⟨cdD, hcD, _⟩ := any_some hdct
    unfold clsIn at hcD
    split at hcD
    · rename_i c' d' cd' sl' ho
      intro A' Q' E' s' k q
      unfold isType loadHead
      exact wpAny_bind (wpAny_loadPart (k _ _ (X _ _ ho)) (wpAny_pure q))
    · cases hcD
  ne := fun h tp dd its n sl X htp => by
    obtain ⟨cdD, hcD, _⟩ := any_some hdct
    refine Bool.eq_false_iff.mpr fun q => ?_
    have e : D = tp := Value.ref.inj (beq_iff_eq.mp q)
    subst e
    unfold clsIn at hcD
    split at hcD
    · rename_i c' d' cd' sl' ho
      have z := (X _ _ ho).symm.trans htp
      cases z
    · cases hcD
  ca := fun X I k => om_classE hga hgt hsub hdct ha hn htk hm X I k
end
end PySem.W

namespace OM
open PySem PySem.Spec PyProof.Rows L2
/-- the type of an exception that is tracked, or of None -/
inductive TyE (K : PySem.W.Frag) (H : Hp) : V → Value → Prop where
  | base {x : V} {t : Value} (h : TyX K H x t) : TyE K H x t
  | exc {a C : Addr} : ExcC K C → H a = some (exo a C none) → TyE K H (.ref a) (.ref C)
  | excD {a C dx : Addr} {fs : List (Str × V)} : ExcC K C → H a = some (exo a C (some dx)) → H dx = some (exd dx fs) → TyE K H (.ref a) (.ref C)
def rIsB (K : PySem.W.Frag) : List V → Hp → VK → Prop := fun xs H Q => ∃ (x c : V) (t u : Value) (b : Bool), xs = [x, c] ∧ ClsV c u ∧ TyE K H x t ∧ PySem.W.kitOne K t u = some b ∧ Q (.bl b) H
section
variable {X : Cx}
theorem exo_inst {P : Program} {w : World} {H : Hp} {h : Heap} {a C : Addr} (hok : HOk P w H h) (e : H a = some (exo a C none)) : ∃ ox, PySem.W.InstAt h a ox C none := by
  obtain ⟨t1, ho⟩ := exo_at hok e
  exact ⟨_, ho, rfl, rfl, trivial⟩
theorem exo_instD {P : Program} {w : World} {H : Hp} {h : Heap} {a C dx : Addr} {fs : List (Str × V)} (hok : HOk P w H h) (e : H a = some (exo a C (some dx))) (ed : H dx = some (exd dx fs)) : ∃ ox od, PySem.W.InstAt h a ox C (some od) ∧ ∀ f v, fs.lookup f = some v → ∃ u, RelV v u ∧ PySem.W.lookIn f od = some (some u) := by
  obtain ⟨t1, ho⟩ := exo_at hok e
  obtain ⟨mA, hns, rel⟩ := exd_at hok ed
  obtain ⟨od, hod, hl⟩ := lookIn_ns hns
  refine ⟨_, od, ⟨ho, rfl, rfl, hod⟩, fun f v e => ?_⟩
  obtain ⟨u, hu, ru⟩ := RelO.some_of (v := v) (o := mA f) (by rw [← e]; exact rel f)
  exact ⟨u, ru, by rw [hl, hu]⟩
theorem call_isB : CallR X (.builtin "isinstance") (rIsB X.K) := by
  intro pins s σ H xs us Q I r h
  obtain ⟨x, c, t, u, b, rfl, k, ty, e, q⟩ := h
  obtain ⟨u1, u2, rfl, r1, r2⟩ := vals2 r
  have e2 := k.eq r2
  subst e2
  cases ty with
  | base h0 =>
    obtain ⟨P, Z, p, hx⟩ := kit_of I r1 h0
    exact PySem.W.kia_one Z I.kIn p e hx fun tk => ⟨.bl b, H, I.tok tk, rfl, q⟩
  | @exc a C T ea =>
    obtain rfl : u1 = Value.ref a := r1
    obtain ⟨ox, J⟩ := exo_inst I.hok ea
    exact PySem.W.kia_one (PySem.W.om_kitx_exc T.hg T.hk T.hs T.hd T.ha T.hn T.ht T.hm) I.kIn J e (fun z => nomatch z) fun tk => ⟨.bl b, H, I.tok tk, rfl, q⟩
  | @excD a C dx fs T ea ed =>
    obtain rfl : u1 = Value.ref a := r1
    obtain ⟨ox, od, J, _⟩ := exo_instD I.hok ea ed
    exact PySem.W.kia_one (PySem.W.om_kitx_exc T.hg T.hk T.hs T.hd T.ha T.hn T.ht T.hm) I.kIn J e (fun z => nomatch z) fun tk => ⟨.bl b, H, I.tok tk, rfl, q⟩
/-- e.f, e an exception that is tracked -/
def tXfB (K : PySem.W.Frag) (f : Str) (te : TE) : TE := fun σ H Q => te σ H fun x H1 => ∃ (a C dx : Addr) (fs : List (Str × V)) (v : V), x = .ref a ∧ XfC K C ∧ PySem.W.findIn K (.ref C) f = some none ∧ H1 a = some (exo a C (some dx)) ∧ H1 dx = some (exd dx fs) ∧ fs.lookup f = some v ∧ Q v H1
theorem pe_xfB {e : Expr} {te : TE} {pos : Pos} {n : Str} (he : PE X e te) (hb : attributeBase e n X.env (eval e X.env) = eval e X.env := by rfl) : PE X (.Attribute e n pos) (tXfB X.K n te) := by
  refine ⟨fun pins s σ H Q I h => ?_⟩
  refine attr_of hb (thn (he.run pins s σ H _ I h) fun u s1 hh => ?_)
  obtain ⟨x, H1, I1, rx, a, C, dx, fs, v, ex, T, hno, ea, ed, l, q⟩ := hh
  subst ex
  obtain rfl : u = Value.ref a := rx
  obtain ⟨ox, od, J, hl⟩ := exo_instD I1.hok ea ed
  obtain ⟨u, ru, hu⟩ := hl n v l
  exact HandSPX.exc_get I1.kIn J T.ga T.gg T.exC (PySem.W.findObj_own T.hdC hno rfl hu) (handed_of ru) ⟨v, H1, I1.tok _, ru, q⟩
end

/-! ### making -/
structure MkB (K : PySem.W.Frag) (C fI : Addr) (tail : List Value) : Prop where
  T : OexB K C tail
  iC : PySem.W.findIn K (.ref C) "__init__" = some (some (.ref fI))
  tI : PySem.W.typeIn K (.ref fI) = some (.type "function")
section
variable {X : Cx} {CX : CXT} {k : Nat} {fI C : Addr} {fd : FuncData} {ps : List Str} {sp : Sp} {dvs : List V} {ds : List Value} {x : Str} {p pos : Pos} {e : Expr} {es : List Expr} {ta : TA} {tail : List Value}
theorem run_mkB {pins : List (Addr × Obj)} {σ : L2.St} {H : Hp} {s : Shared} {R : Value → Shared → Prop} {us : List Value} {vs : List V} {RR : Addr → Hp → Prop} (M : MkB X.K C fI tail) (F : FnOk X.prog X.w X.K X.mg X.base CX k fI fd ps sp) (hr : Room (k + 1) X.A) (hb : Binds X.K fd ps ds) (hd : Vals dvs ds)
    (hx : Passes CX X E0) (I : Inv X pins σ H s) (r : Vals vs us) (hz : vs.length ≤ 1000)
    (h : ∀ a, H a = none → sp (.ref a :: (vs ++ dvs)) (upd H a (exo a C none)) (fun v H2 => v = .non ∧ RR a H2) E0)
    (hR : ∀ s2 H2 hp2, s.heap.objs.size ≤ s.heap.objs.size + 1 → (∀ b o, s.heap.get? b = some o → hp2.get? b = some o) → Un (frs X.stack) [] (upd H (s.heap.objs.size + 1) (exo (s.heap.objs.size + 1) C none)) H2 hp2 s2.heap → HOk X.prog X.w H2 s2.heap → s2.os = s.os → AllBare s2.gens →
      Inv X pins σ H2 s2 → RR (s.heap.objs.size + 1) H2 → R (.ref (s.heap.objs.size + 1)) s2) :
    wpAny (model X.prog X.w) X.A (call (.ref C) us) R X.xe s := by
  obtain ⟨B, newId, initId, nm, q, N, bs, bm, sn, sub, ab, col, dd, k0, k1, k2, k3, k5, Y, hC, hbm⟩ := M.T.cls
  obtain ⟨hp, g, dr, tk, os⟩ := s
  have hsz : hp.objs.size ≤ hp.objs.size + 1 := Nat.le_succ _
  have hn : H (hp.objs.size + 1) = none := I.hok.fresh hsz
  have hq := h (hp.objs.size + 1) hn
  have kk : ∀ b o, hp.get? b = some o → ((hp.push (PySem.W.kdv_tup us)).push (PySem.HandSPX.excO C hp.objs.size)).get? b = some o := fun b o e => Heap.get?_push_of_some _ (Heap.get?_push_of_some _ e)
  have hget : ((hp.push (PySem.W.kdv_tup us)).push (PySem.HandSPX.excO C hp.objs.size)).get? (hp.objs.size + 1) = some (PySem.HandSPX.excO C hp.objs.size) := by heap_get
  have I2 : Inv X pins σ (upd H (hp.objs.size + 1) (exo (hp.objs.size + 1) C none)) ⟨(hp.push (PySem.W.kdv_tup us)).push (PySem.HandSPX.excO C hp.objs.size), g, dr, tk, os⟩ :=
    I.laid (t' := tk) (a := hp.objs.size + 1) (o := exo (hp.objs.size + 1) C none) (h' := (hp.push (PySem.W.kdv_tup us)).push (PySem.HandSPX.excO C hp.objs.size)) kk hsz (exo_ok hget)
  have r2 : Vals (V.ref (hp.objs.size + 1) :: (vs ++ dvs)) (Value.ref (hp.objs.size + 1) :: (us ++ ds)) := .cons rfl (r.append hd)
  have hl : (Value.ref (hp.objs.size + 1) :: us ++ ds).length = ps.length := by
    have e := r2.length
    rw [F.len _ _ _ _ hq] at e
    exact e.symm
  have hus : us.length ≤ sizeLine := by
    rw [← Paired.length r, sizeLine_eq]
    omega
  refine wpAny_call (callX Y hbm (I.kIn _ _ hC) (PySem.W.looks_findIn I.kIn M.iC) (fun self => PySem.W.bind_fn I.kIn self M.tI) hus
    (codeAny_mono (F.run _ X.stack _ _ ⟨Value.ref (hp.objs.size + 1) :: us, []⟩ (Value.ref (hp.objs.size + 1) :: (us ++ ds)) _ _ E0 (hr.make C us []) (I2.env0.make C us []) (hb _ (Value.ref (hp.objs.size + 1) :: us) I2.kIn hl) r2 hq) fun r s' hq' => ?_))
  cases r with
  | error er => exact hx pins σ _ _ er s' I2 hq'
  | ok fl =>
    cases fl with
    | ret u =>
      have hq2 := hq'
      obtain ⟨v, H2, os2, bare2, un2, hok2, rv, ev, rr⟩ := hq2
      subst ev
      obtain ⟨_, _, I3, _, _⟩ := I2.after (Q := fun _ _ => True) ⟨.non, H2, os2, bare2, un2, hok2, rv, trivial⟩
      have I3' : Inv X pins σ H2 s' := I2.call' (ch := []) os2 un2 hok2 bare2 (fun b z => absurd z (by simp))
      exact ⟨rv, hR s' H2 _ hsz kk un2 hok2 os2 bare2 I3' rr⟩
    | next => exact False.elim hq'
    | brk => exact False.elim hq'
    | cont => exact False.elim hq'
/-- C(e, ..) as a value: a new exception, tracked -/
def tMkV (C : Addr) (sp : Sp) (dvs : List V) (ta : TA) : TE := fun σ H Q => ta σ H fun vs H1 => vs.length ≤ 1000 ∧ ∀ a, H1 a = none → sp (.ref a :: (vs ++ dvs)) (upd H1 a (exo a C none)) (fun v H2 => v = .non ∧ Q (.ref a) H2) E0
theorem pe_mkV (M : MkB X.K C fI tail) (F : FnOk X.prog X.w X.K X.mg X.base CX k fI fd ps sp) (hr : Room (k + 1) X.A) (hg : Gl X x) (hm : X.mg x = some (.ref C)) (hb : Binds X.K fd ps ds) (hd : Vals dvs ds) (hx : Passes CX X E0)
    (ha : PA X (e :: es) ta) (hdb : (x == ("__debug__" : Str)) = false := by decide) (he : starEach (e :: es) X.env = (false, eval e X.env) :: starEach es X.env := by rfl) (hpl : (backTo pos (starEach es X.env)).any (·.1) = false := by rfl) :
    PE X (.Call (.Name x p) (e :: es) [] pos) (tMkV C sp dvs ta) := by
  refine ⟨fun pins s σ H Q I h => ?_⟩
  refine wpAny_Call_Name_kw (ld_glob I hg hm ?_ hdb)
  refine PySem.W.callWith_K (h₀ := X.base) I.ok.mod.kin M.T.kC (thn (ha.run pos pins s σ H _ I h) fun us s1 ⟨vs, H1, I1, r, hz, q⟩ => ⟨I1.kIn, ?_⟩) he hpl
  exact run_mkB (RR := fun a H2 => Q (.ref a) H2) M F hr hb hd hx I1 r hz q fun s2 H2 hp2 _ _ _ _ _ _ I2 rr => ⟨.ref _, H2, I2, rfl, rr⟩
theorem pe_mkV0 (M : MkB X.K C fI tail) (F : FnOk X.prog X.w X.K X.mg X.base CX k fI fd ps sp) (hr : Room (k + 1) X.A) (hg : Gl X x) (hm : X.mg x = some (.ref C)) (hb : Binds X.K fd ps ds) (hd : Vals dvs ds) (hx : Passes CX X E0)
    (hdb : (x == ("__debug__" : Str)) = false := by decide) : PE X (.Call (.Name x p) [] [] pos) (tMkV C sp dvs tNil) := by
  refine ⟨fun pins s σ H Q I h => ?_⟩
  refine wpAny_Call_Name_kw (ld_glob I hg hm ?_ hdb)
  refine PySem.W.callWith_K0 I.kIn M.T.kC ?_
  obtain ⟨hz, q⟩ := (show ([] : List V).length ≤ 1000 ∧ _ from h)
  exact run_mkB (us := []) (vs := []) (RR := fun a H2 => Q (.ref a) H2) M F hr hb hd hx I .nil hz q fun s2 H2 hp2 _ _ _ _ _ _ I2 rr => ⟨.ref _, H2, I2, rfl, rr⟩
/-- a made exception without a dict is let go -/
theorem mk_endN {pins : List (Addr × Obj)} {σ : L2.St} {H1 H2 : Hp} {hp hp2 h2 : Heap} {g1 g2 : Array GenState} {d1 d2 : Drawn} {t1 t2 : Nat} {os1 os2 : OsState} {a C : Addr} (I1 : Inv X pins σ H1 ⟨hp, g1, d1, t1, os1⟩)
    (ha : hp.objs.size ≤ a) (k : ∀ b o, hp.get? b = some o → hp2.get? b = some o) (un : Un (frs X.stack) [] (upd H1 a (exo a C none)) H2 hp2 h2) (hok : HOk X.prog X.w H2 h2) (ho : os2 = os1) (hb : AllBare g2)
    (ea : H2 a = some (exo a C none)) :
    ∃ (t0 : Addr) (G : Heap), Inv X pins σ (del H2 a) ⟨G, g2, d2, t2, os2⟩ ∧ (∀ b o, G.get? b = some o → h2.get? b = some o) ∧ G.get? a = none ∧
      h2.get? a = some ({ cls := .ref C, dict := none, data := .fields #[.ref t0, .none, .none, .none, .bool false, .none] } : Obj) ∧ (del H2 a) a = none := by
  obtain ⟨t0, hoe⟩ := exo_at hok ea
  have hn : H1 a = none := I1.hok.fresh ha
  obtain ⟨G, g1', g2'⟩ := restrict h2 fun b => decide (b ≠ a)
  have gk : ∀ b, b ≠ a → G.get? b = h2.get? b := fun b hb => g1' b (decide_eq_true hb)
  have ge : G.get? a = none := g2' a (by simp)
  have nha : ∀ {b : Addr} {o : Obj}, hp.get? b = some o → b ≠ a := fun {b o} z => Nat.ne_of_lt (Nat.lt_of_lt_of_le (Heap.lt_size z) ha)
  have up : ∀ {b : Addr}, b ≠ a → H1 b = none → upd H1 a (exo a C none) b = none := fun {b} hb n => by rw [upd_ne hb]; exact n
  have U : Un (frs X.stack) [] H1 (del H2 a) hp G := {
    keep := fun b o z n hf hx => by
      rw [gk b (nha z)]
      exact un.keep b o (k b o z) (up (nha z) n) hf hx
    slot := fun b o z n hf hx => by
      rw [gk b (nha z)]
      exact un.slot b o (k b o z) (up (nha z) n) hf hx
    free := fun b o z n hx => by
      rw [del_ne (nha z)]
      exact un.free b o (k b o z) (up (nha z) n) hx
    there := fun b o z hx => by
      rw [gk b (nha z)]
      exact un.there b o (k b o z) hx
    tups := fun b xs z => by
      rw [del_ne (ne_of_none z hn)]
      exact un.tups b xs (by rw [upd_ne (ne_of_none z hn)]; exact z)
    frzs := fun b o v z => by
      rw [del_ne (ne_of_none z hn)]
      exact un.frzs b o v (by rw [upd_ne (ne_of_none z hn)]; exact z)
    tbls := fun b ps z => by
      rw [del_ne (ne_of_none z hn)]
      exact un.tbls b ps (by rw [upd_ne (ne_of_none z hn)]; exact z) }
  have hok3 : HOk X.prog X.w (del H2 a) G := fun b o z => by
    have hba : b ≠ a := fun e => by
      rw [e, del_same] at z
      cases z
    rw [del_ne hba] at z
    have noa : ∀ {c : Addr}, H2 c = some (.own b) → c ≠ a := fun {c} hc => at_ne ea hc exo_own
    exact (hok b o z).stay (fun c v hc y => by
        have hca : c ≠ a := by
          rcases hc with hc | hc
          · rw [hc]
            exact hba
          · exact noa hc
        rw [gk c hca]
        exact y)
      (fun c hc => by rw [del_ne (noa hc)]; exact hc) (fun c xs hc => by rw [del_ne (at_ne ea hc exo_tup)]; exact hc)
  have J : Inv X pins σ (del H2 a) ⟨G, g2, d2, t2, os2⟩ := I1.call' (ch := []) ho U hok3 hb (fun b z => absurd z (by simp))
  refine ⟨t0, G, J, fun b o z => ?_, ge, hoe, del_same⟩
  by_cases hba : b = a
  · rw [hba, ge] at z
    cases z
  · exact (gk b hba).symm.trans z
/-- raise C(e, ..) -/
def MkR (C : Addr) (H1 : Hp) (Q : XK) (a : Addr) (H2 : Hp) : Prop := (H2 a = some (exo a C none) ∧ Q (.ref C) none (del H2 a)) ∨
  ∃ (d : Addr) (fs : List (Str × V)), H2 a = some (exo a C (some d)) ∧ H2 d = some (exd d fs) ∧ H1 d = none ∧ Q (.ref C) (some d) (upd (del H2 a) d (.xd fs))
def tMkR (C : Addr) (sp : Sp) (dvs : List V) (ta : TA) : L2.St → Hp → XK → Prop := fun σ H Q => ta σ H fun vs H1 => vs.length ≤ 1000 ∧ ∀ a, H1 a = none → sp (.ref a :: (vs ++ dvs)) (upd H1 a (exo a C none)) (fun v H2 => v = .non ∧ MkR C H1 Q a H2) E0
theorem pmk_B (M : MkB X.K C fI tail) (F : FnOk X.prog X.w X.K X.mg X.base CX k fI fd ps sp) (hr : Room (k + 1) X.A) (hg : Gl X x) (hm : X.mg x = some (.ref C)) (hb : Binds X.K fd ps ds) (hd : Vals dvs ds) (hx : Passes CX X E0)
    (ha : PA X (e :: es) ta) (hdb : (x == ("__debug__" : Str)) = false := by decide) (he : starEach (e :: es) X.env = (false, eval e X.env) :: starEach es X.env := by rfl) (hpl : (backTo pos (starEach es X.env)).any (·.1) = false := by rfl) :
    PMk X (.Call (.Name x p) (e :: es) [] pos) (tMkR C sp dvs ta) := by
  intro pins s σ H Q I h
  refine wpAny_Call_Name_kw (ld_glob I hg hm ?_ hdb)
  refine PySem.W.callWith_K (h₀ := X.base) I.ok.mod.kin M.T.kC (thn (ha.run pos pins s σ H _ I h) fun us s1 ⟨vs, H1, I1, r, hz, q⟩ => ⟨I1.kIn, ?_⟩) he hpl
  refine run_mkB (RR := MkR C H1 Q) M F hr hb hd hx I1 r hz q fun s2 H2 hp2 hsz kk un2 hok2 os2 bare2 _ rr => ?_
  obtain ⟨hp, g, dr, tk, os⟩ := s1
  obtain ⟨h2, g2, d2, t2, os'⟩ := s2
  rcases rr with ⟨ea, q2⟩ | ⟨d, fs, ea, ed, hd1, q2⟩
  · obtain ⟨t0, G, J, kG, ge, hoe, na⟩ := mk_endN (d2 := d2) (t2 := t2) I1 hsz kk un2 hok2 os2 bare2 ea
    exact ⟨_, _, _, ⟨G, g2, d2, t2, os'⟩, _, .ref C, none, rfl, J, kG, ge, hoe, ⟨rfl, rfl⟩, rfl, rfl, na, rfl, bare2, raises_own M.T.exC M.T.tyC, q2⟩
  · exact mk_end (raises_own M.T.exC M.T.tyC) I1 hsz kk un2 hok2 os2 bare2 ea ed hd1 q2
end
end OM

namespace OM
open PySem PySem.Spec PyProof.Rows L2
theorem flying_more {base h h' : Heap} {l : List Env} {e : Addr} {Z : Obj → Prop} (x : HandSPX.FlyingZ base l e Z h) (k : ∀ b o, h.get? b = some o → h'.get? b = some o) : HandSPX.FlyingZ base l e Z h' := by
  obtain ⟨k1, k2, k3, oe, vs, T, oT, ts, he, hz, hd, h1, hn, hne, hT, hdT, h3⟩ := x
  exact ⟨fun b o q => k b o (k1 b o q), k2, Heap.FunFrames.of_keeps (fun b o e _ => ⟨o, k b o e, rfl⟩) k3, oe, vs, T, oT, ts, k _ _ he, hz, hd, h1, hn, hne, k _ _ hT, hdT, h3⟩
/-- the test of a clause: ok cls b: it answers b for an exception of the class cls -/
structure TstR (X : Cx) (t : Expr) (ok : Value → Bool → Prop) : Prop where
  run : ∀ (a : Addr) (oe : Obj) (pn : List (Addr × Obj)) (σ : L2.St) (H : Hp) (s : Shared) (cls : Value) (b : Bool) (Q : Bool → Shared → Prop) (E E' : Value → Shared → Prop), Inv (X.suite a ((a, oe) :: pn)) [] σ H s → s.heap.get? a = some oe → oe.cls = cls → ok cls b →
    (∀ h', (∀ q o, s.heap.get? q = some o → h'.get? q = some o) → Q b { s with heap := h' }) →
    wpAny (model X.prog X.w) (X.A.mark (some (.ref a))) (eval t X.env) (fun c s₁ => wpAny (model X.prog X.w) (X.A.mark (some (.ref a))) (excMatches (.ref a) c) Q E' s₁) E s
section
variable {X : Cx} {x : Str} {c : Value} {np tpos : Pos} {tk : Nat}
theorem ld_names {a : Addr} {oe : Obj} {pn pins : List (Addr × Obj)} {σ : L2.St} {H : Hp} {s : Shared} {Q : Value → Shared → Prop} {E : Value → Shared → Prop} (hc : Names X x c) (S : Inv (X.suite a ((a, oe) :: pn)) pins σ H s) (q : Q c s) :
    wpAny (model X.prog X.w) (X.A.mark (some (.ref a))) (eval (.Name x np) X.env) Q E s := by
  obtain ⟨hg, hdbg, hm | ⟨hm, hv, hnn⟩⟩ := hc
  · exact ld_glob (X := X.suite a ((a, oe) :: pn)) S hg hm q hdbg
  · exact ld_blt (X := X.suite a ((a, oe) :: pn)) S hg hm hv q hnn hdbg
theorem tst_one (hc : Names X x c) : TstR X (.Name x np) (fun cls b => PySem.W.exmOne X.K cls c = some b) := by
  refine ⟨fun a oe pn σ H s cls b Q E E' S ha hcls hok q => ?_⟩
  refine ld_names hc S ?_
  have LT : PySem.W.Looks (model X.prog X.w) s.heap (typeOf (.ref a)) cls := fun A Q E s k q => wpAny_typeOf_ref (k _ _ ha) (by rw [hcls]; exact q)
  exact (PySem.W.exm_one (M := model X.prog X.w) S.kIn LT hok).here (q s.heap fun _ _ z => z)
/-- names of classes, one behind the other -/
inductive NamesT (X : Cx) : List Expr → List Value → Prop
  | nil : NamesT X [] []
  | cons {x : Str} {c : Value} {np : Pos} {es : List Expr} {cs : List Value} (hc : Names X x c) (r : NamesT X es cs) (he : starEach (.Name x np :: es) X.env = (false, eval (.Name x np) X.env) :: starEach es X.env := by rfl) : NamesT X (.Name x np :: es) (c :: cs)
theorem items_names {a : Addr} {oe : Obj} {pn : List (Addr × Obj)} {σ : L2.St} {H : Hp} {s : Shared} {E : Value → Shared → Prop} {pos : Pos} (S : Inv (X.suite a ((a, oe) :: pn)) [] σ H s) : ∀ {es : List Expr} {cs : List Value} {Q : List Value → Shared → Prop}, NamesT X es cs → Q cs s →
    wpAny (model X.prog X.w) (X.A.mark (some (.ref a))) (spliced (backTo pos (starEach es X.env))) Q E s
  | _, _, _, .nil, q => wpAny_items_nil q
  | _, _, Q, .cons hc r he, q => wpAny_items_cons (ld_names hc S (items_names (Q := fun vs s => Q (_ :: vs) s) S r q)) he
theorem tst_tup {es : List Expr} {cs : List Value} (hc : NamesT X es cs) (hz : cs.length ≤ sizeLine) : TstR X (.Tuple es tk tpos) (fun cls b => PySem.W.exmAny X.K cls cs = some b) := by
  refine ⟨fun a oe pn σ H s cls b Q E E' S ha hcls hok q => ?_⟩
  refine wpAny_Tuple (items_names S hc ⟨hz, ?_⟩)
  have kp : ∀ q o, s.heap.get? q = some o → (s.heap.push { cls := .type "tuple", data := .seq cs.toArray }).get? q = some o := fun _ _ z => Heap.get?_push_of_some _ z
  have LT : PySem.W.Looks (model X.prog X.w) (s.heap.push { cls := .type "tuple", data := .seq cs.toArray }) (typeOf (.ref a)) cls := fun A Q E s k q => wpAny_typeOf_ref (k _ _ (kp _ _ ha)) (by rw [hcls]; exact q)
  exact (PySem.W.om_exm_tup (M := model X.prog X.w) (S.kIn.keeps kp) LT (Heap.get?_push_size s.heap rfl) rfl rfl hok).here (q _ kp)
end
/-- a clause: its test, the slot of its name, its suite -/
abbrev Cl := (Value → Bool → Prop) × Option Nat × (Addr → Value → Option Addr → TS)
def offD (D : Ends) (i : Nat) : Ends := { nx := fun σ' H' => D.nx (σ'.set i none) H', rt := D.rt, bk := fun σ' H' => D.bk (σ'.set i none) H', ct := fun σ' H' => D.ct (σ'.set i none) H' }
def wTry (Wout : WX) (D : Ends) : List Cl → WX
  | [] => Wout
  | (ok, none, ts) :: r => fun cls d σ H => ∃ b, ok cls b ∧ (b = true → ∀ a, H a = none → ts a cls d D σ H) ∧ (b = false → wTry Wout D r cls d σ H)
  | (ok, some i, ts) :: r => fun cls d σ H => ∃ b, ok cls b ∧ (b = true → ∀ a, H a = none → ts a cls d (offD D i) (σ.set i (some (.ref a))) H) ∧ (b = false → wTry Wout D r cls d σ H)
inductive ClsOk (X : Cx) : List ExceptHandler → List Cl → Prop
  | nil : ClsOk X [] []
  | cons {t : Expr} {ok : Value → Bool → Prop} {ts : Addr → Value → Option Addr → TS} {b₀ : Stmt} {suite : List Stmt} {pos' : Pos} {hds : List ExceptHandler} {l : List Cl} (ht : TstR X t ok)
      (hsu : ∀ (a : Addr) (oe : Obj) (cls : Value) (d : Option Addr) (pn : List (Addr × Obj)), Zc cls d oe → (∃ vs, oe.data = .fields vs) → PSs (X.suite a ((a, oe) :: pn)) (b₀ :: suite) (ts a cls d)) (r : ClsOk X hds l) :
      ClsOk X (.ExceptHandler (some t) none (b₀ :: suite) pos' :: hds) ((ok, none, ts) :: l)
  | as {n : Str} {i : Nat} {t : Expr} {ok : Value → Bool → Prop} {ts : Addr → Value → Option Addr → TS} {b₀ : Stmt} {suite : List Stmt} {pos' : Pos} {hds : List ExceptHandler} {l : List Cl} (hN : X.N.Nodup) (hi : X.N[i]? = some n) (hln : X.env.kindOf n = some .local) (ht : TstR X t ok)
      (hsu : ∀ (a : Addr) (oe : Obj) (cls : Value) (d : Option Addr) (pn : List (Addr × Obj)), Zc cls d oe → (∃ vs, oe.data = .fields vs) → PSs (X.suite a ((a, oe) :: pn)) (b₀ :: suite) (ts a cls d)) (r : ClsOk X hds l) :
      ClsOk X (.ExceptHandler (some t) (some n) (b₀ :: suite) pos' :: hds) ((ok, some i, ts) :: l)
section
variable {X : Cx} {body : List Stmt} {h₀ : ExceptHandler} {hds : List ExceptHandler} {l : List Cl} {pos : Pos} {tb : WX → TS} {Wout : WX}
theorem ps_try_gen (hs : X.stack = X.env :: X.outer) (hf : X.env.frame = some X.env.locals) (tk : Takes X Wout)
    (hb : ∀ (W : WX) (pn : List (Addr × Obj)) (xe : Value → Shared → Prop), Takes (X.tr pn xe) W → PassesOwn (model X.prog X.w) X.A X.env xe → PSs (X.tr pn xe) body (tb W))
    (hh : ClsOk X (h₀ :: hds) l) : PS X (.Try body (h₀ :: hds) [] [] pos) (fun D σ H => tb (wTry Wout D l) D σ H) := by
  refine ⟨fun pins s σ H D I h => ?_⟩
  have ok := I.ok
  have hfr : X.A.frames = some (X.env :: X.outer) := by rw [ok.frames, hs]
  refine wpAny_Try_except ?_
  refine wpAny_mono ((hb (wTry Wout D l) (X.pn ++ pins) (fun e s₁ => wpAny (model X.prog X.w) X.A (noteFrame e X.env) (fun _ s₂ => wpAny (model X.prog X.w) X.A (setFlight e none) (fun _ s₃ =>
    wpAny (model X.prog X.w) X.A (handleBy e X.env (h₀ :: hds)) (SP X pins D) X.xe s₃) X.xe s₂) X.xe s₁) (fun u s' xx => ?_) PassesOwn.looking).run [] s σ H D (I.toTry _) h) (fun f s1 hsp => ?_) (fun e s1 he => he)
  · -- the catch
    obtain ⟨a, B, sI, pins', σ', H', cls, d, rfl, J', nb, up, sky, na, os, ag, w⟩ := xx
    have J : Inv X pins σ' H' sI := J'.ofTry ok
    have sky' : Sky B (X.env :: X.outer) a (Zc cls d) X.env.locals s'.heap := by rw [← hs]; exact sky
    show wpAny (model X.prog X.w) X.A (noteFrame (.ref a) X.env) _ _ _
    refine Sky.land Zc.steady hfr hf sky' fun h3 fl3 up3 => ?_
    have notFr : ∀ {h : Heap} {o : Obj} {vs : Array Value}, h.FunFrames B (X.env :: X.outer) → h.get? a = some o → o.data = .fields vs → a ∉ frs (X.env :: X.outer) := fun {h o vs} ff e dd hm => by
      obtain ⟨_, o', e', hnf⟩ := ff.mem hm
      rw [e] at e'; cases e'
      exact hnf _ dd
    have nfr : a ∉ frs (X.env :: X.outer) := by
      obtain ⟨oe3, vs3, he3, hz3, hd3⟩ := fl3.there
      exact notFr fl3.2.2.1 he3 hd3
    have nL : a ≠ X.env.locals := fun z => nfr (List.mem_filterMap.mpr ⟨X.env, List.mem_cons_self, by rw [hf, z]⟩)
    have nF : a ∉ X.fs := fun hm => by
      obtain ⟨e, he, q⟩ := List.mem_filterMap.mp hm
      exact nfr (List.mem_filterMap.mpr ⟨e, List.mem_cons_of_mem _ he, q⟩)
    have go : ∀ {hds' : List ExceptHandler} {l' : List Cl}, ClsOk X hds' l' → ∀ h5, HandSPX.FlyingZ B (X.env :: X.outer) a (Zc cls d) h5 → s'.heap.UpToSlots h5 → wTry Wout D l' cls d σ' H' →
        wpAny (model X.prog X.w) X.A (handleBy (.ref a) X.env hds') (SP X pins D) X.xe { s' with heap := h5 } := by
      intro hds' l' hk
      induction hk with
      | nil =>
        intro h3 fl3 up3 w
        refine wpAny_handleBy_nil ?_
        obtain ⟨k1, k2, k3, oe, vs, T, oT, ts', he, hz, hd, h1, hr⟩ := id fl3
        unfold PySem.passOn
        refine wpAny_bind (wpAny_field he hd h1 ?_)
        rw [if_neg (show ¬ ((Value.ref T == Value.none) = true) from by simp)]
        have fin : wpAny (model X.prog X.w) X.A (setFlight (.ref a) X.env.frame) (fun _ s4 => wpAny (model X.prog X.w) X.A (throw (.ref a) : Sem Flow) (SP X pins D) X.xe s4) X.xe { s' with heap := h3 } := by
          rw [hf]
          refine HandSPX.setFlight_upZ fl3 fun h4 hh4 up4 => wpAny_throw (tk _ _ ?_)
          exact ⟨a, B, sI, pins, σ', H', cls, d, rfl, J, nb, (up.trans up3).trans up4, .inr (.inr (by rw [hs]; exact hh4)), na, os, ag, w⟩
        first
          | exact wpAny_bind (wpAny_pure (wpAny_bind fin))
          | exact wpAny_bind fin
      | @cons t okp ts b₀ suite pos' hds2 l2 ht hsu r ih =>
        intro h3 fl3 up3 w
        obtain ⟨b, hb1, hyes, hno⟩ := w
        have J3 : Inv X pins σ' H' { s' with heap := h3 } := J.landed nb fl3.1 (up.trans up3) os ag
        obtain ⟨oe3, vs3, he3, hz3, hd3⟩ := fl3.there
        have S3 := J3.suite he3 hd3 na nL nF
        refine wpAny_handleBy_cons (codeAny_handlers_test ?_) (by intro q; cases q)
        refine ht.run a oe3 (X.pn ++ pins) σ' H' _ cls b _ _ _ S3 he3 hz3.1 hb1 (fun h6 k6 => ?_)
        have fl6 := flying_more fl3 k6
        have up6 : s'.heap.UpToSlots h6 := up3.trans (Heap.UpToSlots.of_keeps k6)
        cases b with
        | true =>
          refine codeAny_handlers_suite ?_
          refine HandSPX.lands_againZ fl6 fun h4 fl4 up4 => ?_
          have J4 : Inv X pins σ' H' { s' with heap := h4 } := J.landed nb fl4.1 ((up.trans up6).trans up4) os ag
          obtain ⟨oe4, vs4, he4, hz4, hd4⟩ := fl4.there
          have S4 := J4.suite he4 hd4 na nL nF
          refine wpAny_mono ((hsu a oe4 cls d (X.pn ++ pins) hz4 ⟨_, hd4⟩).run [] _ _ H' _ S4 (hyes rfl a na)) (fun f s6 hsp => ?_) (fun _ _ z => False.elim z)
          cases f with
          | next =>
            obtain ⟨σ6, H6, S6, q6⟩ := hsp
            exact ⟨_, _, S6.unsuite ok, q6⟩
          | brk =>
            obtain ⟨σ6, H6, S6, q6⟩ := hsp
            exact ⟨_, _, S6.unsuite ok, q6⟩
          | cont =>
            obtain ⟨σ6, H6, S6, q6⟩ := hsp
            exact ⟨_, _, S6.unsuite ok, q6⟩
          | ret u =>
            obtain ⟨v6, σ6, H6, S6, r6, q6⟩ := hsp
            exact ⟨_, _, _, S6.unsuite ok, r6, q6⟩
        | false =>
          show wpAny _ X.A (handleBy (.ref a) X.env hds2) _ _ _
          exact ih h6 fl6 up6 (hno rfl)
      | @as n i t okp ts b₀ suite pos' hds2 l2 hN hi hln ht hsu r ih =>
        intro h3 fl3 up3 w
        obtain ⟨b, hb1, hyes, hno⟩ := w
        have J3 : Inv X pins σ' H' { s' with heap := h3 } := J.landed nb fl3.1 (up.trans up3) os ag
        obtain ⟨oe3, vs3, he3, hz3, hd3⟩ := fl3.there
        have S3 := J3.suite he3 hd3 na nL nF
        refine wpAny_handleBy_cons (codeAny_handlers_test ?_) (by intro q; cases q)
        refine ht.run a oe3 (X.pn ++ pins) σ' H' _ cls b _ _ _ S3 he3 hz3.1 hb1 (fun h6 k6 => ?_)
        have fl6 := flying_more fl3 k6
        have up6 : s'.heap.UpToSlots h6 := up3.trans (Heap.UpToSlots.of_keeps k6)
        cases b with
        | true =>
          have hloc : Loc X.env.scope n := .inl hln
          refine codeAny_handlers_suite_as ?_
          refine HandSPX.lands_againZ fl6 fun h4 fl4 up4 => ?_
          have J4 : Inv X pins σ' H' { s' with heap := h4 } := J.landed nb fl4.1 ((up.trans up6).trans up4) os ag
          obtain ⟨oe4, vs4, he4, hz4, hd4⟩ := fl4.there
          have S4 := J4.suite he4 hd4 na nL nF
          refine store_ok (X := X.suite a ((a, oe4) :: (X.pn ++ pins))) (v := .ref a) S4 hN hi hloc rfl (fun s5 S5 => ?_) (.inr hln)
          refine wpAny_mono ((hsu a oe4 cls d (X.pn ++ pins) hz4 ⟨_, hd4⟩).run [] s5 _ H' _ S5 (hyes rfl a na)) (fun f s6 hsp => ?_) (fun _ _ z => False.elim z)
          have end_ : ∀ {σ6 : L2.St} {H6 : Hp} {Q : Shared → Prop}, Inv (X.suite a ((a, oe4) :: (X.pn ++ pins))) [] σ6 H6 s6 → (∀ s7, Inv X pins (σ6.set i none) H6 s7 → Q s7) →
              wpAny (model X.prog X.w) X.A (do bindName X.env n .none; unbindBehindTheSuite X.env n pos') (fun _ s7 => Q s7) X.xe s6 := fun {σ6 H6 Q} S6 hq => gone_ok (S6.unsuite ok) hN hi hln hq
          cases f with
          | next =>
            obtain ⟨σ6, H6, S6, q6⟩ := hsp
            exact end_ S6 fun s7 J7 => ⟨_, _, J7, q6⟩
          | brk =>
            obtain ⟨σ6, H6, S6, q6⟩ := hsp
            exact end_ S6 fun s7 J7 => ⟨_, _, J7, q6⟩
          | cont =>
            obtain ⟨σ6, H6, S6, q6⟩ := hsp
            exact end_ S6 fun s7 J7 => ⟨_, _, J7, q6⟩
          | ret u =>
            obtain ⟨v6, σ6, H6, S6, r6, q6⟩ := hsp
            exact end_ S6 fun s7 J7 => ⟨_, _, _, J7, r6, q6⟩
        | false =>
          show wpAny _ X.A (handleBy (.ref a) X.env hds2) _ _ _
          exact ih h6 fl6 up6 (hno rfl)
    exact go hh h3 fl3 up3 w
  · cases f with
    | next =>
      obtain ⟨σ', H', J', q⟩ := hsp
      exact wpAny_execs_nil ⟨σ', H', J'.ofTry ok, q⟩
    | brk =>
      obtain ⟨σ', H', J', q⟩ := hsp
      exact ⟨σ', H', J'.ofTry ok, q⟩
    | cont =>
      obtain ⟨σ', H', J', q⟩ := hsp
      exact ⟨σ', H', J'.ofTry ok, q⟩
    | ret u =>
      obtain ⟨v, σ', H', J', r, q⟩ := hsp
      exact ⟨v, σ', H', J'.ofTry ok, r, q⟩
end
end OM

namespace OM
open PySem PySem.Spec PyProof.Rows L2
abbrev sCop : Stmt := top 13
/-- a key as a datum -/
def kD : Key → PyData
  | .inl i => .int i
  | .inr x => .str x
/-- values that are no objects -/
inductive At : V → PyData → Prop where
  | non : At .non .none
  | bl (b : Bool) : At (.bl b) (.bool b)
  | int (i : Int) : At (.int i) (.int i)
  | str (x : Str) : At (.str x) (.str x)
mutual
/-- v stands for the datum d, by objects of S alone -/
inductive Dt (S : Addr → Prop) (H : Hp) : V → PyData → Prop where
  | at {v : V} {d : PyData} (h : At v d) : Dt S H v d
  | lst {a : Addr} {xs : List V} {ds : List PyData} (s : S a) (e : H a = some (.lst xs)) (hl : xs.length ≤ 1000) (h : DtAll S H xs ds) : Dt S H (.ref a) (.list ds)
  | tup {a : Addr} {xs : List V} {ds : List PyData} (s : S a) (e : H a = some (.tup xs)) (hl : xs.length ≤ 1000) (h : DtAll S H xs ds) : Dt S H (.ref a) (.tuple ds)
  | dic0 {a : Addr} (s : S a) (e : H a = some (.dK [])) : Dt S H (.ref a) (.dict [])
  | dic1 {a : Addr} {k : Key} {v : V} {d : PyData} (s : S a) (e : H a = some (.dK [(k, v)])) (h : At v d) : Dt S H (.ref a) (.dict [(kD k, d)])
inductive DtAll (S : Addr → Prop) (H : Hp) : List V → List PyData → Prop where
  | nil : DtAll S H [] []
  | cons {v : V} {d : PyData} {vs : List V} {ds : List PyData} (h : Dt S H v d) (r : DtAll S H vs ds) : DtAll S H (v :: vs) (d :: ds)
end
section
variable {S S' : Addr → Prop} {H H' : Hp}
mutual
theorem Dt.mv (hS : ∀ a, S a → S' a) (hH : ∀ a o, S a → H a = some o → H' a = some o) : ∀ {v : V} {d : PyData}, Dt S H v d → Dt S' H' v d
  | _, _, .at h => .at h
  | _, _, .lst s e hl h => .lst (hS _ s) (hH _ _ s e) hl (DtAll.mv hS hH h)
  | _, _, .tup s e hl h => .tup (hS _ s) (hH _ _ s e) hl (DtAll.mv hS hH h)
  | _, _, .dic0 s e => .dic0 (hS _ s) (hH _ _ s e)
  | _, _, .dic1 s e h => .dic1 (hS _ s) (hH _ _ s e) h
theorem DtAll.mv (hS : ∀ a, S a → S' a) (hH : ∀ a o, S a → H a = some o → H' a = some o) : ∀ {vs : List V} {ds : List PyData}, DtAll S H vs ds → DtAll S' H' vs ds
  | _, _, .nil => .nil
  | _, _, .cons h r => .cons (Dt.mv hS hH h) (DtAll.mv hS hH r)
end
mutual
theorem Dt.strong (hS : ∀ a o, S a → H a = some o → S' a ∧ H' a = some o) : ∀ {v : V} {d : PyData}, Dt S H v d → Dt S' H' v d
  | _, _, .at h => .at h
  | _, _, .lst s e hl h => .lst (hS _ _ s e).1 (hS _ _ s e).2 hl (DtAll.strong hS h)
  | _, _, .tup s e hl h => .tup (hS _ _ s e).1 (hS _ _ s e).2 hl (DtAll.strong hS h)
  | _, _, .dic0 s e => .dic0 (hS _ _ s e).1 (hS _ _ s e).2
  | _, _, .dic1 s e h => .dic1 (hS _ _ s e).1 (hS _ _ s e).2 h
theorem DtAll.strong (hS : ∀ a o, S a → H a = some o → S' a ∧ H' a = some o) : ∀ {vs : List V} {ds : List PyData}, DtAll S H vs ds → DtAll S' H' vs ds
  | _, _, .nil => .nil
  | _, _, .cons h r => .cons (Dt.strong hS h) (DtAll.strong hS r)
end
theorem DtAll.snoc : ∀ {vs : List V} {ds : List PyData} {v : V} {d : PyData}, DtAll S H vs ds → Dt S H v d → DtAll S H (vs ++ [v]) (ds ++ [d])
  | _, _, _, _, .nil, h => .cons h .nil
  | _, _, _, _, .cons a r, h => .cons a (DtAll.snoc r h)
theorem DtAll.length : ∀ {vs : List V} {ds : List PyData}, DtAll S H vs ds → vs.length = ds.length
  | _, _, .nil => rfl
  | _, _, .cons _ r => congrArg (· + 1) (DtAll.length r)
theorem DtAll.get : ∀ {vs : List V} {ds : List PyData} {i : Nat} {v : V}, DtAll S H vs ds → vs[i]? = some v → ∃ d, ds[i]? = some d ∧ Dt S H v d
  | _, _, _, _, .nil, e => by simp at e
  | _, _, 0, _, .cons h _, e => by
    simp at e
    subst e
    exact ⟨_, rfl, h⟩
  | _, _, i + 1, _, .cons _ r, e => by
    obtain ⟨d, e2, h⟩ := DtAll.get (i := i) r (by simpa using e)
    exact ⟨d, by simpa using e2, h⟩
theorem depth_get : ∀ {ds : List PyData} {i : Nat} {d : PyData}, ds[i]? = some d → d.depth ≤ PyData.depthAll ds
  | [], _, _, e => by simp at e
  | x :: r, 0, d, e => by
    simp at e
    subst e
    unfold PyData.depthAll
    omega
  | x :: r, i + 1, d, e => by
    have q := depth_get (ds := r) (i := i) (d := d) (by simpa using e)
    unfold PyData.depthAll
    omega
/-- the type that isinstance sees -/
theorem At.ty {K : PySem.W.Frag} {v : V} {d : PyData} (h : At v d) : ∃ n, (n = "NoneType" ∨ n = "bool" ∨ n = "int" ∨ n = "str") ∧ TyX K H v (.type n) := by
  cases h with
  | non => exact ⟨_, .inl rfl, .base .non⟩
  | bl b => exact ⟨_, .inr (.inl rfl), .base (.bl b)⟩
  | int i => exact ⟨_, .inr (.inr (.inl rfl)), .base (.int i)⟩
  | str x => exact ⟨_, .inr (.inr (.inr rfl)), .base (.str x)⟩
end
/-- what _copied answers: the same datum, of objects that were not there -/
def spCop : Nat → Sp
  | 0 => fun _ _ _ _ => False
  | n + 1 => fun vs H Q _ => ∃ (S : Addr → Prop) (v : V) (d : PyData), vs = [v] ∧ Dt S H v d ∧ d.depth ≤ n ∧ ∀ H' v', Same H H' → Dt (fun a => H a = none) H' v' d → Q v' H'
structure TxtC (mg : Str → Option Value) : Prop where
  isi : mg "isinstance" = none
  lst : mg "list" = none
  tup : mg "tuple" = none
  dct : mg "dict" = none
/-- over the keys of a dict that is held -/
theorem dc_keys {d : Addr} {o : Obj} {kws : List (Key × V)} {g : TG} {tt : TT} {tk tv : TE} {vs : List Nat} {σ : L2.St} {H1 : Hp} {D : Addr} {Qd : Hp → Prop} (Pv : Nat → Hp → Prop) (h0 : Pv 0 (upd H1 D (.dK []))) (hl : ∀ i H, Pv i H → H d = some (.frz o (.dK kws)))
    (hs : ∀ i k v H, kws[i]? = some (k, v) → Pv i H → g (kV k) (wipe σ vs) H fun σ2 H2 => wipe σ2 vs = wipe σ vs ∧ tt σ2 H2 fun b H3 =>
      if b = true then tk σ2 H3 fun y H4 => tv σ2 H4 fun z H5 => ∃ kvs k, y = kV k ∧ H5 D = some (.dK kvs) ∧ kvs.length < sizeLine ∧ Pv (i + 1) (upd H5 D (.dK (putK kvs k z))) else Pv (i + 1) H3) (hd : ∀ H, Pv kws.length H → Qd H) :
    ∃ W : Nat → Nat → Hp → Prop, (∃ m, W 0 m (upd H1 D (.dK []))) ∧ ∀ i m H, W i m H →
      ((Itk d o kws).stop i H ∧ Qd H) ∨ ((Itk d o kws).go i H ∧ ∃ Nx : Hp → Prop, (∀ H', Nx H' → ∃ m', m' < m ∧ W (i + 1) m' H') ∧ ∀ x H', (Itk d o kws).yld i H x H' → g x (wipe σ vs) H' fun σ2 H2 => wipe σ2 vs = wipe σ vs ∧ tt σ2 H2 fun b H3 =>
        if b = true then tk σ2 H3 fun y H4 => tv σ2 H4 fun z H5 => ∃ kvs k, y = kV k ∧ H5 D = some (.dK kvs) ∧ kvs.length < sizeLine ∧ Nx (upd H5 D (.dK (putK kvs k z))) else Nx H3) := by
  refine ⟨fun i m H => i ≤ kws.length ∧ m = kws.length - i ∧ Pv i H, ⟨_, Nat.zero_le _, rfl, h0⟩, ?_⟩
  rintro i m H ⟨hi, rfl, p⟩
  have q := hl i H p
  rcases Nat.lt_or_ge i kws.length with hlt | hge
  · refine .inr ⟨⟨q, hlt⟩, Pv (i + 1), fun H' p' => ⟨kws.length - (i + 1), by omega, hlt, rfl, p'⟩, fun x H' y => ?_⟩
    obtain ⟨rfl, k, v, e, rfl⟩ := y
    exact hs i k v _ e p
  · obtain rfl : i = kws.length := by omega
    exact .inl ⟨⟨q, hge⟩, hd H p⟩
section
variable {P : Program} {w : World} {K : PySem.W.Frag} {mg : Str → Option Value} {base : Heap}
theorem scC : FnScope ["value", "part", "key"] ["value"] (defScope sCop) := ⟨rfl, rfl, rfl, by decide +kernel, rfl, by decide +kernel, by decide +kernel⟩
theorem isi_b {H : Hp} {x : V} {n m : String} {r : Bool} {Q : VK} (ty : TyX K H x (.type n)) (h : kitB n m = some r) (q : Q (.bl r) H) : rIsi K [x, .ty m] H Q := ⟨x, .ty m, _, _, r, rfl, .ty m, ty, kit_ty h, q⟩
/-- if isinstance(x, T): , x the name in the i-th slot -/
theorem isi_if {σ : L2.St} {i : Nat} {H : Hp} {x : V} {n m : String} {r : Bool} {Q : Bool → Hp → Prop} (hv : σ[i]? = some (some x)) (ty : TyX K H x (.type n)) (h : kitB n m = some r) (q : Q r H) : tB (tCB (rIsi K) (tCons (tVar i) (tCons (tC (.ty m)) tNil))) σ H Q :=
  ⟨x, hv, isi_b (Q := fun y H1 => ∃ c, y = V.bl c ∧ Q c H1) ty h ⟨r, rfl, q⟩⟩
end
end OM

namespace OM
open PySem PySem.Spec PyProof.Rows L2
section
variable {P : Program} {w : World} {K : PySem.W.Frag} {mg : Str → Option Value} {base : Heap}
theorem same_upd {H : Hp} {D : Addr} {o : HO} (h : H D = none) : Same H (upd H D o) := fun b u e => by rw [upd_ne (ne_of_none e h)]; exact e
theorem same_put {H H' : Hp} {D : Addr} {o : HO} (h : H D = none) (s : Same H H') : Same H (upd H' D o) := fun b u e => by rw [upd_ne (ne_of_none e h)]; exact s b u e
/-- what holds of the parts that were copied so far -/
def PvC (H : Hp) (D : Addr) (ds : List PyData) (i : Nat) (H' : Hp) : Prop := Same H H' ∧ ∃ acc : List V, H' D = some (.lst acc) ∧ DtAll (fun a => H a = none ∧ a ≠ D) H' acc (ds.take i)
theorem PvC.one {S : Addr → Prop} {H H3 : Hp} {D : Addr} {xs : List V} {ds : List PyData} {i m : Nat} {x : V} (hD : H D = none) (hl : xs.length ≤ 1000) (h : DtAll S H xs ds) (hdep : PyData.depthAll ds ≤ m) (hx : xs[i]? = some x) (p : PvC H D ds i H3) :
    spCop (m + 1) [x] H3 (fun y H4 => ∃ acc, H4 D = some (.lst acc) ∧ acc.length < sizeLine ∧ PvC H D ds (i + 1) (upd H4 D (.lst (acc ++ [y])))) E0 := by
  obtain ⟨sm, acc, hD3, da⟩ := p
  obtain ⟨d, hdi, hdt⟩ := h.get hx
  refine ⟨S, x, d, rfl, hdt.mv (fun _ z => z) (fun a o _ e => sm a o e), Nat.le_trans (depth_get hdi) hdep, fun H4 v' sm4 dt4 => ⟨acc, sm4 _ _ hD3, ?_, ?_⟩⟩
  · have e1 := da.length
    rw [List.length_take] at e1
    have e2 : (1000 : Nat) < sizeLine := by decide
    have e3 := h.length
    omega
  · refine ⟨same_put hD (sm.trans sm4), acc ++ [v'], upd_same, ?_⟩
    have et : ds.take (i + 1) = ds.take i ++ [d] := by
      rw [List.take_add_one, hdi] <;> rfl
    rw [et]
    refine DtAll.snoc (da.mv (fun _ z => z) fun a o s e => by rw [upd_ne s.2]; exact sm4 _ _ e) (dt4.mv (fun a (s : H3 a = none) => ⟨sm.free s, fun z => by rw [z, hD3] at s; cases s⟩) fun a o s e => ?_)
    have s' : H3 a = none := s
    rw [upd_ne (fun z => by rw [z, hD3] at s'; cases s')]
    exact e
theorem PvC.all {S : Addr → Prop} {H H5 : Hp} {D : Addr} {xs : List V} {ds : List PyData} (h : DtAll S H xs ds) (p : PvC H D ds xs.length H5) : Same H H5 ∧ ∃ acc : List V, H5 D = some (.lst acc) ∧ acc.length = xs.length ∧ DtAll (fun a => H a = none ∧ a ≠ D) H5 acc ds := by
  obtain ⟨sm, acc, hD5, da⟩ := p
  rw [h.length, List.take_length] at da
  exact ⟨sm, acc, hD5, da.length.trans h.length.symm, da⟩
theorem PvC.zero {H : Hp} {D : Addr} {ds : List PyData} (hD : H D = none) : PvC H D ds 0 (upd H D (.lst [])) := ⟨same_upd hD, [], upd_same, .nil⟩
theorem unlock_same {H H' : Hp} {a : Addr} {od : Obj} {u : HO} (e : H a = some u) (sm : Same (upd H a (.frz od u)) H') : Same H (upd H' a u) := fun b o z => by
  by_cases hb : b = a
  · rw [hb] at z ⊢
    rw [upd_same, ← z, e]
  · rw [upd_ne hb]
    exact sm b o (by rw [upd_ne hb]; exact z)
theorem At.of {S : Addr → Prop} {H : Hp} {v v' : V} {d : PyData} (h : At v d) (x : Dt S H v' d) : At v' d := by
  cases h <;> (cases x; assumption)
theorem cop_step {f : Addr} {fd : FuncData} {n : Nat} (F : Fun K "_copied" "_copied" sCop f fd) (T : TxtC mg) (gC : mg "_copied" = some (.ref f)) (bC : Binds K fd ["value"] []) (G : FnOk P w K mg base CX0 n f fd ["value"] (spCop n)) :
    FnOk P w K mg base CX0 (n + 1) f fd ["value"] (spCop (n + 1)) := by
  refine F.ok scC (fun vs H Q E h => ?_) (fun cdv A outer s H vs Q E hr h => ?_)
  · obtain ⟨S, v, d, rfl, _⟩ := h
    rfl
  · obtain ⟨S, v, d, rfl, hd, hdep, q⟩ := h
    have un : (A.deeper (envOfC "_copied" (defScope sCop) s.heap.objs.size f cdv)).units + 1 < cLine := by
      have := hr.un
      omega
    refine ⟨_, pss_cons (ps_if (pt_val (pe_callB call_isi (by rfl) T.isi (by decide +kernel) (pa_cons (pv 0) (pa_cons (pe_bltn (v := .ty "list") (u := .type "list") (by rfl) T.lst (by decide +kernel) rfl) pa_nil))))
        (pss_one (ps_ret (pe_lc (own := [("part", 1)]) rfl scC.nd (pi_list (pv 0)) (blkOk_by (N := ["value", "part", "key"]) (sc := defScope sCop) (by decide +kernel)) (fun _ _ _ _ _ => pg_name (i := 1) scC.nd rfl (Or.inl rfl)) (fun _ _ _ _ _ => pts_nil)
          (fun _ _ _ _ _ => pe_call G hr rfl gC F.kp bC .nil pass0 (pa_cons (pv 1) pa_nil))))) pss_nil)
      (pss_cons (ps_if (pt_val (pe_callB call_isi (by rfl) T.isi (by decide +kernel) (pa_cons (pv 0) (pa_cons (pe_bltn (v := .ty "tuple") (u := .type "tuple") (by rfl) T.tup (by decide +kernel) rfl) pa_nil))))
        (pss_one (ps_ret (pe_callTy call_tuple_of (by rfl) T.tup (by decide +kernel) (pa_cons (pe_lc (own := [("part", 1)]) rfl scC.nd (pi_tup (pv 0)) (blkOk_by (N := ["value", "part", "key"]) (sc := defScope sCop) (by decide +kernel)) (fun _ _ _ _ _ => pg_name (i := 1) scC.nd rfl (Or.inl rfl)) (fun _ _ _ _ _ => pts_nil)
          (fun _ _ _ _ _ => pe_call G hr rfl gC F.kp bC .nil pass0 (pa_cons (pv 1) pa_nil))) pa_nil)))) pss_nil)
      (pss_cons (ps_if (pt_val (pe_callB call_isi (by rfl) T.isi (by decide +kernel) (pa_cons (pv 0) (pa_cons (pe_bltn (v := .ty "dict") (u := .type "dict") (by rfl) T.dct (by decide +kernel) rfl) pa_nil))))
        (pss_one (ps_ret (pe_lock (pe_dc (own := [("key", 2)]) rfl scC.nd (pi_keys (pv 0)) (blkOk_by (N := ["value", "part", "key"]) (sc := defScope sCop) (by decide +kernel)) (fun _ _ _ _ _ => pg_name (i := 2) scC.nd rfl (Or.inl rfl)) (fun _ _ _ _ _ => pts_nil)
          (fun _ _ _ _ _ => pv 2) (fun _ _ _ _ _ => pe_call G hr rfl gC F.kp bC .nil pass0 (pa_cons (pe_dget un (pv 0) (pv 2) (fun _ _ => rfl)) pa_nil)))))) pss_nil)
      (pss_one (ps_ret (pv 0))))), ?_⟩
    cases hd with
    | «at» h =>
      obtain ⟨t, ht, ty⟩ := h.ty (K := K) (H := H)
      have k1 : kitB t "list" = some false := by rcases ht with rfl | rfl | rfl | rfl <;> decide +kernel
      have k2 : kitB t "tuple" = some false := by rcases ht with rfl | rfl | rfl | rfl <;> decide +kernel
      have k3 : kitB t "dict" = some false := by rcases ht with rfl | rfl | rfl | rfl <;> decide +kernel
      refine isi_if (x := v) rfl ty k1 (iteF ?_)
      refine isi_if (x := v) rfl ty k2 (iteF ?_)
      refine isi_if (x := v) rfl ty k3 (iteF ?_)
      exact ⟨_, rfl, q _ _ (Same.refl _) (.at h)⟩
    | @lst a xs ds sa e hl h =>
      unfold PyData.depth at hdep
      obtain ⟨m, rfl⟩ : ∃ m, n = m + 1 := ⟨n - 1, by omega⟩
      refine isi_if (x := .ref a) (n := "list") (r := true) rfl (.base (.lst e)) (by decide +kernel) (iteT ?_)
      refine ⟨_, rfl, a, rfl, ⟨xs, SqL.of e⟩, fun D hD => lc_list (PvC H D ds) (PvC.zero hD) (fun i H' _ p => SqL.of (p.1 _ _ e)) (fun i x H3 hx p => ?_) (fun H5 p => ?_)⟩
      · exact ⟨rfl, _, rfl, PvC.one hD hl h (by omega) hx p⟩
      · obtain ⟨sm, acc, hD5, hlen, da⟩ := p.all h
        exact q _ _ sm (.lst hD hD5 (by omega) (da.mv (fun _ z => z.1) fun _ _ _ z => z))
    | @tup a xs ds sa e hl h =>
      unfold PyData.depth at hdep
      obtain ⟨m, rfl⟩ : ∃ m, n = m + 1 := ⟨n - 1, by omega⟩
      refine isi_if (x := .ref a) (n := "tuple") (r := false) rfl (.base (.tup e)) (by decide +kernel) (iteF ?_)
      refine isi_if (x := .ref a) (n := "tuple") (r := true) rfl (.base (.tup e)) (by decide +kernel) (iteT ?_)
      refine ⟨_, rfl, a, rfl, ⟨xs, SqT.of e⟩, fun D hD => lc_tup (PvC H D ds) (PvC.zero hD) (fun i H' _ p => SqT.of (p.1 _ _ e)) (fun i x H3 hx p => ?_) (fun H5 p => ?_)⟩
      · exact ⟨rfl, _, rfl, PvC.one hD hl h (by omega) hx p⟩
      · obtain ⟨sm, acc, hD5, hlen, da⟩ := p.all h
        refine ⟨D, acc, rfl, .inl ⟨SqL.of hD5, fun l hn => q _ _ (same_put (sm.free hn) sm) (.tup (sm.free hn) upd_same (by omega) (da.mv (fun _ z => z.1) fun b o s z => ?_))⟩⟩
        rw [upd_ne (ne_of_none z hn)]
        exact z
    | @dic0 a sa e =>
      refine isi_if (x := .ref a) (n := "dict") (r := false) rfl (.base (.dK e)) (by decide +kernel) (iteF ?_)
      refine isi_if (x := .ref a) (n := "dict") (r := false) rfl (.base (.dK e)) (by decide +kernel) (iteF ?_)
      refine isi_if (x := .ref a) (n := "dict") (r := true) rfl (.base (.dK e)) (by decide +kernel) (iteT ?_)
      refine ⟨a, .dK [], e, True.intro, fun od => ⟨_, rfl, a, od, rfl, .inl ⟨[], upd_same, fun D hD => dc_keys (fun _ H' => Same (upd H a (.frz od (.dK []))) H' ∧ H' D = some (.dK [])) ⟨same_upd hD, upd_same⟩ (fun i H' p => p.1 _ _ upd_same) (fun i k v H3 hx p => by simp at hx) (fun H5 p => ?_)⟩⟩⟩
      have hDa : D ≠ a := fun z => by rw [z, upd_same] at hD; cases hD
      rw [upd_ne hDa] at hD
      exact ⟨p.1 _ _ upd_same, q _ _ (unlock_same e p.1) (.dic0 hD (by rw [upd_ne hDa]; exact p.2))⟩
    | @dic1 a k v d sa e h =>
      have hdk : At v d → d.depth = 0 := fun z => by cases z <;> rfl
      obtain ⟨m, rfl⟩ : ∃ m, n = m + 1 := ⟨n - 1, by
        have z : 1 ≤ PyData.depth (.dict [(kD k, d)]) := by
          unfold PyData.depth
          omega
        omega⟩
      refine isi_if (x := .ref a) (n := "dict") (r := false) rfl (.base (.dK e)) (by decide +kernel) (iteF ?_)
      refine isi_if (x := .ref a) (n := "dict") (r := false) rfl (.base (.dK e)) (by decide +kernel) (iteF ?_)
      refine isi_if (x := .ref a) (n := "dict") (r := true) rfl (.base (.dK e)) (by decide +kernel) (iteT ?_)
      refine ⟨a, .dK [(k, v)], e, True.intro, fun od => ⟨_, rfl, a, od, rfl, .inl ⟨[(k, v)], upd_same, fun D hD => dc_keys (fun i H' => Same (upd H a (.frz od (.dK [(k, v)]))) H' ∧ ((i = 0 ∧ H' D = some (.dK [])) ∨ (i = 1 ∧ ∃ v', H' D = some (.dK [(k, v')]) ∧ At v' d)))
        ⟨same_upd hD, .inl ⟨rfl, upd_same⟩⟩ (fun i H' p => p.1 _ _ upd_same) (fun i k' v0 H3 hx p => ?_) (fun H5 p => ?_)⟩⟩⟩
      · cases i with
        | succ i => simp at hx
        | zero =>
          obtain ⟨rfl, rfl⟩ : k = k' ∧ v = v0 := by simpa using hx
          obtain ⟨sm, ⟨_, hD3⟩ | ⟨z, _⟩⟩ := p
          · refine ⟨rfl, _, rfl, _, rfl, _, rfl, a, v, rfl, .inl ⟨[(k, v)], k, .inr ⟨od, sm _ _ upd_same⟩, rfl, ?_⟩, fun _ => True, v, d, rfl, .at h, by rw [hdk h]; exact Nat.zero_le _, fun H4 v' sm4 dt4 => ⟨[], k, rfl, sm4 _ _ hD3, by decide, same_put hD (sm.trans sm4), .inr ⟨rfl, v', ?_, h.of dt4⟩⟩⟩
            · unfold valV
              simp
            · exact upd_same
          · cases z
      · have hDa : D ≠ a := fun z => by rw [z, upd_same] at hD; cases hD
        rw [upd_ne hDa] at hD
        obtain ⟨sm, ⟨z, _⟩ | ⟨_, v', hD5, h5⟩⟩ := p
        · cases z
        · exact ⟨sm _ _ upd_same, q _ _ (unlock_same e sm) (.dic1 hD (by rw [upd_ne hDa]; exact hD5) h5)⟩
end
end OM

namespace OM
open PySem PySem.Spec PyProof.Rows L2
theorem ok_cop {P : Program} {w : World} {K : PySem.W.Frag} {mg : Str → Option Value} {base : Heap} {f : Addr} {fd : FuncData} (F : Fun K "_copied" "_copied" sCop f fd) (T : TxtC mg) (gC : mg "_copied" = some (.ref f)) (bC : Binds K fd ["value"] []) :
    ∀ n, FnOk P w K mg base CX0 n f fd ["value"] (spCop n)
  | 0 => ⟨fun _ _ _ _ h => h.elim, fun _ _ _ _ _ _ _ _ _ _ _ _ _ h => h.elim⟩
  | n + 1 => cop_step F T gC bC (ok_cop F T gC bC n)
abbrev inSt (i : Nat) : Stmt := (match top i with
  | .ClassDef (body := b) .. => b
  | _ => []).getD 0 (.Pass ⟨0, 0, 0, 0⟩)
/-- an object that is being made: nothing stands in it yet -/
def Raw (K : PySem.W.Frag) (B : String) (fs : List Str) (a C : Addr) (H : Hp) : Prop := ∃ tail : List Value, OexB K C tail ∧ tail.contains (.type B) = true ∧ H a = some (exo a C none) ∧ ∀ f ∈ fs, PySem.W.findIn K (.ref C) f = some none
/-- its fields hold these data -/
def Has (H0 H : Hp) (a dx : Addr) (fs : List (Str × V)) (fds : List (Str × PyData)) : Prop := ∀ f d, fds.lookup f = some d → ∃ v, fs.lookup f = some v ∧ Dt (fun b => H0 b = none ∧ b ≠ dx) H v d
/-- a new object stands at a, with these fields -/
def Made (H0 : Hp) (a C : Addr) (fds : List (Str × PyData)) (H : Hp) : Prop := But a H0 H ∧ ∃ dx fs, H a = some (exo a C (some dx)) ∧ H dx = some (exd dx fs) ∧ H0 dx = none ∧ dx ≠ a ∧ fs.length ≤ 900 ∧ Has H0 H a dx fs fds
/-- __init__ of a class without fields -/
def spI0 (K : PySem.W.Frag) (B : String) : Sp := fun vs H Q _ => ∃ (a C : Addr) (x : V), vs = [.ref a, x] ∧ Raw K B [] a C H ∧ Q .non H
/-- __init__ that keeps its argument -/
def spI1 (K : PySem.W.Frag) (B : String) (f : Str) (n : Nat) : Sp := fun vs H Q _ => ∃ (a C : Addr) (x : V) (d : PyData) (S : Addr → Prop), vs = [.ref a, x] ∧ Raw K B [f] a C H ∧ Dt S H x d ∧ d.depth ≤ n ∧ ∀ H', Made H a C [(f, d)] H' → Q .non H'
def spI2 (K : PySem.W.Frag) (B : String) (f g : Str) (n : Nat) : Sp := fun vs H Q _ => ∃ (a C : Addr) (x y : V) (d e : PyData) (S : Addr → Prop), vs = [.ref a, x, y] ∧ Raw K B [f, g] a C H ∧ Dt S H x d ∧ Dt S H y e ∧ (∀ b, S b → b ≠ a) ∧ d.depth ≤ n ∧ e.depth ≤ n ∧
  ∀ H', Made H a C [(f, d), (g, e)] H' → Q .non H'
/-- a built-in class's name and its __init__ -/
structure BIn (K : PySem.W.Frag) (mg : Str → Option Value) (x : Str) (B initId : String) : Prop where
  mg : mg x = none
  v : PySem.W.findCls K (.type B) (.type "type") "__init__" = some (.val (.builtin initId))
section
variable {P : Program} {w : World} {K : PySem.W.Frag} {mg : Str → Option Value} {base : Heap} {f fC : Addr} {fd fdC : FuncData}
theorem scM : FnScope ["self", "why"] ["self", "why"] (defScope (inSt 1)) := ⟨rfl, rfl, rfl, by decide +kernel, rfl, by decide +kernel, by decide +kernel⟩
theorem ok_iM {dvs : List V} (F : FunD K "__init__" "MoveError.__init__" (defArgs (inSt 1)) (defBody (inSt 1)) (defScope (inSt 1)) dvs [] f fd) (b : BIn K mg "ValueError" "ValueError" "ValueError.__init__") : FnOk P w K mg base CX0 1 f fd ["self", "why"] (spI0 K "ValueError") := by
  refine F.ok scM (fun vs H Q E h => ?_) (fun cdv A outer s H vs Q E hr h => ?_)
  · obtain ⟨a, C, x, rfl, _⟩ := h
    rfl
  · obtain ⟨a, C, x, rfl, ⟨tail, T, hB, ea, _⟩, q⟩ := h
    refine ⟨_, pss_one (ps_expr (pe_binit base_VE (by rfl) b.mg (by decide +kernel) b.v (by decide +kernel) (pa_cons (pv 0) (pa_cons (pv 1) pa_nil)))), ?_⟩
    exact ⟨_, rfl, _, rfl, a, C, tail, [x], rfl, (by show 1 ≤ 1000; decide), T, hB, ea, q⟩
theorem has_first {H H4 : Hp} {a C dx : Addr} {f : Str} {d : PyData} {v' : V} (ea : H a = some (exo a C none)) (sm : Same H H4) (dt : Dt (fun b => H b = none) H4 v' d) (n : H4 dx = none) (ne : dx ≠ a) :
    Has H (upd (upd H4 dx (exd dx [(f, v')])) a (exo a C (some dx))) a dx [(f, v')] [(f, d)] := fun g e hg => by
  by_cases hgf : g = f
  · subst hgf
    obtain rfl : d = e := by simpa using hg
    have nb : ∀ {b : Addr} {o : HO}, H b = none → H4 b = some o → b ≠ a ∧ b ≠ dx := fun {b o} hb e => ⟨fun z => (by rw [z, ea] at hb; cases hb), ne_of_none e n⟩
    refine ⟨v', by simp, dt.strong fun b o hb e => ⟨⟨hb, (nb hb e).2⟩, by rw [upd_ne (nb hb e).1, upd_ne (nb hb e).2]; exact e⟩⟩
  · rw [List.lookup_cons] at hg
    have z : (g == f) = false := by simpa using hgf
    rw [z] at hg
    cases hg
theorem but_first {H H4 : Hp} {a dx : Addr} {o1 o2 : HO} (sm : Same H H4) (n : H4 dx = none) : But a H (upd (upd H4 dx o1) a o2) := fun b o hb e => by
  rw [upd_ne hb, upd_ne (ne_of_none e (sm.free n))]
  exact sm b o e
theorem made_first {H H4 : Hp} {a C dx : Addr} {f : Str} {d : PyData} {v' : V} (ea : H a = some (exo a C none)) (sm : Same H H4) (dt : Dt (fun b => H b = none) H4 v' d) (n : H4 dx = none) (ne : dx ≠ a) :
    Made H a C [(f, d)] (upd (upd H4 dx (exd dx [(f, v')])) a (exo a C (some dx))) :=
  ⟨but_first sm n, dx, [(f, v')], upd_same, by rw [upd_ne ne, upd_same], sm.free n, ne, (by show 1 ≤ 900; decide), has_first ea sm dt n ne⟩
/-- a second field -/
theorem made_next {H H4 H5 : Hp} {a C dx : Addr} {f g : Str} {d e : PyData} {v' w' : V} (hfg : (f == g) = false) (ea : H a = some (exo a C none)) (b4 : But a H H4) (hdx : H4 a = some (exo a C (some dx))) (hd : H4 dx = some (exd dx [(f, v')])) (n : H dx = none) (ne : dx ≠ a)
    (h : Has H H4 a dx [(f, v')] [(f, d)]) (sm : Same H4 H5) (dt : Dt (fun b => H4 b = none) H5 w' e) : Made H a C [(f, d), (g, e)] (upd H5 dx (exd dx [(g, w'), (f, v')])) := by
  have h5 := sm _ _ hd
  have hgf : (g == f) = false := by
    cases z : (g == f) with
    | false => rfl
    | true =>
      rw [beq_iff_eq.mp z, beq_self_eq_true] at hfg
      cases hfg
  refine ⟨fun b o hb eo => ?_, dx, _, ?_, upd_same, n, ne, (by show 2 ≤ 900; decide), fun q c hq => ?_⟩
  · rw [upd_ne (ne_of_none eo n)]
    exact sm _ _ (b4 b o hb eo)
  · rw [upd_ne (Ne.symm ne)]
    exact sm _ _ hdx
  · rw [List.lookup_cons] at hq
    by_cases hqf : q = f
    · subst hqf
      obtain ⟨u, e1, e2⟩ := h q d (by simp)
      rw [beq_self_eq_true] at hq
      cases hq
      refine ⟨u, by rw [List.lookup_cons, hfg]; exact e1, e2.strong fun b o hb eo => ⟨hb, by rw [upd_ne hb.2]; exact sm _ _ eo⟩⟩
    · have z : (q == f) = false := by simpa using hqf
      rw [z] at hq
      have hqg : q = g := by
        by_cases y : q = g
        · exact y
        · have z2 : (q == g) = false := by simpa using y
          simp only [List.lookup_cons, z2] at hq
          cases hq
      subst hqg
      obtain rfl : e = c := by simpa using hq
      have ndx : ∀ {b : Addr}, H4 b = none → b ≠ dx := fun {b} hb y => by
        rw [y, hd] at hb
        cases hb
      have free : ∀ {b : Addr}, H4 b = none → H b = none ∧ b ≠ dx := fun {b} hb => by
        refine ⟨?_, ndx hb⟩
        cases y : H b with
        | none => rfl
        | some o =>
          by_cases hba : b = a
          · rw [hba, hdx] at hb
            cases hb
          · rw [b4 b o hba y] at hb
            cases hb
      exact ⟨w', by simp, dt.strong fun b o hb eo => ⟨free hb, by rw [upd_ne (free hb).2]; exact eo⟩⟩
theorem sc6 : FnScope ["self", "line"] ["self", "line"] (defScope (inSt 6)) := ⟨rfl, rfl, rfl, by decide +kernel, rfl, by decide +kernel, by decide +kernel⟩
theorem sc7 : FnScope ["self", "name"] ["self", "name"] (defScope (inSt 7)) := ⟨rfl, rfl, rfl, by decide +kernel, rfl, by decide +kernel, by decide +kernel⟩
theorem sc8 : FnScope ["self", "test", "value"] ["self", "test", "value"] (defScope (inSt 8)) := ⟨rfl, rfl, rfl, by decide +kernel, rfl, by decide +kernel, by decide +kernel⟩
theorem sc9 : FnScope ["self", "value"] ["self", "value"] (defScope (inSt 9)) := ⟨rfl, rfl, rfl, by decide +kernel, rfl, by decide +kernel, by decide +kernel⟩
theorem sc10 : FnScope ["self", "limit"] ["self", "limit"] (defScope (inSt 10)) := ⟨rfl, rfl, rfl, by decide +kernel, rfl, by decide +kernel, by decide +kernel⟩
theorem sc11 : FnScope ["self", "many"] ["self", "many"] (defScope (inSt 11)) := ⟨rfl, rfl, rfl, by decide +kernel, rfl, by decide +kernel, by decide +kernel⟩
theorem sc12 : FnScope ["self", "reason"] ["self", "reason"] (defScope (inSt 12)) := ⟨rfl, rfl, rfl, by decide +kernel, rfl, by decide +kernel, by decide +kernel⟩
/-- what _copied is, for those that call it -/
structure CopF (K : PySem.W.Frag) (mg : Str → Option Value) (fC : Addr) (fdC : FuncData) : Prop where
  F : Fun K "_copied" "_copied" sCop fC fdC
  T : TxtC mg
  g : mg "_copied" = some (.ref fC)
  b : Binds K fdC ["value"] []
theorem ok_i7 {n : Nat} (F : Fun K "__init__" "UnknownName.__init__" (inSt 7) f fd) (cf : CopF K mg fC fdC) (b : BIn K mg "KeyError" "KeyError" "KeyError.__init__") : FnOk P w K mg base CX0 (n + 2) f fd ["self", "name"] (spI1 K "KeyError" "name" n) := by
  refine F.ok sc7 (fun vs H Q E h => ?_) (fun cdv A outer s H vs Q E hr h => ?_)
  · obtain ⟨a, C, x, d, S, rfl, _⟩ := h
    rfl
  · obtain ⟨a, C, x, d, S, rfl, ⟨tail, T, hB, ea, hno⟩, hd, hdep, q⟩ := h
    have G : FnOk P w K mg base CX0 (n + 1) fC fdC ["value"] (spCop (n + 1)) := ok_cop cf.F cf.T cf.g cf.b (n + 1)
    refine ⟨_, pss_cons (ps_expr (pe_binit base_KE (by rfl) b.mg (by decide +kernel) b.v (by decide +kernel) (pa_cons (pv 0) (pa_cons (pv 1) pa_nil))))
      (pss_one (ps_ostB (pv 0) (pe_call G hr rfl cf.g cf.F.kp cf.b .nil pass0 (pa_cons (pv 1) pa_nil)))), ?_⟩
    refine ⟨_, rfl, _, rfl, a, C, tail, [x], rfl, (by show 1 ≤ 1000; decide), T, hB, ea, ?_⟩
    refine ⟨_, rfl, S, x, d, rfl, hd, hdep, fun H4 v' sm dt => ⟨_, rfl, a, C, tail, rfl, T, hno _ (List.mem_cons_self ..), .inl ⟨sm _ _ ea, fun dx n1 ne => ?_⟩⟩⟩
    exact q _ (made_first ea sm dt n1 ne)
theorem ok_i9 {n : Nat} (F : Fun K "__init__" "InvalidNumber.__init__" (inSt 9) f fd) (cf : CopF K mg fC fdC) (b : BIn K mg "RuntimeError" "RuntimeError" "RuntimeError.__init__") : FnOk P w K mg base CX0 (n + 2) f fd ["self", "value"] (spI1 K "RuntimeError" "value" n) := by
  refine F.ok sc9 (fun vs H Q E h => ?_) (fun cdv A outer s H vs Q E hr h => ?_)
  · obtain ⟨a, C, x, d, S, rfl, _⟩ := h
    rfl
  · obtain ⟨a, C, x, d, S, rfl, ⟨tail, T, hB, ea, hno⟩, hd, hdep, q⟩ := h
    have G : FnOk P w K mg base CX0 (n + 1) fC fdC ["value"] (spCop (n + 1)) := ok_cop cf.F cf.T cf.g cf.b (n + 1)
    refine ⟨_, pss_cons (ps_expr (pe_binit base_RE (by rfl) b.mg (by decide +kernel) b.v (by decide +kernel) (pa_cons (pv 0) (pa_cons (pv 1) pa_nil))))
      (pss_one (ps_ostB (pv 0) (pe_call G hr rfl cf.g cf.F.kp cf.b .nil pass0 (pa_cons (pv 1) pa_nil)))), ?_⟩
    refine ⟨_, rfl, _, rfl, a, C, tail, [x], rfl, (by show 1 ≤ 1000; decide), T, hB, ea, ?_⟩
    refine ⟨_, rfl, S, x, d, rfl, hd, hdep, fun H4 v' sm dt => ⟨_, rfl, a, C, tail, rfl, T, hno _ (List.mem_cons_self ..), .inl ⟨sm _ _ ea, fun dx n1 ne => ?_⟩⟩⟩
    exact q _ (made_first ea sm dt n1 ne)
theorem ok_i10 {n : Nat} (F : Fun K "__init__" "TooMany.__init__" (inSt 10) f fd) (cf : CopF K mg fC fdC) (b : BIn K mg "OverflowError" "OverflowError" "OverflowError.__init__") : FnOk P w K mg base CX0 (n + 2) f fd ["self", "limit"] (spI1 K "OverflowError" "limit" n) := by
  refine F.ok sc10 (fun vs H Q E h => ?_) (fun cdv A outer s H vs Q E hr h => ?_)
  · obtain ⟨a, C, x, d, S, rfl, _⟩ := h
    rfl
  · obtain ⟨a, C, x, d, S, rfl, ⟨tail, T, hB, ea, hno⟩, hd, hdep, q⟩ := h
    have G : FnOk P w K mg base CX0 (n + 1) fC fdC ["value"] (spCop (n + 1)) := ok_cop cf.F cf.T cf.g cf.b (n + 1)
    refine ⟨_, pss_cons (ps_expr (pe_binit base_OE (by rfl) b.mg (by decide +kernel) b.v (by decide +kernel) (pa_cons (pv 0) (pa_cons (pv 1) pa_nil))))
      (pss_one (ps_ostB (pv 0) (pe_call G hr rfl cf.g cf.F.kp cf.b .nil pass0 (pa_cons (pv 1) pa_nil)))), ?_⟩
    refine ⟨_, rfl, _, rfl, a, C, tail, [x], rfl, (by show 1 ≤ 1000; decide), T, hB, ea, ?_⟩
    refine ⟨_, rfl, S, x, d, rfl, hd, hdep, fun H4 v' sm dt => ⟨_, rfl, a, C, tail, rfl, T, hno _ (List.mem_cons_self ..), .inl ⟨sm _ _ ea, fun dx n1 ne => ?_⟩⟩⟩
    exact q _ (made_first ea sm dt n1 ne)
theorem ok_i11 {n : Nat} (F : Fun K "__init__" "NothingToUndo.__init__" (inSt 11) f fd) (cf : CopF K mg fC fdC) (b : BIn K mg "IndexError" "IndexError" "IndexError.__init__") : FnOk P w K mg base CX0 (n + 2) f fd ["self", "many"] (spI1 K "IndexError" "many" n) := by
  refine F.ok sc11 (fun vs H Q E h => ?_) (fun cdv A outer s H vs Q E hr h => ?_)
  · obtain ⟨a, C, x, d, S, rfl, _⟩ := h
    rfl
  · obtain ⟨a, C, x, d, S, rfl, ⟨tail, T, hB, ea, hno⟩, hd, hdep, q⟩ := h
    have G : FnOk P w K mg base CX0 (n + 1) fC fdC ["value"] (spCop (n + 1)) := ok_cop cf.F cf.T cf.g cf.b (n + 1)
    refine ⟨_, pss_cons (ps_expr (pe_binit base_IE (by rfl) b.mg (by decide +kernel) b.v (by decide +kernel) (pa_cons (pv 0) (pa_cons (pv 1) pa_nil))))
      (pss_one (ps_ostB (pv 0) (pe_call G hr rfl cf.g cf.F.kp cf.b .nil pass0 (pa_cons (pv 1) pa_nil)))), ?_⟩
    refine ⟨_, rfl, _, rfl, a, C, tail, [x], rfl, (by show 1 ≤ 1000; decide), T, hB, ea, ?_⟩
    refine ⟨_, rfl, S, x, d, rfl, hd, hdep, fun H4 v' sm dt => ⟨_, rfl, a, C, tail, rfl, T, hno _ (List.mem_cons_self ..), .inl ⟨sm _ _ ea, fun dx n1 ne => ?_⟩⟩⟩
    exact q _ (made_first ea sm dt n1 ne)
theorem ok_i12 {n : Nat} (F : Fun K "__init__" "Refused.__init__" (inSt 12) f fd) (cf : CopF K mg fC fdC) (b : BIn K mg "ArithmeticError" "ArithmeticError" "ArithmeticError.__init__") : FnOk P w K mg base CX0 (n + 2) f fd ["self", "reason"] (spI1 K "ArithmeticError" "reason" n) := by
  refine F.ok sc12 (fun vs H Q E h => ?_) (fun cdv A outer s H vs Q E hr h => ?_)
  · obtain ⟨a, C, x, d, S, rfl, _⟩ := h
    rfl
  · obtain ⟨a, C, x, d, S, rfl, ⟨tail, T, hB, ea, hno⟩, hd, hdep, q⟩ := h
    have G : FnOk P w K mg base CX0 (n + 1) fC fdC ["value"] (spCop (n + 1)) := ok_cop cf.F cf.T cf.g cf.b (n + 1)
    refine ⟨_, pss_cons (ps_expr (pe_binit base_AE (by rfl) b.mg (by decide +kernel) b.v (by decide +kernel) (pa_cons (pv 0) (pa_cons (pv 1) pa_nil))))
      (pss_one (ps_ostB (pv 0) (pe_call G hr rfl cf.g cf.F.kp cf.b .nil pass0 (pa_cons (pv 1) pa_nil)))), ?_⟩
    refine ⟨_, rfl, _, rfl, a, C, tail, [x], rfl, (by show 1 ≤ 1000; decide), T, hB, ea, ?_⟩
    refine ⟨_, rfl, S, x, d, rfl, hd, hdep, fun H4 v' sm dt => ⟨_, rfl, a, C, tail, rfl, T, hno _ (List.mem_cons_self ..), .inl ⟨sm _ _ ea, fun dx n1 ne => ?_⟩⟩⟩
    exact q _ (made_first ea sm dt n1 ne)
theorem ok_i8 {n : Nat} (F : Fun K "__init__" "Unanswered.__init__" (inSt 8) f fd) (cf : CopF K mg fC fdC) (b : BIn K mg "LookupError" "LookupError" "LookupError.__init__") : FnOk P w K mg base CX0 (n + 2) f fd ["self", "test", "value"] (spI2 K "LookupError" "test" "value" n) := by
  refine F.ok sc8 (fun vs H Q E h => ?_) (fun cdv A outer s H vs Q E hr h => ?_)
  · obtain ⟨a, C, x, y, d, e, S, rfl, _⟩ := h
    rfl
  · obtain ⟨a, C, x, y, d, e, S, rfl, ⟨tail, T, hB, ea, hno⟩, hd, he, hSa, hdep, hdep2, q⟩ := h
    have G : FnOk P w K mg base CX0 (n + 1) fC fdC ["value"] (spCop (n + 1)) := ok_cop cf.F cf.T cf.g cf.b (n + 1)
    refine ⟨_, pss_cons (ps_expr (pe_binit base_LE (by rfl) b.mg (by decide +kernel) b.v (by decide +kernel) (pa_cons (pv 0) (pa_cons (pv 1) (pa_cons (pv 2) pa_nil)))))
      (pss_cons (ps_ostB (pv 0) (pe_call G hr rfl cf.g cf.F.kp cf.b .nil pass0 (pa_cons (pv 1) pa_nil)))
      (pss_one (ps_ostB (pv 0) (pe_call G hr rfl cf.g cf.F.kp cf.b .nil pass0 (pa_cons (pv 2) pa_nil))))), ?_⟩
    refine ⟨_, rfl, _, rfl, _, rfl, a, C, tail, [x, y], rfl, (by show 2 ≤ 1000; decide), T, hB, ea, ?_⟩
    refine ⟨_, rfl, S, x, d, rfl, hd, hdep, fun H4 v' sm dt => ⟨_, rfl, a, C, tail, rfl, T, hno _ (List.mem_cons_self ..), .inl ⟨sm _ _ ea, fun dx n1 ne => ?_⟩⟩⟩
    have nS : Dt S (upd (upd H4 dx (exd dx [("test", v')])) a (exo a C (some dx))) y e := he.strong fun b o hb eo => ⟨hb, but_first sm n1 b o (hSa b hb) eo⟩
    refine ⟨_, rfl, S, y, e, rfl, nS, hdep2, fun H5 w' sm5 dt5 => ⟨_, rfl, a, C, tail, rfl, T, hno _ (List.mem_cons_of_mem _ (List.mem_cons_self ..)), .inr ⟨dx, _, sm5 _ _ upd_same, sm5 _ _ (by rw [upd_ne ne, upd_same]), (by show 1 ≤ 900; decide), ?_⟩⟩⟩
    exact q _ (made_next (by decide +kernel) ea (but_first sm n1) upd_same (by rw [upd_ne ne, upd_same]) (sm.free n1) ne (has_first ea sm dt n1 ne) sm5 dt5)
theorem ok_i6 {n : Nat} {CM fM : Addr} {fdM : FuncData} {dvs : List V} (F : Fun K "__init__" "ParseError.__init__" (inSt 6) f fd) (cf : CopF K mg fC fdC) (gM : mg "MoveError" = some (.ref CM)) (U : UMeth K CM "__init__" fM)
    (FM : FnOk P w K mg base CX0 1 fM fdM ["self", "why"] (spI0 K "ValueError")) (bM : Binds K fdM ["self", "why"] []) : FnOk P w K mg base CX0 (n + 2) f fd ["self", "line"] (spI1 K "ValueError" "line" n) := by
  refine F.ok sc6 (fun vs H Q E h => ?_) (fun cdv A outer s H vs Q E hr h => ?_)
  · obtain ⟨a, C, x, d, S, rfl, _⟩ := h
    rfl
  · obtain ⟨a, C, x, d, S, rfl, ⟨tail, T, hB, ea, hno⟩, hd, hdep, q⟩ := h
    have G : FnOk P w K mg base CX0 (n + 1) fC fdC ["value"] (spCop (n + 1)) := ok_cop cf.F cf.T cf.g cf.b (n + 1)
    refine ⟨_, pss_cons (ps_expr (pe_umeth (pe_glob (v := .ref CM) (by rfl) gM rfl) U (FM.mono (by omega)) hr bM pass0 (pa_cons (pv 0) (pa_cons (pv 1) pa_nil))))
      (pss_one (ps_ostB (pv 0) (pe_call G hr rfl cf.g cf.F.kp cf.b .nil pass0 (pa_cons (pv 1) pa_nil)))), ?_⟩
    refine ⟨rfl, _, rfl, _, rfl, a, C, x, rfl, ⟨tail, T, hB, ea, fun _ z => nomatch z⟩, ?_⟩
    refine ⟨_, rfl, S, x, d, rfl, hd, hdep, fun H4 v' sm dt => ⟨_, rfl, a, C, tail, rfl, T, hno _ (List.mem_cons_self ..), .inl ⟨sm _ _ ea, fun dx n1 ne => ?_⟩⟩⟩
    exact q _ (made_first ea sm dt n1 ne)
end
end OM

namespace OM
open PySem PySem.Spec PyProof.Rows L2
theorem key_reads {h : Heap} {k : Key} {u : Value} (e : keyIs k u = true) : Reads h u (kD k) [] := by
  rcases keyIs_shape e with ⟨i, t, rfl, rfl⟩ | ⟨x, t, rfl, rfl⟩
  · exact .int i t
  · exact .str x t
theorem At.reads {h : Heap} {v : V} {u : Value} {d : PyData} (a : At v d) (r : RelV v u) : Reads h u d [] := by
  cases a with
  | non =>
    obtain rfl : u = Value.none := r
    exact .none
  | bl b =>
    obtain rfl : u = Value.bool b := r
    exact .bool b
  | int i =>
    obtain ⟨t, rfl⟩ : ∃ t, u = Value.int i t := r
    exact .int i t
  | str x =>
    obtain ⟨t, rfl⟩ : ∃ t, u = Value.str x t := r
    exact .str x t
section
variable {P : Program} {w : World} {H : Hp} {h : Heap} {S : Addr → Prop}
mutual
theorem Dt.reads (hok : HOk P w H h) : ∀ {v : V} {d : PyData} {u : Value}, Dt S H v d → RelV v u → ∃ as, Reads h u d as ∧ ∀ b ∈ as, H b ≠ none
  | _, _, _, .at a, r => ⟨[], a.reads r, fun _ z => nomatch z⟩
  | _, _, u, @Dt.lst _ _ a xs ds s e hl hx, r => by
    obtain rfl : u = Value.ref a := r
    obtain ⟨_, its, n, rv, eo⟩ := (show ObjOk P w H h a (.lst xs) from hok a _ e)
    obtain ⟨as, ra, na⟩ := DtAll.reads hok hx rv
    refine ⟨a :: as, .list eo rfl rfl (by simpa using ra), fun b hb => ?_⟩
    rcases List.mem_cons.mp hb with rfl | hb
    · rw [e]
      exact fun z => nomatch z
    · exact na b hb
  | _, _, u, @Dt.tup _ _ a xs ds s e hl hx, r => by
    obtain rfl : u = Value.ref a := r
    obtain ⟨_, its, rv, o, eo, ec, n, ed⟩ := (show ObjOk P w H h a (.tup xs) from hok a _ e)
    obtain ⟨as, ra, na⟩ := DtAll.reads hok hx rv
    exact ⟨as, .tuple eo ec ed (by simpa using ra), na⟩
  | _, _, u, @Dt.dic0 _ _ a s e, r => by
    obtain rfl : u = Value.ref a := r
    obtain ⟨_, _, vs, kv, o, es, ep, eo, ex, ed, ks, ps, _⟩ := (show ObjOk P w H h a (.dK []) from hok a _ e)
    cases kv
    have hes : es.toList = [] := by
      have := ps.length
      simpa using this
    refine ⟨a :: [] ++ [], .dict (kvs := []) eo ex.1 ed (by rw [hes]; exact .nil) (by rw [hes]; exact .nil), fun b hb => ?_⟩
    obtain rfl : b = a := by simpa using hb
    rw [e]
    exact fun z => nomatch z
  | _, _, u, @Dt.dic1 _ _ a k v d s e hd, r => by
    obtain rfl : u = Value.ref a := r
    obtain ⟨_, _, vs, kv, o, es, ep, eo, ex, ed, ks, ps, _⟩ := (show ObjOk P w H h a (.dK [(k, v)]) from hok a _ e)
    cases kv with
    | @cons _ q _ _ hq tl =>
      cases tl
      obtain ⟨ek, rv⟩ := hq
      have key : ∀ l, Pairs (mixKind P w) l [q] → ∃ e1, l = [e1] ∧ (mixKind P w).is q.1 e1.key = true ∧ e1.val = q.2 := fun l p => by
        cases p with
        | cons a b c =>
          cases c
          exact ⟨_, rfl, a, b⟩
      obtain ⟨e1, hes, hk, hv⟩ := key _ ps
      have ek' : k = q.1 := ek
      have hk' : keyIs k e1.key = true := by rw [ek']; exact hk
      have rv' : RelV v e1.val := by rw [hv]; exact rv
      refine ⟨a :: ([] ++ []) ++ ([] ++ []), .dict (kvs := [(kD k, d)]) eo ex.1 ed (by rw [hes]; exact .cons (key_reads hk') .nil) (by rw [hes]; exact .cons (hd.reads rv') .nil), fun b hb => ?_⟩
      obtain rfl : b = a := by simpa using hb
      rw [e]
      exact fun z => nomatch z
theorem DtAll.reads (hok : HOk P w H h) : ∀ {vs : List V} {ds : List PyData} {us : List Value}, DtAll S H vs ds → Vals vs us → ∃ as, ReadsAll h us ds as ∧ ∀ b ∈ as, H b ≠ none
  | _, _, _, .nil, .nil => ⟨[], .nil, fun _ z => nomatch z⟩
  | _, _, _, .cons hd tl, .cons r rs => by
    obtain ⟨as, ra, na⟩ := Dt.reads hok hd r
    obtain ⟨bs, rb, nb⟩ := DtAll.reads hok tl rs
    refine ⟨as ++ bs, .cons ra rb, fun b hb => ?_⟩
    rcases List.mem_append.mp hb with hb | hb
    · exact na b hb
    · exact nb b hb
end
end
/-- repr(x) of a datum -/
def rRep : List V → Hp → VK → Prop := fun xs H Q => ∃ (x : V) (d : PyData) (S : Addr → Prop), xs = [x] ∧ Dt S H x d ∧ d.showable = true ∧ d.depth ≤ 20 ∧ d.shown.length ≤ sizeLine ∧ Q (.str d.shown) H
theorem call_rep {X : Cx} (hg : X.A.guards = some []) (hu : X.A.units + 25 < cLine) (hs : ∃ o, X.base.get? sysModules = some o) : CallR X (.builtin "repr") rRep := by
  intro pins s σ H xs us Q I r h
  obtain ⟨x, d, S, rfl, hd, sh, dep, hz, q⟩ := h
  obtain ⟨u, rfl, ru⟩ := vals1 r
  obtain ⟨hp, g, dr, tk, os⟩ := s
  obtain ⟨as, rd, na⟩ := hd.reads I.hok ru
  obtain ⟨om, hom⟩ := hs
  have hns : sysModules ∉ as := fun z => na _ z (I.bs _ _ hom).2
  have big : ∀ {a : Addr}, u = Value.ref a → wpAny (model X.prog X.w) X.A (call (.builtin "repr") [u]) (EP X pins σ Q) X.xe ⟨hp, g, dr, tk, os⟩ := fun {a} e => by
    subst e
    exact repr_of_reads' rd sh (fun _ => hns) hg (by omega) (fun _ _ z => z) (fun h' u tk2 hk => ⟨.str d.shown, H, I.kept (t' := tk2) hk, ⟨_, rfl⟩, q⟩) hz
  cases hd with
  | «at» h =>
    cases h with
    | non =>
      obtain rfl : u = Value.none := ru
      exact PySem.P.repr_of_none ⟨.str _, H, I.tok _, ⟨_, rfl⟩, q⟩
    | bl b =>
      obtain rfl : u = Value.bool b := ru
      cases b with
      | true => exact PySem.P.repr_of_bool ⟨.str _, H, I.tok _, ⟨_, rfl⟩, q⟩
      | false => exact PySem.P.repr_of_bool ⟨.str _, H, I.tok _, ⟨_, rfl⟩, q⟩
    | int i =>
      obtain ⟨t, rfl⟩ : ∃ t, u = Value.int i t := ru
      have sh' : i.natAbs.log2 < 1920 := by
        unfold PyData.showable at sh
        exact of_decide_eq_true sh
      exact PySem.P.repr_of_int sh' ⟨.str _, H, I.tok _, ⟨_, rfl⟩, q⟩
    | str y =>
      obtain ⟨t, rfl⟩ : ∃ t, u = Value.str y t := ru
      exact PySem.P.repr_of_str ⟨.str _, H, I.tok _, ⟨_, rfl⟩, q⟩ hz
  | lst s e hl h => exact big ru
  | tup s e hl h => exact big ru
  | dic0 s e => exact big ru
  | dic1 s e h => exact big ru
end OM

namespace OM
open PySem PySem.Spec PyProof.Rows L2
/-- a function's promise, wherever no text is being shown around it -/
structure GFn (P : Program) (w : World) (K : PySem.W.Frag) (mg : Str → Option Value) (base : Heap) (n : Nat) (g : Addr) (gd : FuncData) (names : List Str) (sp : Sp) : Prop where
  cnt : ∀ xs H Q E, sp xs H Q E → xs.length = names.length
  go : ∀ (B : Around) (out : List Env) (z : Shared) (H : Hp) (ar : Args) (ws : List Value) (xs : List V) (Q : VK) (E : XK), B.guards = some [] → Room n B → Env0 P w K mg base B out z H → BindsTo z gd ar (names.zip ws) → Vals xs ws → sp xs H Q E →
    codeAny (model P w) B (.call (.ref g) ar) (CR CX0 out P w H z Q E) z
section
variable {P : Program} {w : World} {K : PySem.W.Frag} {mg : Str → Option Value} {base : Heap}
theorem gfn_of {x qual : Str} {st : Stmt} {g : Addr} {gd : FuncData} {N names : List Str} {n : Nat} {sp : Sp} (F : Fun K x qual st g gd) (S : FnScope N names (defScope st)) (cnt : ∀ xs H Q E, sp xs H Q E → xs.length = names.length)
    (bd : ∀ (cv : Value) (B : Around) (out : List Env) (z : Shared) (H : Hp) (xs : List V) (Q : VK) (E : XK), B.guards = some [] → Room n (B.deeper (envOfC qual (defScope st) z.heap.objs.size g cv)) → sp xs H Q E →
      ∃ t, PSs (cxOf CX0 P w K mg base N qual (defScope st) g cv B out z H E).nox (defBody st) t ∧ t { nx := fun _ H' => Q .non H', rt := Q } (start N xs) H) : GFn P w K mg base (n + 1) g gd names sp := by
  obtain ⟨oc, od, kV, doc, pm, an, cv, ct, osl, rfl, lk, hcd⟩ := F.ex
  refine ⟨cnt, fun B out z H ar ws xs Q E hg hr e0 hb rv hs => ?_⟩
  have kz : ∀ b o, base.get? b = some o → z.heap.get? b = some o := fun b o e => (e0.bs b o e).1
  have Kz : K.In z.heap := e0.mod.kin.keeps kz
  have hkinds : ∀ y ∈ names.zip ws, (defScope st).names.lookup y.1 = some .local ∨ ((defScope st).names.lookup y.1 = some .cell ∧ ((cellsFrom (z.heap.objs.size + 1) (defScope st).names []).lookup y.1).isSome = true) := by
    rintro ⟨m, v⟩ hy
    refine (S.par m (List.of_mem_zip hy).1).imp id fun c => ⟨c, PySem.W.cellsFrom_some _ _ _ (.inl c)⟩
  refine codeAny_call_function hr.depth (Kz _ _ lk) rfl S.co S.gen rfl (PySem.W.codeRec_of Kz hcd) (hb _ _ _ _ ?_)
  refine wpAny_newFunctionEnv_cells S.kind hkinds fun ev hev z1 ic => ?_
  subst hev
  refine ⟨(e0.mod.nolimit.keeps kz).keeps ic.toInCall.keep, codeAny_func ?_⟩
  obtain ⟨t, ht, hq⟩ := bd cv B out z H xs Q E hg (hr.deeper _) hs
  refine wpAny_mono (ht.nox.run [] z1 (start N xs) H _ (inv_start (CX := CX0) (E := E) S hr.hd e0 (cnt _ _ _ _ hs) rv ic) hq) (fun fl z2 h2 => ?_) fun _ _ h2 => h2
  cases fl with
  | ret u =>
    obtain ⟨v, σ2, H2, J, r2, q2⟩ := h2
    exact ⟨v, H2, J.os, J.bare, J.base, J.hok, r2, q2⟩
  | next =>
    obtain ⟨σ2, H2, J, q2⟩ := h2
    exact ⟨V.non, H2, J.os, J.bare, J.base, J.hok, (show RelV V.non Value.none from rfl), q2⟩
  | brk =>
    obtain ⟨_, _, _, q2⟩ := h2
    cases q2
  | cont =>
    obtain ⟨_, _, _, q2⟩ := h2
    cases q2
end
section
variable {X : Cx} {n : Nat} {g : Addr} {gd : FuncData} {names : List Str} {sp : Sp} {x : Str} {p pos : Pos} {e : Expr} {es : List Expr} {t : TA}
theorem pe_callG (G : GFn X.prog X.w X.K X.mg X.base n g gd names sp) (hgd : X.A.guards = some []) (hr : Room n X.A) (hg : Gl X x) (hm : X.mg x = some (.ref g)) (hk : PySem.W.keepIn X.K (.ref g) = true) (hb : Binds X.K gd names [])
    (ha : PA X (e :: es) t) (hdb : (x == ("__debug__" : Str)) = false := by decide) (h1 : starEach (e :: es) X.env = (false, eval e X.env) :: starEach es X.env := by rfl) (h2 : (backTo pos (starEach es X.env)).any (·.1) = false := by rfl) :
    PE X (.Call (.Name x p) (e :: es) [] pos) (tCall sp [] E0 t) := by
  refine ⟨fun pins s σ H Q I h => ?_⟩
  refine wpAny_Call_Name_kw (ld_glob I hg hm ?_ hdb)
  refine PySem.W.callWith_K (h₀ := X.base) I.ok.mod.kin hk (thn (ha.run pos pins s σ H _ I h) fun us z ⟨vs, H1, I1, r, q⟩ => ⟨I1.kIn, ?_⟩) h1 h2
  have q0 : sp (vs ++ []) H1 Q E0 := q
  rw [List.append_nil] at q0
  have hl : (us ++ []).length = names.length := by
    rw [List.append_nil, ← r.length]
    exact G.cnt _ _ _ _ q0
  have hbt := hb z us I1.kIn hl
  rw [List.append_nil] at hbt
  show wpAny (model X.prog X.w) X.A (call (.ref g) us) _ _ _
  refine wpAny_call (codeAny_mono (G.go X.A X.stack z H1 ⟨us, []⟩ us vs Q E0 hgd hr I1.env0 hbt r q0) fun res z' hq => ?_)
  match res, hq with
  | .ok (.ret u), hq => exact I1.after hq
  | .error er, hq => exact hq.elim
end
/-- the script is known, or held as it is; nothing else is -/
def Scr (K : PySem.W.Frag) (a : Addr) (H : Hp) : Prop := ∀ b u, H b = some u → b = a ∧ K.lookup a = none ∧ ∃ ob xs, u = HO.frz ob (.lst xs)
theorem run_law {P : Program} {w : World} {K : PySem.W.Frag} {mg mb : Str → Option Value} {n : Nat} {fa a : Addr} {gd : FuncData} {x : Str} {sp : Sp} {z : Shared} {vs : List Value} {H : Hp} (Kz : K.In z.heap) (ng : z.heap.Ns mainGlobals mg) (nb : z.heap.Ns builtinsNs mb)
    (bb : ∀ y : Str, y ≠ "__name__" → mb y = bootBuiltins y) (lim : z.heap.NoLimit) (sm : ∃ mm, z.heap.Ns sysModules mm) (hg : z.gens = #[]) (ha : z.heap.get? a = some { cls := .type "list", data := .seq vs.toArray }) (hr : Room n callerA)
    (F : ∀ base : Heap, K.In base → base.Ns mainGlobals mg → (∃ o, base.get? sysModules = some o) → GFn P w K mg base n fa gd [x] sp) (hbind : ∀ (s : Shared) (u : Value), BindsTo s gd ⟨[u], []⟩ [(x, u)])
    (hS : Scr K a H) (hok : HOk P w H z.heap) (hsp : sp [.ref a] H (fun v _ => v = .bl true) E0) :
    codeAny (model P w) callerA (.call (.ref fa) ⟨[.ref a], []⟩) (fun r z' => r = .ok (.ret (.bool true)) ∧ OldK z.heap z'.heap ∧ z'.os = z.os ∧ AllBare z'.gens) z := by
  have toB : ∀ {b : Addr} {m : Str → Option Value}, z.heap.Ns b m → (hidT z.heap H).Ns b m := by
    rintro b m ⟨o, es, ep, e, d, r⟩
    refine ⟨o, es, ep, hidT_get e ?_, d, r⟩
    cases q : H b with
    | none => rfl
    | some u =>
      obtain ⟨rfl, _⟩ := hS _ _ q
      rw [ha] at e
      cases e
      cases (show Data.seq vs.toArray _ = Data.dict es ep from d)
  have Kb : K.In (hidT z.heap H) := fun b o e => hidT_get (Kz b o e) (by
    cases q : H b with
    | none => rfl
    | some u =>
      obtain ⟨rfl, z0, _⟩ := hS _ _ q
      rw [z0] at e
      cases e)
  have M : Mod K mg (hidT z.heap H) := ⟨Kb, toB ng, ⟨mb, toB nb, bb⟩, by
    obtain ⟨mc, h1, h2⟩ := lim
    exact ⟨mc, toB h1, h2⟩⟩
  have hs : ∃ o, (hidT z.heap H).get? sysModules = some o := by
    obtain ⟨mm, q⟩ := sm
    obtain ⟨o, _, _, e, _⟩ := toB q
    exact ⟨o, e⟩
  have e0 : Env0 P w K mg (hidT z.heap H) callerA [] z H := ⟨rfl, M, fun b o e => of_hidT e, Nat.le_of_eq (hidT_size _ _), trivial, (fun b hb => by cases (show b ∈ ([] : List Addr) from hb)), hok, .of_eq hg⟩
  refine codeAny_mono ((F _ Kb (toB ng) hs).go callerA [] z H ⟨[.ref a], []⟩ [.ref a] [.ref a] _ _ rfl hr e0 (hbind z (.ref a)) (.cons rfl .nil) hsp) fun res z' q => ?_
  match res, q with
  | .error e, q => exact q.elim
  | .ok (.ret u), q =>
    obtain ⟨v, H', os, bare, un, hok', r', q'⟩ := q
    subst q'
    obtain rfl : u = Value.bool true := r'
    refine ⟨rfl, OldK.of_keep fun b o e => ?_, os, bare⟩
    cases y : H b with
    | none => exact un.keep b o e y (fun k => by cases (show b ∈ ([] : List Addr) from k)) (fun k => by cases (show b ∈ ([] : List Addr) from k))
    | some u =>
      obtain ⟨rfl, _, ob, xs, rfl⟩ := hS _ _ y
      have h1 := (hok b _ y).1
      have h2 := (hok' b _ (un.frzs b ob _ y)).1
      rw [e] at h1
      cases h1
      exact h2
theorem walkG {l : PySem.W.OpenLaw} {n k : Nat} {q : Program} {loose : List Str} {XP : (Str → Option Value) → Heap → Prop} {YP : World → Heap → Prop} {d : DefRec} {K : Params → PySem.W.Frag} {sp : PySem.W.Frag → Sp} {x : Str} (hn : l.most = some n) (hn2 : n ≤ sizeLine)
    (hdf : d.params.defaults = []) (hi : importsNone q = true) (hr : Room k callerA) (hY : ∀ (w : World) (h : Heap), YP w h → (K w.params).In h)
    (F : ∀ (w : World) (mg : Str → Option Value) (fa : Addr) (h : Heap), (K w.params).In h → h.Ns mainGlobals mg → mg d.name = some (.ref fa) → ∃ gd : FuncData, (∀ (s : Shared) (u : Value), BindsTo s gd ⟨[u], []⟩ [(x, u)]) ∧
      ∀ base : Heap, (K w.params).In base → base.Ns mainGlobals mg → (∃ o, base.get? sysModules = some o) → GFn l.prog w (K w.params) mg base k fa gd [x] (sp (K w.params)))
    (hsp : ∀ (K : PySem.W.Frag) (H : Hp) (a : Addr) (ns : List Int), ns.length ≤ n → SqL K H a (ns.map V.int) → sp K [.ref a] H (fun v _ => v = .bl true) E0) : PySem.W.WalkO q loose XP YP l.row.toRowW d [] (fun f vs => PySem.call f vs) := by
  refine Att.attach_call hn hdf fun w s₀ z mg mb fa o pm cd doc a vs ns G Y ho hd hcd hmg hobj hints hlen hg => ?_
  have Kz := hY w _ Y
  obtain ⟨gd, hb, hF⟩ := F w mg fa _ Kz G.T.g hmg
  have sm : ∃ mm, z.heap.Ns sysModules mm := by
    obtain ⟨mm, h1, _⟩ := (G.T.seer hi).mods
    exact ⟨mm, h1⟩
  have rv := vals_ints hints
  have hl : (ns.map V.int).length ≤ sizeLine := by
    rw [List.length_map]
    omega
  cases hk : (K w.params).lookup a with
  | some o1 =>
    have e := Kz a o1 hk
    rw [hobj] at e
    cases e
    exact run_law (H := fun _ => none) Kz G.T.g G.T.b G.T.builtins G.T.nolimit sm hg hobj hr hF hb (fun b u y => by cases y) (fun b u y => by cases y)
      (hsp _ _ a ns hlen (.inr ⟨_, vs.toArray, _, hk, rfl, rfl, rfl, by rw [List.size_toArray, ← rv.length]; exact hl, by simpa using rv⟩))
  | none =>
    refine run_law (H := fun b => if b = a then some (.frz { cls := .type "list", data := .seq vs.toArray } (.lst (ns.map V.int))) else none) Kz G.T.g G.T.b G.T.builtins G.T.nolimit sm hg hobj hr hF hb (fun b u y => ?_) (fun b u y => ?_)
      (hsp _ _ a ns hlen (.inl (.inr ⟨{ cls := .type "list", data := .seq vs.toArray }, if_pos rfl⟩)))
    · have y1 : (if b = a then some (HO.frz { cls := .type "list", data := .seq vs.toArray } (.lst (ns.map V.int))) else none) = some u := y
      by_cases hb : b = a
      · rw [if_pos hb] at y1
        cases y1
        subst hb
        exact ⟨rfl, hk, _, _, rfl⟩
      · rw [if_neg hb] at y1
        cases y1
    · have y1 : (if b = a then some (HO.frz { cls := .type "list", data := .seq vs.toArray } (.lst (ns.map V.int))) else none) = some u := y
      by_cases hb : b = a
      · rw [if_pos hb] at y1
        cases y1
        subst hb
        exact ⟨hobj, hl, vs, _, rv, hobj⟩
      · rw [if_neg hb] at y1
        cases y1
end OM

namespace OM
open PySem PySem.Spec PyProof.Rows L2
/-- a datum that can be shown on a short line -/
def Good (d : PyData) : Prop := d.showable = true ∧ d.depth ≤ 2 ∧ d.shown.length ≤ 400
instance (d : PyData) : Decidable (Good d) := inferInstanceAs (Decidable (_ ∧ _ ∧ _))
def things (r : Int) : List PyData := [.none, .bool true, .int 0, .int (-7), .int (10 ^ 11), .str "", .str "a", .str "f(a)", .tuple [.str "a", .str "b"], .tuple [], .list [], .list [.str "a"], .dict [], .dict [(kD (.inr "a"), .int 1)],
  .str (Txt.mul "x" 300), .tuple [.tuple []], .int r, .tuple [.str "bare", .int 0], .tuple [.str "content", .str "x", .int 2]]
theorem good_int : ∀ n : Nat, n < 1000 → Good (.int (n : Int)) := by
  decide +kernel
theorem good_things {r : Int} (h0 : 0 ≤ r) (h1 : r < 1000) : ∀ d ∈ things r, Good d := by
  obtain ⟨n, rfl⟩ : ∃ n : Nat, r = (n : Int) := ⟨r.toNat, by omega⟩
  have hn := good_int n (by omega)
  have a : ∀ d ∈ ([.none, .bool true, .int 0, .int (-7), .int (10 ^ 11), .str "", .str "a", .str "f(a)", .tuple [.str "a", .str "b"], .tuple [], .list [], .list [.str "a"], .dict [], .dict [(kD (.inr "a"), .int 1)],
    .str (Txt.mul "x" 300), .tuple [.tuple []]] : List PyData), Good d := by decide +kernel
  have b : ∀ d ∈ ([.tuple [.str "bare", .int 0], .tuple [.str "content", .str "x", .int 2]] : List PyData), Good d := by decide +kernel
  intro d hd
  have e : things (n : Int) = ([.none, .bool true, .int 0, .int (-7), .int (10 ^ 11), .str "", .str "a", .str "f(a)", .tuple [.str "a", .str "b"], .tuple [], .list [], .list [.str "a"], .dict [], .dict [(kD (.inr "a"), .int 1)],
    .str (Txt.mul "x" 300), .tuple [.tuple []]] : List PyData) ++ PyData.int (n : Int) :: [.tuple [.str "bare", .int 0], .tuple [.str "content", .str "x", .int 2]] := rfl
  rw [e] at hd
  rcases List.mem_append.mp hd with hd | hd
  · exact a d hd
  · rcases List.mem_cons.mp hd with rfl | hd
    · exact hn
    · exact b d hd
end OM

namespace OM
open PySem PySem.Spec PyProof.Rows L2
abbrev sThing : Stmt := top 18
/-- a text taken many times -/
theorem op_mulStr {X : Cx} : OpR X (binaryOp .Mult) (fun x y H Q => ∃ z n, x = .str z ∧ y = .int n ∧ MulOk z n ∧ Q (.str (Txt.mul z n)) H) := by
  intro pins s σ H x y v u Q I rx ry h
  obtain ⟨z, n, rfl, rfl, hok, q⟩ := h
  obtain ⟨t, rfl⟩ := rx
  obtain ⟨t', rfl⟩ := ry
  exact PySem.SB.mul hok fun t' k => ⟨.str _, H, I.tok _, ⟨_, rfl⟩, q⟩
def spThing : Sp := fun vs H Q _ => ∃ d : Addr, vs = [.ref d] ∧ Dice H d ∧ ∀ H' v e, But d H H' → Dice H' d → Dt (fun b => b ≠ d) H' v e → Good e → Q v H'
/-- the functions of the dice, for those that call them -/
structure DiceF (K : PySem.W.Frag) (mg : Str → Option Value) (fR fO : Addr) (fdR fdO : FuncData) : Prop where
  FR : Fun K "_law_roll" "_law_roll" sRoll fR fdR
  FO : Fun K "_law_one_of" "_law_one_of" sOneOf fO fdO
  gR : mg "_law_roll" = some (.ref fR)
  gO : mg "_law_one_of" = some (.ref fO)
  bR : Binds K fdR ["_law_dice_here", "_law_total"] []
  bO : Binds K fdO ["_law_dice_here", "_law_items"] []
  T : TxtD mg
section
variable {P : Program} {w : World} {K : PySem.W.Frag} {mg : Str → Option Value} {base : Heap}
theorem scT : FnScope ["_law_dice_here", "_law_some"] ["_law_dice_here"] (defScope sThing) := ⟨rfl, rfl, rfl, by decide +kernel, rfl, by decide +kernel, by decide +kernel⟩
theorem ok_thing {f fR fO : Addr} {fd fdR fdO : FuncData} (F : Fun K "_law_thing" "_law_thing" sThing f fd) (D : DiceF K mg fR fO fdR fdO) : FnOk P w K mg base CX0 3 f fd ["_law_dice_here"] spThing := by
  have GR : FnOk P w K mg base CX0 2 fR fdR ["_law_dice_here", "_law_total"] spRoll := (ok_roll D.FR D.T).mono (by omega)
  have GO : FnOk P w K mg base CX0 2 fO fdO ["_law_dice_here", "_law_items"] (spOneOf K) := ok_oneof D.FO D.T D.FR D.gR D.bR
  refine F.ok scT (fun vs H Q E h => ?_) (fun cdv A outer s H vs Q E hr h => ?_)
  · obtain ⟨d, rfl, _⟩ := h
    rfl
  · obtain ⟨d, rfl, hd, q⟩ := h
    refine ⟨_, pss_cons (ps_set (i := 1) scT.nd rfl (Or.inl rfl) (pe_lst (pa_cons pe_non (pa_cons pe_bl (pa_cons pe_int (pa_cons (pe_un un_neg pe_int) (pa_cons (pe_op op_pow pe_int pe_int) (pa_cons pe_str (pa_cons pe_str (pa_cons pe_str
        (pa_cons (pe_tup (pa_cons pe_str (pa_cons pe_str pa_nil))) (pa_cons (pe_tup pa_nil) (pa_cons (pe_lst pa_nil) (pa_cons (pe_lst (pa_cons pe_str pa_nil)) (pa_cons pe_dnewK (pa_cons (pe_disp (pps_cons pe_str pe_int pps_nil) rfl rfl (by simp) (by simp))
        (pa_cons (pe_op op_mulStr pe_str pe_int) (pa_cons (pe_tup (pa_cons (pe_tup pa_nil) pa_nil)) pa_nil))))))))))))))))))
      (pss_one (ps_ret (pe_call GO hr rfl D.gO D.FO.kp D.bO .nil pass0 (pa_cons (pv 0) (pa_cons (pe_op op_cat (pv 1) (pe_lst (pa_cons (pe_call GR hr rfl D.gR D.FR.kp D.bR .nil pass0 (pa_cons (pv 0) (pa_cons pe_int pa_nil)))
        (pa_cons (pe_tup (pa_cons pe_str (pa_cons pe_int pa_nil))) (pa_cons (pe_tup (pa_cons pe_str (pa_cons pe_str (pa_cons pe_int pa_nil)))) pa_nil))))) pa_nil))))), ?_⟩
    have z : ∀ n, n ≤ 100 → n ≤ sizeLine := fun n hn => Nat.le_trans hn (by decide)
    refine ⟨7, rfl, 10, 11, rfl, rfl, ⟨by decide, by decide, by decide⟩, z _ (by simp), fun p1 h1 => ⟨z _ (by simp), fun p2 h2 => ⟨z _ (by simp), fun p3 h3 => ⟨z _ (by simp), fun p4 h4 => fun p5 h5 => fun p6 h6 => ⟨upd_same, [(.inr "a", .int 1)], rfl, by simp, ?_⟩⟩⟩⟩⟩
    refine ⟨"x", 300, rfl, rfl, ⟨by decide +kernel, by decide +kernel, by decide +kernel⟩, z _ (by simp), fun p7 h7 => ⟨z _ (by simp), fun p8 h8 => ⟨z _ (by simp), fun p9 h9 => ?_⟩⟩⟩
    obtain ⟨l, m, c, ed⟩ := hd
    have nd : ∀ {K0 : Hp} {p : Addr} {o : HO}, K0 p = none → K0 d = some o → p ≠ d := fun {K0 p o} h e y => by
      rw [y, e] at h
      cases h
    have s1 := same_upd (o := .tup [.str "a", .str "b"]) h1
    have s2 := s1.trans (same_upd (o := .tup []) h2)
    have s3 := s2.trans (same_upd (o := .lst []) h3)
    have s4 := s3.trans (same_upd (o := .lst [.str "a"]) h4)
    have s5 := s4.trans (same_upd (o := .dK []) h5)
    have t6 := same_put (o := .dK (mergeK [] [((Sum.inr "a" : Key), V.int 1)])) h6 (same_upd (o := .dK []) h6)
    have s6 := s5.trans t6
    have s7 := s6.trans (same_upd (o := .tup []) h7)
    have s8 := s7.trans (same_upd (o := .tup [.ref p7]) h8)
    have t9 := same_upd (o := .lst [.non, .bl true, .int 0, .int (-7), .int (10 ^ (11 : Int).toNat), .str "", .str "a", .str "f(a)", .ref p1, .ref p2, .ref p3, .ref p4, .ref p5, .ref p6, .str (Txt.mul "x" 300), .ref p8]) h9
    have s9 := s8.trans t9
    have t8 := (same_upd (o := .tup [.ref p7]) h8).trans t9
    have t7 := (same_upd (o := .tup []) h7).trans t8
    have t6' := t6.trans t7
    have t5 := (same_upd (o := .dK []) h5).trans t6'
    have t4 := (same_upd (o := .lst [.str "a"]) h4).trans t5
    have t3 := (same_upd (o := .lst []) h3).trans t4
    have t2 := (same_upd (o := .tup []) h2).trans t3
    refine ⟨_, rfl, _, rfl, _, rfl, d, 1000, rfl, ⟨l, m, c, s9 _ _ ed⟩, by decide, by decide, fun H' r r0 r1 hb hd' => ⟨z _ (by simp), fun p10 h10 => ⟨z _ (by simp), fun p11 h11 => ⟨z _ (by simp), fun p12 h12 => ?_⟩⟩⟩⟩
    have n9 : p9 ≠ d := nd h9 (s8 _ _ ed)
    obtain ⟨l', m', c', ed'⟩ := hd'
    have v10 := same_upd (o := .tup [.str "bare", .int 0]) h10
    have v11 := v10.trans (same_upd (o := .tup [.str "content", .str "x", .int 2]) h11)
    have v12 := v11.trans (same_upd (o := .lst [.int r, .ref p10, .ref p11]) h12)
    refine ⟨p9, p12, _, _, rfl, rfl, v12 _ _ (hb _ _ n9 upd_same), upd_same, z _ (by simp), fun p13 h13 => ?_⟩
    have v13 := v12.trans (same_upd (o := .lst ([.non, .bl true, .int 0, .int (-7), .int (10 ^ (11 : Int).toNat), .str "", .str "a", .str "f(a)", .ref p1, .ref p2, .ref p3, .ref p4, .ref p5, .ref p6, .str (Txt.mul "x" 300), .ref p8] ++ [.int r, .ref p10, .ref p11])) h13)
    refine ⟨d, p13, _, rfl, ⟨l', m', c', v13 _ _ ed'⟩, SqL.of upd_same, fun _ => nd h13 (v12 _ _ ed'), by simp, by simp, fun H'' i v hv hb2 hd2 => ?_⟩
    have up9 : ∀ p o, p ≠ d → _ = some o → H'' p = some o := fun p o n e => hb2 p o n (v13 _ _ (hb p o n e))
    have w13 := same_upd (o := .lst ([.non, .bl true, .int 0, .int (-7), .int (10 ^ (11 : Int).toNat), .str "", .str "a", .str "f(a)", .ref p1, .ref p2, .ref p3, .ref p4, .ref p5, .ref p6, .str (Txt.mul "x" 300), .ref p8] ++ [.int r, .ref p10, .ref p11])) h13
    have w12 := (same_upd (o := .lst [.int r, .ref p10, .ref p11]) h12).trans w13
    have w11 := (same_upd (o := .tup [.str "content", .str "x", .int 2]) h11).trans w12
    have g2 : ∀ n : Nat, n ≤ 100 → n ≤ 1000 := fun n h => by omega
    have all : DtAll (fun b => b ≠ d) H'' _ (things r) :=
      .cons (.at .non) (.cons (.at (.bl true)) (.cons (.at (.int 0)) (.cons (.at (.int (-7))) (.cons (.at (.int _)) (.cons (.at (.str _)) (.cons (.at (.str _)) (.cons (.at (.str _))
      (.cons (.tup (nd h1 ed) (up9 p1 _ (nd h1 ed) (t2 _ _ upd_same)) (g2 _ (by simp)) (.cons (.at (.str _)) (.cons (.at (.str _)) .nil)))
      (.cons (.tup (nd h2 (s1 _ _ ed)) (up9 p2 _ (nd h2 (s1 _ _ ed)) (t3 _ _ upd_same)) (g2 _ (by simp)) .nil)
      (.cons (.lst (nd h3 (s2 _ _ ed)) (up9 p3 _ (nd h3 (s2 _ _ ed)) (t4 _ _ upd_same)) (g2 _ (by simp)) .nil)
      (.cons (.lst (nd h4 (s3 _ _ ed)) (up9 p4 _ (nd h4 (s3 _ _ ed)) (t5 _ _ upd_same)) (g2 _ (by simp)) (.cons (.at (.str _)) .nil))
      (.cons (.dic0 (nd h5 (s4 _ _ ed)) (up9 p5 _ (nd h5 (s4 _ _ ed)) (t6' _ _ upd_same)))
      (.cons (.dic1 (nd h6 (s5 _ _ ed)) (up9 p6 _ (nd h6 (s5 _ _ ed)) (t7 _ _ upd_same)) (.int 1))
      (.cons (.at (.str _))
      (.cons (.tup (nd h8 (s7 _ _ ed)) (up9 p8 _ (nd h8 (s7 _ _ ed)) (t9 _ _ upd_same)) (g2 _ (by simp)) (.cons (.tup (nd h7 (s6 _ _ ed)) (up9 p7 _ (nd h7 (s6 _ _ ed)) (t8 _ _ upd_same)) (g2 _ (by simp)) .nil) .nil))
      (.cons (.at (.int r))
      (.cons (.tup (nd h10 ed') (hb2 p10 _ (nd h10 ed') (w11 _ _ upd_same)) (g2 _ (by simp)) (.cons (.at (.str _)) (.cons (.at (.int 0)) .nil)))
      (.cons (.tup (nd h11 (v10 _ _ ed')) (hb2 p11 _ (nd h11 (v10 _ _ ed')) (w12 _ _ upd_same)) (g2 _ (by simp)) (.cons (.at (.str _)) (.cons (.at (.str _)) (.cons (.at (.int 2)) .nil)))) .nil))))))))))))))))))
    obtain ⟨e, he, hdt⟩ := all.get hv
    exact q H'' v e (fun b o n eb => up9 b o n (s9 _ _ eb)) hd2 hdt (good_things r0 r1 e (List.mem_of_getElem? he))
end
end OM

namespace OM
open PySem PySem.Spec PyProof.Rows L2
abbrev sSorts : Stmt := top 19
abbrev sKinds : Stmt := top 20
/-- None, or an exception that was made -/
inductive TyN (K : PySem.W.Frag) (H : Hp) : V → Value → Prop where
  | non : TyN K H .non (.type "NoneType")
  | exc {a C : Addr} : ExcC K C → H a = some (exo a C none) → TyN K H (.ref a) (.ref C)
  | excD {a C dx : Addr} {fs : List (Str × V)} : ExcC K C → H a = some (exo a C (some dx)) → H dx = some (exd dx fs) → TyN K H (.ref a) (.ref C)
theorem TyN.ty {K : PySem.W.Frag} {H : Hp} {x : V} {t : Value} (h : TyN K H x t) : TyE K H x t := by
  cases h with
  | non => exact .base (.base .non)
  | exc c e => exact .exc c e
  | excD c e e2 => exact .excD c e e2
theorem TyN.mono {K : PySem.W.Frag} {H H' : Hp} {x : V} {t : Value} (h : TyN K H x t) (s : Same H H') : TyN K H' x t := by
  cases h with
  | non => exact .non
  | exc c e => exact .exc c (s _ _ e)
  | excD c e e2 => exact .excD c (s _ _ e) (s _ _ e2)
/-- the answers to isinstance, one behind the other -/
def Kits (K : PySem.W.Frag) (t : Value) (us : List Value) (bs : List Bool) : Prop := us.map (PySem.W.kitOne K t) = bs.map some
def sorts7 : List Value := [.type "ValueError", .type "KeyError", .type "LookupError", .type "IndexError", .type "RuntimeError", .type "OverflowError", .type "ArithmeticError"]
def spSorts (K : PySem.W.Frag) : Sp := fun vs H Q _ => ∃ (x : V) (t : Value) (bs : List Bool), vs = [x] ∧ TyN K H x t ∧ Kits K t sorts7 bs ∧ ∀ H' p, Same H H' → H p = none → H' p = some (.lst (bs.map V.bl)) → Q (.ref p) H'
/-- the package's own classes -/
structure Cls12 (mg : Str → Option Value) (c0 c1 c2 c3 c4 c5 c6 c7 c8 c9 c10 c11 : Addr) : Prop where
  g0 : mg "MoveError" = some (.ref c0)
  g1 : mg "InvalidValue" = some (.ref c1)
  g2 : mg "InvalidStretch" = some (.ref c2)
  g3 : mg "InvalidProgram" = some (.ref c3)
  g4 : mg "InvalidOperation" = some (.ref c4)
  g5 : mg "ParseError" = some (.ref c5)
  g6 : mg "UnknownName" = some (.ref c6)
  g7 : mg "Unanswered" = some (.ref c7)
  g8 : mg "InvalidNumber" = some (.ref c8)
  g9 : mg "TooMany" = some (.ref c9)
  g10 : mg "NothingToUndo" = some (.ref c10)
  g11 : mg "Refused" = some (.ref c11)
def spKinds (K : PySem.W.Frag) (cs : List Addr) : Sp := fun vs H Q _ => ∃ (x : V) (t : Value) (bs : List Bool), vs = [x] ∧ TyN K H x t ∧ Kits K t (cs.map Value.ref) bs ∧ ∀ H' p, Same H H' → H p = none → H' p = some (.lst (bs.map V.bl)) → Q (.ref p) H'
theorem Kits.cons {K : PySem.W.Frag} {t u : Value} {us : List Value} {bs : List Bool} (h : Kits K t (u :: us) bs) : ∃ b r, bs = b :: r ∧ PySem.W.kitOne K t u = some b ∧ Kits K t us r := by
  cases bs with
  | nil => cases h
  | cons b r =>
    have h' : PySem.W.kitOne K t u :: us.map (PySem.W.kitOne K t) = some b :: r.map some := h
    injection h' with h1 h2
    exact ⟨b, r, rfl, h1, h2⟩
theorem Kits.nil {K : PySem.W.Frag} {t : Value} {bs : List Bool} (h : Kits K t [] bs) : bs = [] := by
  cases bs with
  | nil => rfl
  | cons b r => cases h
theorem isB_te {K : PySem.W.Frag} {σ : L2.St} {i : Nat} {H : Hp} {x c : V} {t u : Value} {b : Bool} {Q : VK} (hv : σ[i]? = some (some x)) (k : ClsV c u) (ty : TyN K H x t) (h : PySem.W.kitOne K t u = some b) (q : Q (.bl b) H) :
    tCB (rIsB K) (tCons (tVar i) (tCons (tC c) tNil)) σ H Q := by
  refine ⟨x, hv, ?_⟩
  exact (show rIsB K [x, c] H Q from ⟨x, c, t, u, b, rfl, k, ty.ty, h, q⟩)
structure TxtS (mg : Str → Option Value) : Prop where
  isi : mg "isinstance" = none
  ve : mg "ValueError" = none
  ke : mg "KeyError" = none
  le : mg "LookupError" = none
  ie : mg "IndexError" = none
  re : mg "RuntimeError" = none
  oe : mg "OverflowError" = none
  ae : mg "ArithmeticError" = none
section
variable {P : Program} {w : World} {K : PySem.W.Frag} {mg : Str → Option Value} {base : Heap} {f : Addr} {fd : FuncData}
theorem scS : FnScope ["_law_e", "_law_found"] ["_law_e"] (defScope sSorts) := ⟨rfl, rfl, rfl, by decide +kernel, rfl, by decide +kernel, by decide +kernel⟩
theorem scK : FnScope ["_law_e", "_law_found"] ["_law_e"] (defScope sKinds) := ⟨rfl, rfl, rfl, by decide +kernel, rfl, by decide +kernel, by decide +kernel⟩
theorem ok_sorts (F : Fun K "_law_sorts" "_law_sorts" sSorts f fd) (T : TxtS mg) : FnOk P w K mg base CX0 1 f fd ["_law_e"] (spSorts K) := by
  refine F.ok scS (fun vs H Q E h => ?_) (fun cdv A outer s H vs Q E hr h => ?_)
  · obtain ⟨x, t, bs, rfl, _⟩ := h
    rfl
  · obtain ⟨x, t, bs, rfl, ty, ks, q⟩ := h
    obtain ⟨b0, bs, rfl, k0, ks⟩ := ks.cons
    obtain ⟨b1, bs, rfl, k1, ks⟩ := ks.cons
    obtain ⟨b2, bs, rfl, k2, ks⟩ := ks.cons
    obtain ⟨b3, bs, rfl, k3, ks⟩ := ks.cons
    obtain ⟨b4, bs, rfl, k4, ks⟩ := ks.cons
    obtain ⟨b5, bs, rfl, k5, ks⟩ := ks.cons
    obtain ⟨b6, bs, rfl, k6, ks⟩ := ks.cons
    obtain rfl := ks.nil
    refine ⟨_, pss_cons (ps_set (i := 1) scS.nd rfl (Or.inl rfl) (pe_lst (pa_cons (pe_callB call_isB (by rfl) T.isi (by decide +kernel) (pa_cons (pv 0) (pa_cons (pe_bltn (v := .ty "ValueError") (u := .type "ValueError") (by rfl) T.ve (by decide +kernel) rfl) pa_nil))) (pa_cons (pe_callB call_isB (by rfl) T.isi (by decide +kernel) (pa_cons (pv 0) (pa_cons (pe_bltn (v := .ty "KeyError") (u := .type "KeyError") (by rfl) T.ke (by decide +kernel) rfl) pa_nil))) (pa_cons (pe_callB call_isB (by rfl) T.isi (by decide +kernel) (pa_cons (pv 0) (pa_cons (pe_bltn (v := .ty "LookupError") (u := .type "LookupError") (by rfl) T.le (by decide +kernel) rfl) pa_nil))) pa_nil)))))
      (pss_cons (ps_set (i := 1) scS.nd rfl (Or.inl rfl) (pe_op op_cat (pv 1) (pe_lst (pa_cons (pe_callB call_isB (by rfl) T.isi (by decide +kernel) (pa_cons (pv 0) (pa_cons (pe_bltn (v := .ty "IndexError") (u := .type "IndexError") (by rfl) T.ie (by decide +kernel) rfl) pa_nil))) (pa_cons (pe_callB call_isB (by rfl) T.isi (by decide +kernel) (pa_cons (pv 0) (pa_cons (pe_bltn (v := .ty "RuntimeError") (u := .type "RuntimeError") (by rfl) T.re (by decide +kernel) rfl) pa_nil))) (pa_cons (pe_callB call_isB (by rfl) T.isi (by decide +kernel) (pa_cons (pv 0) (pa_cons (pe_bltn (v := .ty "OverflowError") (u := .type "OverflowError") (by rfl) T.oe (by decide +kernel) rfl) pa_nil))) pa_nil))))))
      (pss_one (ps_ret (pe_op op_cat (pv 1) (pe_lst (pa_cons (pe_callB call_isB (by rfl) T.isi (by decide +kernel) (pa_cons (pv 0) (pa_cons (pe_bltn (v := .ty "ArithmeticError") (u := .type "ArithmeticError") (by rfl) T.ae (by decide +kernel) rfl) pa_nil))) pa_nil)))))), ?_⟩
    have z : ∀ n, n ≤ 100 → n ≤ sizeLine := fun n hn => Nat.le_trans hn (by decide)
    refine isB_te (x := x) rfl (.ty _) ty k0 (isB_te (x := x) rfl (.ty _) ty k1 (isB_te (x := x) rfl (.ty _) ty k2 ⟨z _ (by simp), fun p1 h1 => ?_⟩))
    have s1 := same_upd (o := .lst [.bl b0, .bl b1, .bl b2]) h1
    have ty1 := ty.mono s1
    refine ⟨_, rfl, isB_te (x := x) rfl (.ty _) ty1 k3 (isB_te (x := x) rfl (.ty _) ty1 k4 (isB_te (x := x) rfl (.ty _) ty1 k5 ⟨z _ (by simp), fun p2 h2 => ?_⟩))⟩
    have s2 := same_upd (o := .lst [.bl b3, .bl b4, .bl b5]) h2
    refine ⟨p1, p2, _, _, rfl, rfl, s2 _ _ upd_same, upd_same, z _ (by simp), fun p3 h3 => ?_⟩
    have s3 := same_upd (o := .lst ([.bl b0, .bl b1, .bl b2] ++ [.bl b3, .bl b4, .bl b5])) h3
    have ty3 := ((ty1.mono s2).mono s3)
    refine ⟨_, rfl, isB_te (x := x) rfl (.ty _) ty3 k6 ⟨z _ (by simp), fun p4 h4 => ?_⟩⟩
    have s4 := same_upd (o := .lst [.bl b6]) h4
    refine ⟨p3, p4, _, _, rfl, rfl, s4 _ _ upd_same, upd_same, z _ (by simp), fun p5 h5 => ?_⟩
    have s := ((s1.trans s2).trans s3).trans s4
    exact q _ p5 (s.trans (same_upd h5)) (s.free h5) upd_same
theorem ok_kinds {c0 c1 c2 c3 c4 c5 c6 c7 c8 c9 c10 c11 : Addr} (F : Fun K "_law_kinds" "_law_kinds" sKinds f fd) (T : TxtS mg) (C : Cls12 mg c0 c1 c2 c3 c4 c5 c6 c7 c8 c9 c10 c11) : FnOk P w K mg base CX0 1 f fd ["_law_e"] (spKinds K [c0, c1, c2, c3, c4, c5, c6, c7, c8, c9, c10, c11]) := by
  refine F.ok scK (fun vs H Q E h => ?_) (fun cdv A outer s H vs Q E hr h => ?_)
  · obtain ⟨x, t, bs, rfl, _⟩ := h
    rfl
  · obtain ⟨x, t, bs, rfl, ty, ks, q⟩ := h
    obtain ⟨b0, bs, rfl, k0, ks⟩ := ks.cons
    obtain ⟨b1, bs, rfl, k1, ks⟩ := ks.cons
    obtain ⟨b2, bs, rfl, k2, ks⟩ := ks.cons
    obtain ⟨b3, bs, rfl, k3, ks⟩ := ks.cons
    obtain ⟨b4, bs, rfl, k4, ks⟩ := ks.cons
    obtain ⟨b5, bs, rfl, k5, ks⟩ := ks.cons
    obtain ⟨b6, bs, rfl, k6, ks⟩ := ks.cons
    obtain ⟨b7, bs, rfl, k7, ks⟩ := ks.cons
    obtain ⟨b8, bs, rfl, k8, ks⟩ := ks.cons
    obtain ⟨b9, bs, rfl, k9, ks⟩ := ks.cons
    obtain ⟨b10, bs, rfl, k10, ks⟩ := ks.cons
    obtain ⟨b11, bs, rfl, k11, ks⟩ := ks.cons
    obtain rfl := ks.nil
    refine ⟨_, pss_cons (ps_set (i := 1) scK.nd rfl (Or.inl rfl) (pe_lst (pa_cons (pe_callB call_isB (by rfl) T.isi (by decide +kernel) (pa_cons (pv 0) (pa_cons (pe_glob (v := .ref _) (by rfl) C.g0 rfl) pa_nil))) (pa_cons (pe_callB call_isB (by rfl) T.isi (by decide +kernel) (pa_cons (pv 0) (pa_cons (pe_glob (v := .ref _) (by rfl) C.g1 rfl) pa_nil))) (pa_cons (pe_callB call_isB (by rfl) T.isi (by decide +kernel) (pa_cons (pv 0) (pa_cons (pe_glob (v := .ref _) (by rfl) C.g2 rfl) pa_nil))) pa_nil)))))
      (pss_cons (ps_set (i := 1) scK.nd rfl (Or.inl rfl) (pe_op op_cat (pv 1) (pe_lst (pa_cons (pe_callB call_isB (by rfl) T.isi (by decide +kernel) (pa_cons (pv 0) (pa_cons (pe_glob (v := .ref _) (by rfl) C.g3 rfl) pa_nil))) (pa_cons (pe_callB call_isB (by rfl) T.isi (by decide +kernel) (pa_cons (pv 0) (pa_cons (pe_glob (v := .ref _) (by rfl) C.g4 rfl) pa_nil))) (pa_cons (pe_callB call_isB (by rfl) T.isi (by decide +kernel) (pa_cons (pv 0) (pa_cons (pe_glob (v := .ref _) (by rfl) C.g5 rfl) pa_nil))) pa_nil))))))
      (pss_cons (ps_set (i := 1) scK.nd rfl (Or.inl rfl) (pe_op op_cat (pv 1) (pe_lst (pa_cons (pe_callB call_isB (by rfl) T.isi (by decide +kernel) (pa_cons (pv 0) (pa_cons (pe_glob (v := .ref _) (by rfl) C.g6 rfl) pa_nil))) (pa_cons (pe_callB call_isB (by rfl) T.isi (by decide +kernel) (pa_cons (pv 0) (pa_cons (pe_glob (v := .ref _) (by rfl) C.g7 rfl) pa_nil))) (pa_cons (pe_callB call_isB (by rfl) T.isi (by decide +kernel) (pa_cons (pv 0) (pa_cons (pe_glob (v := .ref _) (by rfl) C.g8 rfl) pa_nil))) pa_nil))))))
      (pss_one (ps_ret (pe_op op_cat (pv 1) (pe_lst (pa_cons (pe_callB call_isB (by rfl) T.isi (by decide +kernel) (pa_cons (pv 0) (pa_cons (pe_glob (v := .ref _) (by rfl) C.g9 rfl) pa_nil))) (pa_cons (pe_callB call_isB (by rfl) T.isi (by decide +kernel) (pa_cons (pv 0) (pa_cons (pe_glob (v := .ref _) (by rfl) C.g10 rfl) pa_nil))) (pa_cons (pe_callB call_isB (by rfl) T.isi (by decide +kernel) (pa_cons (pv 0) (pa_cons (pe_glob (v := .ref _) (by rfl) C.g11 rfl) pa_nil))) pa_nil))))))))), ?_⟩
    have z : ∀ n, n ≤ 100 → n ≤ sizeLine := fun n hn => Nat.le_trans hn (by decide)
    refine isB_te (x := x) rfl (.own _) ty k0 (isB_te (x := x) rfl (.own _) ty k1 (isB_te (x := x) rfl (.own _) ty k2 ⟨z _ (by simp), fun p1 h1 => ?_⟩))
    have s1 := same_upd (o := .lst [.bl b0, .bl b1, .bl b2]) h1
    have ty1 := ty.mono s1
    refine ⟨_, rfl, isB_te (x := x) rfl (.own _) ty1 k3 (isB_te (x := x) rfl (.own _) ty1 k4 (isB_te (x := x) rfl (.own _) ty1 k5 ⟨z _ (by simp), fun p2 h2 => ?_⟩))⟩
    have s2 := same_upd (o := .lst [.bl b3, .bl b4, .bl b5]) h2
    refine ⟨p1, p2, _, _, rfl, rfl, s2 _ _ upd_same, upd_same, z _ (by simp), fun p3 h3 => ?_⟩
    have s3 := same_upd (o := .lst ([.bl b0, .bl b1, .bl b2] ++ [.bl b3, .bl b4, .bl b5])) h3
    have ty3 := ((ty1.mono s2).mono s3)
    refine ⟨_, rfl, isB_te (x := x) rfl (.own _) ty3 k6 (isB_te (x := x) rfl (.own _) ty3 k7 (isB_te (x := x) rfl (.own _) ty3 k8 ⟨z _ (by simp), fun p4 h4 => ?_⟩))⟩
    have s4 := same_upd (o := .lst [.bl b6, .bl b7, .bl b8]) h4
    refine ⟨p3, p4, _, _, rfl, rfl, s4 _ _ upd_same, upd_same, z _ (by simp), fun p5 h5 => ?_⟩
    have s5 := same_upd (o := .lst ([.bl b0, .bl b1, .bl b2] ++ [.bl b3, .bl b4, .bl b5] ++ [.bl b6, .bl b7, .bl b8])) h5
    have ty5 := ((ty3.mono s4).mono s5)
    refine ⟨_, rfl, isB_te (x := x) rfl (.own _) ty5 k9 (isB_te (x := x) rfl (.own _) ty5 k10 (isB_te (x := x) rfl (.own _) ty5 k11 ⟨z _ (by simp), fun p6 h6 => ?_⟩))⟩
    have s6 := same_upd (o := .lst [.bl b9, .bl b10, .bl b11]) h6
    refine ⟨p5, p6, _, _, rfl, rfl, s6 _ _ upd_same, upd_same, z _ (by simp), fun p7 h7 => ?_⟩
    have s := ((((s1.trans s2).trans s3).trans s4).trans s5).trans s6
    exact q _ p7 (s.trans (same_upd h7)) (s.free h7) upd_same
end
end OM

namespace OM
open PySem PySem.Spec PyProof.Rows L2
abbrev sRaise : Stmt := top 21
/-- a class of the package, as it is made -/
structure KCls (K : PySem.W.Frag) (C fI : Addr) (B : String) (fs : List Str) : Prop where
  made : ∃ tail, MkB K C fI tail ∧ tail.contains (.type B) = true
  no : ∀ f ∈ fs, PySem.W.findIn K (.ref C) f = some none
theorem KCls.raw {K : PySem.W.Frag} {C fI a : Addr} {B : String} {fs : List Str} {H : Hp} (k : KCls K C fI B fs) (e : H a = some (exo a C none)) : Raw K B fs a C H := by
  obtain ⟨tail, M, hB⟩ := k.made
  exact ⟨tail, M.T, hB, e, k.no⟩
/-- all classes, and what makes them -/
structure ClsP (P : Program) (w : World) (K : PySem.W.Frag) (mg : Str → Option Value) (base : Heap) (n : Nat) (c f : Nat → Addr) (fd : Nat → FuncData) : Prop where
  g : Cls12 mg (c 0) (c 1) (c 2) (c 3) (c 4) (c 5) (c 6) (c 7) (c 8) (c 9) (c 10) (c 11)
  k0 : KCls K (c 0) (f 0) "ValueError" []
  k1 : KCls K (c 1) (f 0) "ValueError" []
  k2 : KCls K (c 2) (f 0) "ValueError" []
  k3 : KCls K (c 3) (f 0) "ValueError" []
  k4 : KCls K (c 4) (f 0) "ValueError" []
  k5 : KCls K (c 5) (f 5) "ValueError" ["line"]
  k6 : KCls K (c 6) (f 6) "KeyError" ["name"]
  k7 : KCls K (c 7) (f 7) "LookupError" ["test", "value"]
  k8 : KCls K (c 8) (f 8) "RuntimeError" ["value"]
  k9 : KCls K (c 9) (f 9) "OverflowError" ["limit"]
  k10 : KCls K (c 10) (f 10) "IndexError" ["many"]
  k11 : KCls K (c 11) (f 11) "ArithmeticError" ["reason"]
  i0 : FnOk P w K mg base CX0 (n + 2) (f 0) (fd 0) ["self", "why"] (spI0 K "ValueError")
  i5 : FnOk P w K mg base CX0 (n + 2) (f 5) (fd 5) ["self", "line"] (spI1 K "ValueError" "line" n)
  i6 : FnOk P w K mg base CX0 (n + 2) (f 6) (fd 6) ["self", "name"] (spI1 K "KeyError" "name" n)
  i7 : FnOk P w K mg base CX0 (n + 2) (f 7) (fd 7) ["self", "test", "value"] (spI2 K "LookupError" "test" "value" n)
  i8 : FnOk P w K mg base CX0 (n + 2) (f 8) (fd 8) ["self", "value"] (spI1 K "RuntimeError" "value" n)
  i9 : FnOk P w K mg base CX0 (n + 2) (f 9) (fd 9) ["self", "limit"] (spI1 K "OverflowError" "limit" n)
  i10 : FnOk P w K mg base CX0 (n + 2) (f 10) (fd 10) ["self", "many"] (spI1 K "IndexError" "many" n)
  i11 : FnOk P w K mg base CX0 (n + 2) (f 11) (fd 11) ["self", "reason"] (spI1 K "ArithmeticError" "reason" n)
  b0 : Binds K (fd 0) ["self", "why"] []
  b0d : ∃ ds, Vals [.str ""] ds ∧ Binds K (fd 0) ["self", "why"] ds
  b5 : Binds K (fd 5) ["self", "line"] []
  b6 : Binds K (fd 6) ["self", "name"] []
  b7 : Binds K (fd 7) ["self", "test", "value"] []
  b8 : Binds K (fd 8) ["self", "value"] []
  b9 : Binds K (fd 9) ["self", "limit"] []
  b10 : Binds K (fd 10) ["self", "many"] []
  b11 : Binds K (fd 11) ["self", "reason"] []
/-- what is let out -/
def OutN (E : XK) (C : Addr) (H : Hp) : Prop := ∀ H', Same H H' → E (.ref C) none H'
def OutD (E : XK) (C : Addr) (H : Hp) (fds : List (Str × PyData)) : Prop := ∀ H' dx fs, Same H H' → H dx = none → H' dx = some (.xd fs) → Has H H' dx dx fs fds → E (.ref C) (some dx) H'
def spRaise (c : Nat → Addr) (n : Nat) : Sp := fun vs H _ E => ∃ (k : Int) (v v2 : V) (S : Addr → Prop) (d e : PyData), vs = [.int k, v, v2] ∧ Dt S H v d ∧ Dt S H v2 e ∧ d.depth ≤ n ∧ e.depth ≤ n ∧
  (k = 1 → OutN E (c 1) H) ∧ (k = 2 → OutN E (c 2) H) ∧ (k = 3 → OutN E (c 3) H) ∧ (k = 4 → OutN E (c 4) H) ∧ (k = 5 → OutD E (c 5) H [("line", d)]) ∧ (k = 6 → OutD E (c 6) H [("name", d)]) ∧ (k = 7 → OutD E (c 7) H [("test", d), ("value", e)]) ∧
  (k = 8 → OutD E (c 8) H [("value", d)]) ∧ (k = 9 → OutD E (c 9) H [("limit", d)]) ∧ (k = 10 → OutD E (c 10) H [("many", d)]) ∧ (k = 11 → OutD E (c 11) H [("reason", d)]) ∧ (k < 1 ∨ 11 < k → OutN E (c 0) H)
theorem same_del {H : Hp} {a : Addr} {o : HO} (h : H a = none) : Same H (del (upd H a o) a) := fun b u e => by
  have nb := ne_of_none e h
  rw [del_ne nb, upd_ne nb]
  exact e
/-- what was made, as it is raised -/
theorem mkR_of {E : XK} {H H2 : Hp} {a C : Addr} {fds : List (Str × PyData)} (h : H a = none) (M : Made (upd H a (exo a C none)) a C fds H2) (q : OutD E C H fds) : MkR C H E a H2 := by
  obtain ⟨bt, dx, fs, ea, ed, hdx, ne, hl, hs⟩ := M
  rw [upd_ne ne] at hdx
  refine .inr ⟨dx, fs, ea, ed, hdx, q _ dx fs (fun b o e => ?_) hdx upd_same (fun f d hf => ?_)⟩
  · rw [upd_ne (ne_of_none e hdx), del_ne (ne_of_none e h)]
    exact bt b o (ne_of_none e h) (by rw [upd_ne (ne_of_none e h)]; exact e)
  · obtain ⟨v, e1, e2⟩ := hs f d hf
    refine ⟨v, e1, e2.strong fun b o hb eo => ?_⟩
    have nb : b ≠ a := fun z => by
      rw [z, upd_same] at hb
      exact nomatch hb.1
    refine ⟨⟨by rw [← upd_ne nb (H := H)]; exact hb.1, hb.2⟩, ?_⟩
    rw [upd_ne hb.2, del_ne nb]
    exact eo
section
variable {P : Program} {w : World} {K : PySem.W.Frag} {mg : Str → Option Value} {base : Heap} {g : Addr} {gd : FuncData} {n : Nat} {c f : Nat → Addr} {fd : Nat → FuncData}
theorem mk0 {E : XK} {H : Hp} {C fI : Addr} {x : V} (k : KCls K C fI "ValueError" []) (q : OutN E C H) : [x].length ≤ 1000 ∧ ∀ a, H a = none → spI0 K "ValueError" (.ref a :: ([x] ++ [])) (upd H a (exo a C none)) (fun v H2 => v = .non ∧ MkR C H E a H2) E0 :=
  ⟨(by show 1 ≤ 1000; decide), fun a h => ⟨a, C, x, rfl, k.raw upd_same, rfl, .inl ⟨upd_same, q _ (same_del h)⟩⟩⟩
theorem mk1 {E : XK} {H : Hp} {C fI : Addr} {x : V} {B : String} {fl : Str} {d : PyData} {S : Addr → Prop} (k : KCls K C fI B [fl]) (hd : Dt S H x d) (hn : d.depth ≤ n) (q : OutD E C H [(fl, d)]) :
    [x].length ≤ 1000 ∧ ∀ a, H a = none → spI1 K B fl n (.ref a :: ([x] ++ [])) (upd H a (exo a C none)) (fun v H2 => v = .non ∧ MkR C H E a H2) E0 :=
  ⟨(by show 1 ≤ 1000; decide), fun a h => ⟨a, C, x, d, S, rfl, k.raw upd_same, hd.mv (fun _ z => z) (fun b o _ e => same_upd h b o e), hn, fun H2 M => ⟨rfl, mkR_of h M q⟩⟩⟩
theorem mk2 {E : XK} {H : Hp} {C fI : Addr} {x y : V} {B : String} {fl gl : Str} {d e : PyData} {S : Addr → Prop} (k : KCls K C fI B [fl, gl]) (hd : Dt S H x d) (he : Dt S H y e) (hn : d.depth ≤ n) (hm : e.depth ≤ n) (q : OutD E C H [(fl, d), (gl, e)]) :
    [x, y].length ≤ 1000 ∧ ∀ a, H a = none → spI2 K B fl gl n (.ref a :: ([x, y] ++ [])) (upd H a (exo a C none)) (fun v H2 => v = .non ∧ MkR C H E a H2) E0 := by
  refine ⟨(by show 2 ≤ 1000; decide), fun a h => ?_⟩
  have st : ∀ {z : V} {t : PyData}, Dt S H z t → Dt (fun b => b ≠ a) (upd H a (exo a C none)) z t := fun {z t} hz => hz.strong fun b o _ eo => ⟨ne_of_none eo h, same_upd h b o eo⟩
  exact ⟨a, C, x, y, d, e, fun b => b ≠ a, rfl, k.raw upd_same, st hd, st he, fun _ z => z, hn, hm, fun H2 M => ⟨rfl, mkR_of h M q⟩⟩
theorem scRs : FnScope ["_law_kind", "_law_one", "_law_other"] ["_law_kind", "_law_one", "_law_other"] (defScope sRaise) := ⟨rfl, rfl, rfl, by decide +kernel, rfl, by decide +kernel, by decide +kernel⟩
theorem ok_raise (F : Fun K "_law_raise" "_law_raise" sRaise g gd) (C : ClsP P w K mg base n c f fd) : FnOk P w K mg base (L2.CX P w) (n + 4) g gd ["_law_kind", "_law_one", "_law_other"] (spRaise c n) := by
  refine F.okX scRs (fun vs H Q E h => ?_) (fun cdv A outer s H vs Q E hr h => ?_)
  · obtain ⟨k, v, v2, S, d, e, rfl, _⟩ := h
    rfl
  · obtain ⟨k, v, v2, S, d, e, rfl, hd, he, hdn, hen, q1, q2, q3, q4, q5, q6, q7, q8, q9, q10, q11, q0⟩ := h
    refine ⟨_, pss_cons (ps_if (pt_cmpR op_eq (pv 0) pe_int (nomark _)) (pss_one (ps_raise rfl (takes_of rfl rfl rfl rfl) (pmk_B (Classical.choose_spec (C.k1).made).1 C.i0 hr (by rfl) C.g.g1 C.b0 .nil pass0 (pa_cons (pv 1) pa_nil)))) pss_nil)
      (pss_cons (ps_if (pt_cmpR op_eq (pv 0) pe_int (nomark _)) (pss_one (ps_raise rfl (takes_of rfl rfl rfl rfl) (pmk_B (Classical.choose_spec (C.k2).made).1 C.i0 hr (by rfl) C.g.g2 C.b0 .nil pass0 (pa_cons (pv 1) pa_nil)))) pss_nil)
      (pss_cons (ps_if (pt_cmpR op_eq (pv 0) pe_int (nomark _)) (pss_one (ps_raise rfl (takes_of rfl rfl rfl rfl) (pmk_B (Classical.choose_spec (C.k3).made).1 C.i0 hr (by rfl) C.g.g3 C.b0 .nil pass0 (pa_cons (pv 1) pa_nil)))) pss_nil)
      (pss_cons (ps_if (pt_cmpR op_eq (pv 0) pe_int (nomark _)) (pss_one (ps_raise rfl (takes_of rfl rfl rfl rfl) (pmk_B (Classical.choose_spec (C.k4).made).1 C.i0 hr (by rfl) C.g.g4 C.b0 .nil pass0 (pa_cons (pv 1) pa_nil)))) pss_nil)
      (pss_cons (ps_if (pt_cmpR op_eq (pv 0) pe_int (nomark _)) (pss_one (ps_raise rfl (takes_of rfl rfl rfl rfl) (pmk_B (Classical.choose_spec (C.k5).made).1 C.i5 hr (by rfl) C.g.g5 C.b5 .nil pass0 (pa_cons (pv 1) pa_nil)))) pss_nil)
      (pss_cons (ps_if (pt_cmpR op_eq (pv 0) pe_int (nomark _)) (pss_one (ps_raise rfl (takes_of rfl rfl rfl rfl) (pmk_B (Classical.choose_spec (C.k6).made).1 C.i6 hr (by rfl) C.g.g6 C.b6 .nil pass0 (pa_cons (pv 1) pa_nil)))) pss_nil)
      (pss_cons (ps_if (pt_cmpR op_eq (pv 0) pe_int (nomark _)) (pss_one (ps_raise rfl (takes_of rfl rfl rfl rfl) (pmk_B (Classical.choose_spec C.k7.made).1 C.i7 hr (by rfl) C.g.g7 C.b7 .nil pass0 (pa_cons (pv 1) (pa_cons (pv 2) pa_nil))))) pss_nil)
      (pss_cons (ps_if (pt_cmpR op_eq (pv 0) pe_int (nomark _)) (pss_one (ps_raise rfl (takes_of rfl rfl rfl rfl) (pmk_B (Classical.choose_spec (C.k8).made).1 C.i8 hr (by rfl) C.g.g8 C.b8 .nil pass0 (pa_cons (pv 1) pa_nil)))) pss_nil)
      (pss_cons (ps_if (pt_cmpR op_eq (pv 0) pe_int (nomark _)) (pss_one (ps_raise rfl (takes_of rfl rfl rfl rfl) (pmk_B (Classical.choose_spec (C.k9).made).1 C.i9 hr (by rfl) C.g.g9 C.b9 .nil pass0 (pa_cons (pv 1) pa_nil)))) pss_nil)
      (pss_cons (ps_if (pt_cmpR op_eq (pv 0) pe_int (nomark _)) (pss_one (ps_raise rfl (takes_of rfl rfl rfl rfl) (pmk_B (Classical.choose_spec (C.k10).made).1 C.i10 hr (by rfl) C.g.g10 C.b10 .nil pass0 (pa_cons (pv 1) pa_nil)))) pss_nil)
      (pss_cons (ps_if (pt_cmpR op_eq (pv 0) pe_int (nomark _)) (pss_one (ps_raise rfl (takes_of rfl rfl rfl rfl) (pmk_B (Classical.choose_spec (C.k11).made).1 C.i11 hr (by rfl) C.g.g11 C.b11 .nil pass0 (pa_cons (pv 1) pa_nil)))) pss_nil)
      (pss_one (ps_raise rfl (takes_of rfl rfl rfl rfl) (pmk_B (Classical.choose_spec (C.k0).made).1 C.i0 hr (by rfl) C.g.g0 C.b0 .nil pass0 (pa_cons (pv 1) pa_nil)))))))))))))), ?_⟩
    have yes : ∀ {j : Int}, decide (V.int k = V.int j) = true → k = j := fun {j} h => V.int.inj (of_decide_eq_true h)
    have no : ∀ {j : Int}, ¬ decide (V.int k = V.int j) = true → k ≠ j := fun {j} h z => h (decide_eq_true (congrArg V.int z))
    refine ⟨_, rfl, rfl, _, rfl, ite2 (fun h1 => ⟨_, rfl, mk0 C.k1 (q1 (yes h1))⟩) (fun n1 => ?_)⟩
    refine ⟨_, rfl, rfl, _, rfl, ite2 (fun h1 => ⟨_, rfl, mk0 C.k2 (q2 (yes h1))⟩) (fun n2 => ?_)⟩
    refine ⟨_, rfl, rfl, _, rfl, ite2 (fun h1 => ⟨_, rfl, mk0 C.k3 (q3 (yes h1))⟩) (fun n3 => ?_)⟩
    refine ⟨_, rfl, rfl, _, rfl, ite2 (fun h1 => ⟨_, rfl, mk0 C.k4 (q4 (yes h1))⟩) (fun n4 => ?_)⟩
    refine ⟨_, rfl, rfl, _, rfl, ite2 (fun h1 => ⟨_, rfl, mk1 C.k5 hd hdn (q5 (yes h1))⟩) (fun n5 => ?_)⟩
    refine ⟨_, rfl, rfl, _, rfl, ite2 (fun h1 => ⟨_, rfl, mk1 C.k6 hd hdn (q6 (yes h1))⟩) (fun n6 => ?_)⟩
    refine ⟨_, rfl, rfl, _, rfl, ite2 (fun h1 => ⟨_, rfl, _, rfl, mk2 C.k7 hd he hdn hen (q7 (yes h1))⟩) (fun n7 => ?_)⟩
    refine ⟨_, rfl, rfl, _, rfl, ite2 (fun h1 => ⟨_, rfl, mk1 C.k8 hd hdn (q8 (yes h1))⟩) (fun n8 => ?_)⟩
    refine ⟨_, rfl, rfl, _, rfl, ite2 (fun h1 => ⟨_, rfl, mk1 C.k9 hd hdn (q9 (yes h1))⟩) (fun n9 => ?_)⟩
    refine ⟨_, rfl, rfl, _, rfl, ite2 (fun h1 => ⟨_, rfl, mk1 C.k10 hd hdn (q10 (yes h1))⟩) (fun n10 => ?_)⟩
    refine ⟨_, rfl, rfl, _, rfl, ite2 (fun h1 => ⟨_, rfl, mk1 C.k11 hd hdn (q11 (yes h1))⟩) (fun n11 => ?_)⟩
    have z : k < 1 ∨ 11 < k := by
      have := no n1; have := no n2; have := no n3; have := no n4; have := no n5; have := no n6; have := no n7; have := no n8; have := no n9; have := no n10; have := no n11
      omega
    exact ⟨_, rfl, mk0 C.k0 (q0 z)⟩
end
end OM

namespace OM
open PySem PySem.Spec PyProof.Rows L2
abbrev sCaught : Stmt := top 22
abbrev sByBase : Stmt := top 23
/-- class i is a class j -/
def sub12 (i j : Nat) : Bool := decide (j = i) || (decide (j = 0) && decide (i < 6))
def srt7 (i : Nat) : List Bool := if i < 6 then [true, false, false, false, false, false, false] else if i = 6 then [false, true, true, false, false, false, false] else if i = 7 then [false, false, true, false, false, false, false]
  else if i = 8 then [false, false, false, false, true, false, false] else if i = 9 then [false, false, false, false, false, true, true] else if i = 10 then [false, false, true, true, false, false, false] else [false, false, false, false, false, false, true]
structure ClsX (K : PySem.W.Frag) (c : Nat → Addr) : Prop where
  xf : ∀ i, i < 12 → XfC K (c i)
  xc : ∀ i, i < 12 → ExcC K (c i)
  ex : ∀ i j, i < 12 → j < 12 → PySem.W.exmOne K (.ref (c i)) (.ref (c j)) = some (sub12 i j)
  kt : ∀ i j, i < 12 → j < 12 → PySem.W.kitOne K (.ref (c i)) (.ref (c j)) = some (sub12 i j)
  ks : ∀ i, i < 12 → Kits K (.ref (c i)) sorts7 (srt7 i)
  kn : Kits K (.type "NoneType") sorts7 [false, false, false, false, false, false, false]
theorem any_of {K : PySem.W.Frag} {t u : Value} {us : List Value} {b d : Bool} (h : PySem.W.exmOne K t u = some b) (r : PySem.W.exmAny K t us = some d) : PySem.W.exmAny K t (u :: us) = some (b || d) := by
  unfold PySem.W.exmAny
  rw [h, r]
section
variable {Wout : WX} {D : Ends} {ok : Value → Bool → Prop} {sl : Option Nat} {ts : Addr → Value → Option Addr → TS} {r : List Cl} {cls : Value} {d : Option Addr} {σ : L2.St} {H : Hp}
theorem wt_no (h : ok cls false) (q : wTry Wout D r cls d σ H) : wTry Wout D ((ok, sl, ts) :: r) cls d σ H := by
  cases sl with
  | none => exact ⟨false, h, fun z => (nomatch z), fun _ => q⟩
  | some i => exact ⟨false, h, fun z => (nomatch z), fun _ => q⟩
theorem wt_yes (h : ok cls true) (q : ∀ a, H a = none → ts a cls d D σ H) : wTry Wout D ((ok, none, ts) :: r) cls d σ H := ⟨true, h, fun _ => q, fun z => (nomatch z)⟩
theorem wt_as {i : Nat} (h : ok cls true) (q : ∀ a, H a = none → ts a cls d (offD D i) (σ.set i (some (.ref a))) H) : wTry Wout D ((ok, some i, ts) :: r) cls d σ H := ⟨true, h, fun _ => q, fun z => (nomatch z)⟩
end
def due (k : Int) (d e : PyData) : PyData := if k < 5 then .int k else if k = 7 then .list [d, e] else d
def spCaught (n : Nat) : Sp := fun vs H Q _ => ∃ (k : Int) (v v2 : V) (S : Addr → Prop) (d e : PyData), vs = [.int k, v, v2] ∧ 0 ≤ k ∧ k < 12 ∧ Dt S H v d ∧ Dt S H v2 e ∧ d.depth ≤ n ∧ e.depth ≤ n ∧
  ∀ H' r, Same H H' → Dt (fun b => H b = none) H' r (due k d e) → Q r H'
def spByBase (n : Nat) : Sp := fun vs H Q _ => ∃ (k : Int) (v : V) (S : Addr → Prop) (d : PyData), vs = [.int k, v] ∧ 0 ≤ k ∧ k < 12 ∧ Dt S H v d ∧ d.depth ≤ n ∧ ∀ H', Same H H' → Q (.bl (decide (k < 6))) H'
theorem lk2 (d e : PyData) : List.lookup ("value" : Str) ([("test", d), ("value", e)] : List (Str × PyData)) = some e := rfl
theorem pair_dt {H H' : Hp} {p dx : Addr} {x y : V} {d e : PyData} (sm : Same H H') (hp : H' p = none) (hx : Dt (fun b => H b = none ∧ b ≠ dx) H' x d) (hy : Dt (fun b => H b = none ∧ b ≠ dx) H' y e) : Dt (fun b => H b = none) (upd H' p (.lst [x, y])) (.ref p) (.list [d, e]) := by
  have st : ∀ {z : V} {t : PyData}, Dt (fun b => H b = none ∧ b ≠ dx) H' z t → Dt (fun b => H b = none) (upd H' p (.lst [x, y])) z t := fun {z t} hz => hz.strong fun b o hb eo => ⟨hb.1, same_upd hp b o eo⟩
  exact .lst (sm.free hp) upd_same (by show 2 ≤ 1000; decide) (.cons (st hx) (.cons (st hy) .nil))
section
variable {P : Program} {w : World} {K : PySem.W.Frag} {mg : Str → Option Value} {base : Heap} {g gR : Addr} {gd gdR : FuncData} {n : Nat} {c f : Nat → Addr} {fd : Nat → FuncData}
theorem scCa : FnScope ["_law_kind", "_law_one", "_law_other", "_law_e"] ["_law_kind", "_law_one", "_law_other"] (defScope sCaught) := ⟨rfl, rfl, rfl, by decide +kernel, rfl, by decide +kernel, by decide +kernel⟩
theorem scBy : FnScope ["_law_kind", "_law_one"] ["_law_kind", "_law_one"] (defScope sByBase) := ⟨rfl, rfl, rfl, by decide +kernel, rfl, by decide +kernel, by decide +kernel⟩
theorem ok_caught (F : Fun K "_law_caught" "_law_caught" sCaught g gd) (FR : Fun K "_law_raise" "_law_raise" sRaise gR gdR) (gg : mg "_law_raise" = some (.ref gR)) (bR : Binds K gdR ["_law_kind", "_law_one", "_law_other"] []) (C : ClsP P w K mg base n c f fd) (X : ClsX K c) :
    FnOk P w K mg base CX0 (n + 5) g gd ["_law_kind", "_law_one", "_law_other"] (spCaught n) := by
  have G : FnOk P w K mg base (L2.CX P w) (n + 4) gR gdR ["_law_kind", "_law_one", "_law_other"] (spRaise c n) := ok_raise FR C
  refine F.ok scCa (fun vs H Q E h => ?_) (fun cdv A outer s H vs Q E hr h => ?_)
  · obtain ⟨k, v, v2, S, d, e, rfl, _⟩ := h
    rfl
  · obtain ⟨k, v, v2, S, d, e, rfl, k0, k1, hd, he, hdn, hen, q⟩ := h
    refine ⟨_, pss_cons (ps_try_gen (Wout := fun _ _ _ _ => False) (tb := fun W => tDrop (tCallSD (spRaise c n) [] (WE W) (tCons (tVar 0) (tCons (tVar 1) (tCons (tVar 2) tNil))))) rfl rfl takes0
        (fun W pn xe tk _ => pss_one (ps_expr (pe_callSD G hr (by rfl) gg FR.kp bR .nil (fun σ => passAt tk σ) (pa_cons (pv 0) (pa_cons (pv 1) (pa_cons (pv 2) pa_nil))))))
        (ClsOk.as scCa.nd (i := 3) rfl rfl (tst_one ⟨by rfl, by decide, Or.inl C.g.g5⟩) (ts := fun a cls d => tRet (tXf a cls d _ _ (tVar 3))) (fun a oe cls d pn hz hf => pss_one (ps_ret (pe_xf (X.xf 5 (by decide)) ((C.k5).no _ (by simp)) hz hf (pv 3)))) <| .cons (tst_tup (.cons ⟨by rfl, by decide, Or.inl C.g.g1⟩ (.cons ⟨by rfl, by decide, Or.inl C.g.g2⟩ (.cons ⟨by rfl, by decide, Or.inl C.g.g3⟩ (  .cons ⟨by rfl, by decide, Or.inl C.g.g4⟩ .nil)))) (by show 4 ≤ sizeLine; decide)) (ts := fun _ _ _ => tRet (tVar 0)) (fun _ _ _ _ _ _ _ => pss_one (ps_ret (pv 0)))
          (ClsOk.as scCa.nd (i := 3) rfl rfl (tst_one ⟨by rfl, by decide, Or.inl C.g.g6⟩) (ts := fun a cls d => tRet (tXf a cls d _ _ (tVar 3))) (fun a oe cls d pn hz hf => pss_one (ps_ret (pe_xf (X.xf 6 (by decide)) ((C.k6).no _ (by simp)) hz hf (pv 3)))) <| .as scCa.nd (i := 3) rfl rfl (tst_one ⟨by rfl, by decide, Or.inl C.g.g7⟩) (ts := fun a cls d => tRet (tLst (tCons (tXf a cls d _ _ (tVar 3)) (tCons (tXf a cls d _ _ (tVar 3)) tNil))))
              (fun a oe cls d pn hz hf => pss_one (ps_ret (pe_lst (pa_cons (pe_xf (X.xf 7 (by decide)) (C.k7.no "test" (by simp)) hz hf (pv 3)) (pa_cons (pe_xf (X.xf 7 (by decide)) (C.k7.no "value" (by simp)) hz hf (pv 3)) pa_nil)))))
            (ClsOk.as scCa.nd (i := 3) rfl rfl (tst_one ⟨by rfl, by decide, Or.inl C.g.g8⟩) (ts := fun a cls d => tRet (tXf a cls d _ _ (tVar 3))) (fun a oe cls d pn hz hf => pss_one (ps_ret (pe_xf (X.xf 8 (by decide)) ((C.k8).no _ (by simp)) hz hf (pv 3)))) <| ClsOk.as scCa.nd (i := 3) rfl rfl (tst_one ⟨by rfl, by decide, Or.inl C.g.g9⟩) (ts := fun a cls d => tRet (tXf a cls d _ _ (tVar 3))) (fun a oe cls d pn hz hf => pss_one (ps_ret (pe_xf (X.xf 9 (by decide)) ((C.k9).no _ (by simp)) hz hf (pv 3)))) <| ClsOk.as scCa.nd (i := 3) rfl rfl (tst_one ⟨by rfl, by decide, Or.inl C.g.g10⟩) (ts := fun a cls d => tRet (tXf a cls d _ _ (tVar 3))) (fun a oe cls d pn hz hf => pss_one (ps_ret (pe_xf (X.xf 10 (by decide)) ((C.k10).no _ (by simp)) hz hf (pv 3)))) <| ClsOk.as scCa.nd (i := 3) rfl rfl (tst_one ⟨by rfl, by decide, Or.inl C.g.g11⟩) (ts := fun a cls d => tRet (tXf a cls d _ _ (tVar 3))) (fun a oe cls d pn hz hf => pss_one (ps_ret (pe_xf (X.xf 11 (by decide)) ((C.k11).no _ (by simp)) hz hf (pv 3)))) <| .cons (tst_one ⟨by rfl, by decide, Or.inl C.g.g0⟩) (ts := fun _ _ _ => tRet (tVar 0)) (fun _ _ _ _ _ _ _ => pss_one (ps_ret (pv 0))) .nil))))
      (pss_one (ps_ret pe_str)), ?_⟩
    refine ⟨_, rfl, _, rfl, _, rfl, k, v, v2, S, d, e, rfl, hd, he, hdn, hen, ?_, ?_, ?_, ?_, ?_, ?_, ?_, ?_, ?_, ?_, ?_, ?_⟩
    · exact (fun hk H' sm => by
      subst hk
      exact wt_no (X.ex 1 5 (by decide) (by decide)) (wt_yes (any_of (X.ex 1 1 (by decide) (by decide)) (any_of (X.ex 1 2 (by decide) (by decide)) (any_of (X.ex 1 3 (by decide) (by decide)) (any_of (X.ex 1 4 (by decide) (by decide)) rfl)))) (fun a na => ⟨_, rfl, q H' (.int 1) sm (.at (.int 1))⟩)))
    · exact (fun hk H' sm => by
      subst hk
      exact wt_no (X.ex 2 5 (by decide) (by decide)) (wt_yes (any_of (X.ex 2 1 (by decide) (by decide)) (any_of (X.ex 2 2 (by decide) (by decide)) (any_of (X.ex 2 3 (by decide) (by decide)) (any_of (X.ex 2 4 (by decide) (by decide)) rfl)))) (fun a na => ⟨_, rfl, q H' (.int 2) sm (.at (.int 2))⟩)))
    · exact (fun hk H' sm => by
      subst hk
      exact wt_no (X.ex 3 5 (by decide) (by decide)) (wt_yes (any_of (X.ex 3 1 (by decide) (by decide)) (any_of (X.ex 3 2 (by decide) (by decide)) (any_of (X.ex 3 3 (by decide) (by decide)) (any_of (X.ex 3 4 (by decide) (by decide)) rfl)))) (fun a na => ⟨_, rfl, q H' (.int 3) sm (.at (.int 3))⟩)))
    · exact (fun hk H' sm => by
      subst hk
      exact wt_no (X.ex 4 5 (by decide) (by decide)) (wt_yes (any_of (X.ex 4 1 (by decide) (by decide)) (any_of (X.ex 4 2 (by decide) (by decide)) (any_of (X.ex 4 3 (by decide) (by decide)) (any_of (X.ex 4 4 (by decide) (by decide)) rfl)))) (fun a na => ⟨_, rfl, q H' (.int 4) sm (.at (.int 4))⟩)))
    · exact (fun hk H' dx fs sm hdx hfs hs => by
      subst hk
      obtain ⟨y, l1, l2⟩ := hs "line" d (by simp)
      exact wt_as (X.ex 5 5 (by decide) (by decide)) (fun a na => ⟨_, rfl, rfl, rfl, dx, fs, y, rfl, hfs, l1, q H' y sm (l2.mv (fun _ z => z.1) fun _ _ _ z => z)⟩))
    · exact (fun hk H' dx fs sm hdx hfs hs => by
      subst hk
      obtain ⟨y, l1, l2⟩ := hs "name" d (by simp)
      exact wt_no (X.ex 6 5 (by decide) (by decide)) (wt_no (any_of (X.ex 6 1 (by decide) (by decide)) (any_of (X.ex 6 2 (by decide) (by decide)) (any_of (X.ex 6 3 (by decide) (by decide)) (any_of (X.ex 6 4 (by decide) (by decide)) rfl)))) (wt_as (X.ex 6 6 (by decide) (by decide)) (fun a na => ⟨_, rfl, rfl, rfl, dx, fs, y, rfl, hfs, l1, q H' y sm (l2.mv (fun _ z => z.1) fun _ _ _ z => z)⟩))))
    · exact (fun hk H' dx fs sm hdx hfs hs => by
      subst hk
      obtain ⟨y, l1, l2⟩ := hs "test" d (by simp)
      obtain ⟨y2, m1, m2⟩ := hs "value" e (lk2 d e)
      exact wt_no (X.ex 7 5 (by decide) (by decide)) (wt_no (any_of (X.ex 7 1 (by decide) (by decide)) (any_of (X.ex 7 2 (by decide) (by decide)) (any_of (X.ex 7 3 (by decide) (by decide)) (any_of (X.ex 7 4 (by decide) (by decide)) rfl)))) (wt_no (X.ex 7 6 (by decide) (by decide)) (wt_as (X.ex 7 7 (by decide) (by decide)) (fun a na => ⟨_, rfl, rfl, rfl, dx, fs, y, rfl, hfs, l1, _, rfl, rfl, rfl, dx, fs, y2, rfl, hfs, m1, (by show 2 ≤ sizeLine; decide), fun p hp => q _ (.ref p) (same_put (sm.free hp) sm) (pair_dt sm hp l2 m2)⟩)))))
    · exact (fun hk H' dx fs sm hdx hfs hs => by
      subst hk
      obtain ⟨y, l1, l2⟩ := hs "value" d (by simp)
      exact wt_no (X.ex 8 5 (by decide) (by decide)) (wt_no (any_of (X.ex 8 1 (by decide) (by decide)) (any_of (X.ex 8 2 (by decide) (by decide)) (any_of (X.ex 8 3 (by decide) (by decide)) (any_of (X.ex 8 4 (by decide) (by decide)) rfl)))) (wt_no (X.ex 8 6 (by decide) (by decide)) (wt_no (X.ex 8 7 (by decide) (by decide)) (wt_as (X.ex 8 8 (by decide) (by decide)) (fun a na => ⟨_, rfl, rfl, rfl, dx, fs, y, rfl, hfs, l1, q H' y sm (l2.mv (fun _ z => z.1) fun _ _ _ z => z)⟩))))))
    · exact (fun hk H' dx fs sm hdx hfs hs => by
      subst hk
      obtain ⟨y, l1, l2⟩ := hs "limit" d (by simp)
      exact wt_no (X.ex 9 5 (by decide) (by decide)) (wt_no (any_of (X.ex 9 1 (by decide) (by decide)) (any_of (X.ex 9 2 (by decide) (by decide)) (any_of (X.ex 9 3 (by decide) (by decide)) (any_of (X.ex 9 4 (by decide) (by decide)) rfl)))) (wt_no (X.ex 9 6 (by decide) (by decide)) (wt_no (X.ex 9 7 (by decide) (by decide)) (wt_no (X.ex 9 8 (by decide) (by decide)) (wt_as (X.ex 9 9 (by decide) (by decide)) (fun a na => ⟨_, rfl, rfl, rfl, dx, fs, y, rfl, hfs, l1, q H' y sm (l2.mv (fun _ z => z.1) fun _ _ _ z => z)⟩)))))))
    · exact (fun hk H' dx fs sm hdx hfs hs => by
      subst hk
      obtain ⟨y, l1, l2⟩ := hs "many" d (by simp)
      exact wt_no (X.ex 10 5 (by decide) (by decide)) (wt_no (any_of (X.ex 10 1 (by decide) (by decide)) (any_of (X.ex 10 2 (by decide) (by decide)) (any_of (X.ex 10 3 (by decide) (by decide)) (any_of (X.ex 10 4 (by decide) (by decide)) rfl)))) (wt_no (X.ex 10 6 (by decide) (by decide)) (wt_no (X.ex 10 7 (by decide) (by decide)) (wt_no (X.ex 10 8 (by decide) (by decide)) (wt_no (X.ex 10 9 (by decide) (by decide)) (wt_as (X.ex 10 10 (by decide) (by decide)) (fun a na => ⟨_, rfl, rfl, rfl, dx, fs, y, rfl, hfs, l1, q H' y sm (l2.mv (fun _ z => z.1) fun _ _ _ z => z)⟩))))))))
    · exact (fun hk H' dx fs sm hdx hfs hs => by
      subst hk
      obtain ⟨y, l1, l2⟩ := hs "reason" d (by simp)
      exact wt_no (X.ex 11 5 (by decide) (by decide)) (wt_no (any_of (X.ex 11 1 (by decide) (by decide)) (any_of (X.ex 11 2 (by decide) (by decide)) (any_of (X.ex 11 3 (by decide) (by decide)) (any_of (X.ex 11 4 (by decide) (by decide)) rfl)))) (wt_no (X.ex 11 6 (by decide) (by decide)) (wt_no (X.ex 11 7 (by decide) (by decide)) (wt_no (X.ex 11 8 (by decide) (by decide)) (wt_no (X.ex 11 9 (by decide) (by decide)) (wt_no (X.ex 11 10 (by decide) (by decide)) (wt_as (X.ex 11 11 (by decide) (by decide)) (fun a na => ⟨_, rfl, rfl, rfl, dx, fs, y, rfl, hfs, l1, q H' y sm (l2.mv (fun _ z => z.1) fun _ _ _ z => z)⟩)))))))))
    · exact (fun hk H' sm => by
      obtain rfl : k = 0 := by omega
      exact wt_no (X.ex 0 5 (by decide) (by decide)) (wt_no (any_of (X.ex 0 1 (by decide) (by decide)) (any_of (X.ex 0 2 (by decide) (by decide)) (any_of (X.ex 0 3 (by decide) (by decide)) (any_of (X.ex 0 4 (by decide) (by decide)) rfl)))) (wt_no (X.ex 0 6 (by decide) (by decide)) (wt_no (X.ex 0 7 (by decide) (by decide)) (wt_no (X.ex 0 8 (by decide) (by decide)) (wt_no (X.ex 0 9 (by decide) (by decide)) (wt_no (X.ex 0 10 (by decide) (by decide)) (wt_no (X.ex 0 11 (by decide) (by decide)) (wt_yes (X.ex 0 0 (by decide) (by decide)) (fun a na => ⟨_, rfl, q H' (.int 0) sm (.at (.int 0))⟩))))))))))
end
end OM

namespace OM
open PySem PySem.Spec PyProof.Rows L2
section
variable {P : Program} {w : World} {K : PySem.W.Frag} {mg : Str → Option Value} {base : Heap} {g gR : Addr} {gd gdR : FuncData} {n : Nat} {c f : Nat → Addr} {fd : Nat → FuncData}
theorem ok_bybase (F : Fun K "_law_by_base" "_law_by_base" sByBase g gd) (FR : Fun K "_law_raise" "_law_raise" sRaise gR gdR) (gg : mg "_law_raise" = some (.ref gR)) (bR : Binds K gdR ["_law_kind", "_law_one", "_law_other"] []) (C : ClsP P w K mg base n c f fd) (X : ClsX K c) :
    FnOk P w K mg base CX0 (n + 5) g gd ["_law_kind", "_law_one"] (spByBase n) := by
  have G : FnOk P w K mg base (L2.CX P w) (n + 4) gR gdR ["_law_kind", "_law_one", "_law_other"] (spRaise c n) := ok_raise FR C
  refine F.ok scBy (fun vs H Q E h => ?_) (fun cdv A outer s H vs Q E hr h => ?_)
  · obtain ⟨k, v, S, d, rfl, _⟩ := h
    rfl
  · obtain ⟨k, v, S, d, rfl, k0, k1, hd, hdn, q⟩ := h
    refine ⟨_, pss_cons (ps_try_gen (Wout := fun _ _ _ _ => False) (tb := fun W => tDrop (tCallSD (spRaise c n) [] (WE W) (tCons (tVar 0) (tCons (tVar 1) (tCons (tVar 0) tNil))))) rfl rfl takes0
        (fun W pn xe tk _ => pss_one (ps_expr (pe_callSD G hr (by rfl) gg FR.kp bR .nil (fun σ => passAt tk σ) (pa_cons (pv 0) (pa_cons (pv 1) (pa_cons (pv 0) pa_nil))))))
        (.cons (tst_one ⟨by rfl, by decide, Or.inl C.g.g0⟩) (ts := fun _ _ _ => tRet (tC (.bl true))) (fun _ _ _ _ _ _ _ => pss_one (ps_ret pe_bl))
          (.cons (tst_tup (.cons ⟨by rfl, by decide, Or.inl C.g.g6⟩ (.cons ⟨by rfl, by decide, Or.inl C.g.g7⟩ (.cons ⟨by rfl, by decide, Or.inl C.g.g8⟩ (.cons ⟨by rfl, by decide, Or.inl C.g.g9⟩ (.cons ⟨by rfl, by decide, Or.inl C.g.g10⟩ (.cons ⟨by rfl, by decide, Or.inl C.g.g11⟩ .nil)))))) (by show 6 ≤ sizeLine; decide)) (ts := fun _ _ _ => tRet (tC (.bl false))) (fun _ _ _ _ _ _ _ => pss_one (ps_ret pe_bl)) .nil)))
      (pss_one (ps_ret pe_non)), ?_⟩
    refine ⟨_, rfl, _, rfl, _, rfl, k, v, .int k, S, d, .int k, rfl, hd, .at (.int k), hdn, Nat.zero_le _, ?_, ?_, ?_, ?_, ?_, ?_, ?_, ?_, ?_, ?_, ?_, ?_⟩
    · exact (fun hk H' sm => by
      subst hk
      exact wt_yes (X.ex 1 0 (by decide) (by decide)) (fun a na => q H' sm))
    · exact (fun hk H' sm => by
      subst hk
      exact wt_yes (X.ex 2 0 (by decide) (by decide)) (fun a na => q H' sm))
    · exact (fun hk H' sm => by
      subst hk
      exact wt_yes (X.ex 3 0 (by decide) (by decide)) (fun a na => q H' sm))
    · exact (fun hk H' sm => by
      subst hk
      exact wt_yes (X.ex 4 0 (by decide) (by decide)) (fun a na => q H' sm))
    · exact (fun hk H' dx fs sm hdx hfs hs => by
      subst hk
      exact wt_yes (X.ex 5 0 (by decide) (by decide)) (fun a na => q H' sm))
    · exact (fun hk H' dx fs sm hdx hfs hs => by
      subst hk
      exact wt_no (X.ex 6 0 (by decide) (by decide)) (wt_yes (any_of (X.ex 6 6 (by decide) (by decide)) (any_of (X.ex 6 7 (by decide) (by decide)) (any_of (X.ex 6 8 (by decide) (by decide)) (any_of (X.ex 6 9 (by decide) (by decide)) (any_of (X.ex 6 10 (by decide) (by decide)) (any_of (X.ex 6 11 (by decide) (by decide)) rfl)))))) (fun a na => q H' sm)))
    · exact (fun hk H' dx fs sm hdx hfs hs => by
      subst hk
      exact wt_no (X.ex 7 0 (by decide) (by decide)) (wt_yes (any_of (X.ex 7 6 (by decide) (by decide)) (any_of (X.ex 7 7 (by decide) (by decide)) (any_of (X.ex 7 8 (by decide) (by decide)) (any_of (X.ex 7 9 (by decide) (by decide)) (any_of (X.ex 7 10 (by decide) (by decide)) (any_of (X.ex 7 11 (by decide) (by decide)) rfl)))))) (fun a na => q H' sm)))
    · exact (fun hk H' dx fs sm hdx hfs hs => by
      subst hk
      exact wt_no (X.ex 8 0 (by decide) (by decide)) (wt_yes (any_of (X.ex 8 6 (by decide) (by decide)) (any_of (X.ex 8 7 (by decide) (by decide)) (any_of (X.ex 8 8 (by decide) (by decide)) (any_of (X.ex 8 9 (by decide) (by decide)) (any_of (X.ex 8 10 (by decide) (by decide)) (any_of (X.ex 8 11 (by decide) (by decide)) rfl)))))) (fun a na => q H' sm)))
    · exact (fun hk H' dx fs sm hdx hfs hs => by
      subst hk
      exact wt_no (X.ex 9 0 (by decide) (by decide)) (wt_yes (any_of (X.ex 9 6 (by decide) (by decide)) (any_of (X.ex 9 7 (by decide) (by decide)) (any_of (X.ex 9 8 (by decide) (by decide)) (any_of (X.ex 9 9 (by decide) (by decide)) (any_of (X.ex 9 10 (by decide) (by decide)) (any_of (X.ex 9 11 (by decide) (by decide)) rfl)))))) (fun a na => q H' sm)))
    · exact (fun hk H' dx fs sm hdx hfs hs => by
      subst hk
      exact wt_no (X.ex 10 0 (by decide) (by decide)) (wt_yes (any_of (X.ex 10 6 (by decide) (by decide)) (any_of (X.ex 10 7 (by decide) (by decide)) (any_of (X.ex 10 8 (by decide) (by decide)) (any_of (X.ex 10 9 (by decide) (by decide)) (any_of (X.ex 10 10 (by decide) (by decide)) (any_of (X.ex 10 11 (by decide) (by decide)) rfl)))))) (fun a na => q H' sm)))
    · exact (fun hk H' dx fs sm hdx hfs hs => by
      subst hk
      exact wt_no (X.ex 11 0 (by decide) (by decide)) (wt_yes (any_of (X.ex 11 6 (by decide) (by decide)) (any_of (X.ex 11 7 (by decide) (by decide)) (any_of (X.ex 11 8 (by decide) (by decide)) (any_of (X.ex 11 9 (by decide) (by decide)) (any_of (X.ex 11 10 (by decide) (by decide)) (any_of (X.ex 11 11 (by decide) (by decide)) rfl)))))) (fun a na => q H' sm)))
    · exact (fun hk H' sm => by
      obtain rfl : k = 0 := by omega
      exact wt_yes (X.ex 0 0 (by decide) (by decide)) (fun a na => q H' sm))
end
end OM

namespace OM
open PySem PySem.Spec PyProof.Rows L2
def All : Addr → Prop := fun _ => True
theorem Dt.same {S : Addr → Prop} {H H' : Hp} {v : V} {d : PyData} (h : Dt S H v d) (s : Same H H') : Dt S H' v d := h.mv (fun _ z => z) fun b o _ e => s b o e
theorem Dt.all {S : Addr → Prop} {H : Hp} {v : V} {d : PyData} (h : Dt S H v d) : Dt All H v d := h.mv (fun _ _ => trivial) fun _ _ _ e => e
/-- an exception without fields; one with fields -/
def ObN (H : Hp) (a C : Addr) : Prop := H a = some (exo a C none)
def ObD (H : Hp) (a C : Addr) (fds : List (Str × PyData)) : Prop := ∃ dx fs, H a = some (exo a C (some dx)) ∧ H dx = some (exd dx fs) ∧ ∀ f d, fds.lookup f = some d → ∃ v, fs.lookup f = some v ∧ Dt All H v d
theorem ObN.same {H H' : Hp} {a C : Addr} (h : ObN H a C) (s : Same H H') : ObN H' a C := s _ _ h
theorem ObD.same {H H' : Hp} {a C : Addr} {fds : List (Str × PyData)} (h : ObD H a C fds) (s : Same H H') : ObD H' a C fds := by
  obtain ⟨dx, fs, h1, h2, h3⟩ := h
  refine ⟨dx, fs, s _ _ h1, s _ _ h2, fun f d e => ?_⟩
  obtain ⟨v, e1, e2⟩ := h3 f d e
  exact ⟨v, e1, e2.same s⟩
theorem made_same {H H2 : Hp} {a C : Addr} {fds : List (Str × PyData)} (h : H a = none) (M : Made (upd H a (exo a C none)) a C fds H2) : Same H H2 := fun b o e =>
  M.1 b o (ne_of_none e h) (same_upd h b o e)
theorem made_ob {H0 H2 : Hp} {a C : Addr} {fds : List (Str × PyData)} (M : Made H0 a C fds H2) : ObD H2 a C fds := by
  obtain ⟨_, dx, fs, ea, ed, _, _, _, hs⟩ := M
  refine ⟨dx, fs, ea, ed, fun f d e => ?_⟩
  obtain ⟨v, e1, e2⟩ := hs f d e
  exact ⟨v, e1, e2.all⟩
section
variable {K : PySem.W.Frag} {H : Hp} {C fI : Addr} {x y : V} {Q : VK} {n i j : Nat} {σ : L2.St}
theorem mv0 (k : KCls K C fI "ValueError" []) (q : ∀ a H2, H a = none → Same H H2 → ObN H2 a C → Q (.ref a) H2) (hv : σ[i]? = some (some x) := by rfl) : tMkV C (spI0 K "ValueError") [] (tCons (tVar i) tNil) σ H Q :=
  ⟨x, hv, (by show 1 ≤ 1000; decide), fun a h => ⟨a, C, x, rfl, k.raw upd_same, rfl, q a _ h (same_upd h) upd_same⟩⟩
theorem mvb (k : KCls K C fI "ValueError" []) (q : ∀ a H2, H a = none → Same H H2 → ObN H2 a C → Q (.ref a) H2) : tMkV C (spI0 K "ValueError") [.str ""] tNil σ H Q :=
  ⟨(by show 0 ≤ 1000; decide), fun a h => ⟨a, C, .str "", rfl, k.raw upd_same, rfl, q a _ h (same_upd h) upd_same⟩⟩
theorem mv1 {B : String} {fl : Str} {d : PyData} {S : Addr → Prop} (k : KCls K C fI B [fl]) (hd : Dt S H x d) (hn : d.depth ≤ n) (q : ∀ a H2, H a = none → Same H H2 → ObD H2 a C [(fl, d)] → Q (.ref a) H2) (hv : σ[i]? = some (some x) := by rfl) :
    tMkV C (spI1 K B fl n) [] (tCons (tVar i) tNil) σ H Q :=
  ⟨x, hv, (by show 1 ≤ 1000; decide), fun a h => ⟨a, C, x, d, S, rfl, k.raw upd_same, hd.same (same_upd h), hn, fun H2 M => ⟨rfl, q a H2 h (made_same h M) (made_ob M)⟩⟩⟩
theorem mv2 {B : String} {fl gl : Str} {d e : PyData} {S : Addr → Prop} (k : KCls K C fI B [fl, gl]) (hd : Dt S H x d) (he : Dt S H y e) (hn : d.depth ≤ n) (hm : e.depth ≤ n) (q : ∀ a H2, H a = none → Same H H2 → ObD H2 a C [(fl, d), (gl, e)] → Q (.ref a) H2) (hv : σ[i]? = some (some x) := by rfl) (hw : σ[j]? = some (some y) := by rfl) :
    tMkV C (spI2 K B fl gl n) [] (tCons (tVar i) (tCons (tVar j) tNil)) σ H Q := by
  refine ⟨x, hv, y, hw, (by show 2 ≤ 1000; decide), fun a h => ?_⟩
  have st : ∀ {z : V} {t : PyData}, Dt S H z t → Dt (fun b => b ≠ a) (upd H a (exo a C none)) z t := fun {z t} hz => hz.strong fun b o _ eo => ⟨ne_of_none eo h, same_upd h b o eo⟩
  exact ⟨a, C, x, y, d, e, fun b => b ≠ a, rfl, k.raw upd_same, st hd, st he, fun _ z => z, hn, hm, fun H2 M => ⟨rfl, q a H2 h (made_same h M) (made_ob M)⟩⟩
end
/-! ### lists of truths -/
def boolsD (bs : List Bool) : PyData := .list (bs.map .bool)
theorem dp_all {K : PySem.W.Frag} {H : Hp} : ∀ bs : List Bool, DpAll K H (bs.map V.bl) (bs.map PyData.bool)
  | [] => .nil
  | b :: r => .cons (.bl b) (dp_all r)
theorem dp_bools {K : PySem.W.Frag} {H : Hp} {p : Addr} {bs : List Bool} (e : H p = some (.lst (bs.map V.bl))) : Dp K H (.ref p) (boolsD bs) := .lst (SqL.of e) (dp_all bs)
theorem lay_bools : ∀ bs : List Bool, PyData.canLayAll0 (bs.map .bool) = true
  | [] => rfl
  | b :: r => by
    show (PyData.canLay0 (.bool b) && PyData.canLayAll0 (r.map .bool)) = true
    rw [lay_bools r]
    rfl
theorem dep_bools : ∀ bs : List Bool, PyData.depthAll (bs.map .bool) = 0
  | [] => rfl
  | b :: r => by
    show max (PyData.depth (.bool b)) (PyData.depthAll (r.map .bool)) = 0
    rw [dep_bools r]
    rfl
theorem eqv_bools : ∀ bs : List Bool, PyData.eqvAll (bs.map .bool) (bs.map .bool) = true
  | [] => rfl
  | b :: r => by
    show (PyData.eqv (.bool b) (.bool b) && PyData.eqvAll (r.map .bool) (r.map .bool)) = true
    rw [eqv_bools r]
    cases b <;> rfl
theorem shaped_bools (bs : List Bool) : SeqAt.shaped (boolsD bs) = true := by
  show (PyData.canLay0 (.list (bs.map .bool)) && decide (PyData.depth (.list (bs.map .bool)) ≤ 64)) = true
  have h1 : PyData.canLay0 (.list (bs.map .bool)) = true := by
    unfold PyData.canLay0
    exact lay_bools bs
  have h2 : PyData.depth (.list (bs.map .bool)) ≤ 64 := by
    unfold PyData.depth
    rw [dep_bools]
    decide
  rw [h1, decide_eq_true h2]
  rfl
theorem ne_bools {K : PySem.W.Frag} {H : Hp} {p r : Addr} {bs : List Bool} {Q : VK} (e : H p = some (.lst (bs.map V.bl))) (e2 : H r = some (.lst (bs.map V.bl))) (q : Q (.bl false) H) : rNeD K (.ref p) (.ref r) H Q := by
  refine ⟨boolsD bs, boolsD bs, dp_bools e, dp_bools e2, shaped_bools bs, shaped_bools bs, ?_⟩
  have h : PyData.eqv (boolsD bs) (boolsD bs) = true := by
    show PyData.eqv (.list (bs.map .bool)) (.list (bs.map .bool)) = true
    unfold PyData.eqv
    exact eqv_bools bs
  rw [h]
  exact q
/-! ### how long a list's text is -/
theorem len_app (x y : Str) : (x ++ y).length = x.length + y.length := strLen_append x y
theorem text_ub : ∀ (ts : List Str) (k : Nat) (acc : Str), (∀ t ∈ ts, t.length ≤ 400) → (textFrom k acc ts).length ≤ acc.length + 402 * ts.length
  | [], _, acc, _ => by
    show acc.length ≤ _
    omega
  | t :: r, k, acc, h => by
    have ih := text_ub r (k + 1) (acc ++ (if k > 0 then ", " else "" : String) ++ t) fun x hx => h x (List.mem_cons_of_mem _ hx)
    have ht := h t (List.mem_cons_self ..)
    have e : (acc ++ (if k > 0 then ", " else "" : String) ++ t : Str).length ≤ acc.length + 402 := by
      rw [len_app, len_app]
      split
      · have : ((", " : String) : Str).length = 2 := rfl
        omega
      · have : (("" : String) : Str).length = 0 := rfl
        omega
    show (textFrom (k + 1) (acc ++ (if k > 0 then ", " else "" : String) ++ t) r).length ≤ _
    rw [List.length_cons]
    omega
theorem listText_ub (ts : List Str) (h : ∀ t ∈ ts, t.length ≤ 400) : (listText ts).length ≤ 2 + 402 * ts.length := by
  have q := text_ub ts 0 "[" h
  have h1 : ((("[" : String) : Str)).length = 1 := rfl
  have h2 : ((("]" : String) : Str)).length = 1 := rfl
  show (textFrom 0 "[" ts ++ ("]" : Str)).length ≤ _
  rw [len_app]
  omega
/-- what repr asks of a datum -/
def Shw (d : PyData) : Prop := d.showable = true ∧ d.depth ≤ 20 ∧ d.shown.length ≤ sizeLine
theorem Good.shw {d : PyData} (g : Good d) : Shw d := ⟨g.1, Nat.le_trans g.2.1 (by decide), Nat.le_trans g.2.2 (by decide)⟩
theorem shown_all {ds : List PyData} (h : ∀ d ∈ ds, Good d) : (∀ t ∈ PyData.shownAll ds, t.length ≤ 400) ∧ (PyData.shownAll ds).length = ds.length ∧ PyData.showableAll ds = true ∧ PyData.depthAll ds ≤ 2 := by
  induction ds with
  | nil => exact ⟨fun t ht => (nomatch ht), rfl, rfl, Nat.zero_le _⟩
  | cons d r ih =>
    obtain ⟨i1, i2, i3, i4⟩ := ih fun x hx => h x (List.mem_cons_of_mem _ hx)
    obtain ⟨g1, g2, g3⟩ := h d (List.mem_cons_self ..)
    refine ⟨fun t ht => ?_, ?_, ?_, ?_⟩
    · have ht' : t ∈ d.shown :: PyData.shownAll r := ht
      rcases List.mem_cons.mp ht' with rfl | ht'
      · exact g3
      · exact i1 t ht'
    · show (d.shown :: PyData.shownAll r).length = _
      rw [List.length_cons, List.length_cons, i2]
    · show (d.showable && PyData.showableAll r) = true
      rw [g1, i3]
      rfl
    · show max d.depth (PyData.depthAll r) ≤ 2
      omega
theorem shw_list {ds : List PyData} (h : ∀ d ∈ ds, Good d) (hl : ds.length ≤ 20) : Shw (.list ds) := by
  obtain ⟨i1, i2, i3, i4⟩ := shown_all h
  refine ⟨by unfold PyData.showable; exact i3, by unfold PyData.depth; omega, ?_⟩
  have q := listText_ub (PyData.shownAll ds) i1
  have z : (9000 : Nat) ≤ sizeLine := by decide
  unfold PyData.shown
  rw [i2] at q
  omega
theorem rep_te {H : Hp} {x : V} {d : PyData} {S : Addr → Prop} {Q : VK} (hd : Dt S H x d) (hs : Shw d) (q : Q (.str d.shown) H) : rRep [x] H Q := ⟨x, d, S, rfl, hd, hs.1, hs.2.1, hs.2.2, q⟩
end OM

namespace OM
open PySem PySem.Spec PyProof.Rows L2
/-- what stands when all is made -/
structure Rst (c : Nat → Addr) (H : Hp) (a b : Nat → Addr) (pm pb : Addr) (v1 v2 : V) (e1 e2 : PyData) : Prop where
  m : H pm = some (.lst [.ref (a 0), .ref (a 1), .ref (a 2), .ref (a 3), .ref (a 4), .ref (a 5), .ref (a 6), .ref (a 7), .ref (a 8), .ref (a 9), .ref (a 10), .ref (a 11)])
  l : H pb = some (.lst [.ref (b 0), .ref (b 1), .ref (b 2), .ref (b 3), .ref (b 4)])
  o : ∀ i, i < 5 → ObN H (a i) (c i)
  ob : ∀ i, i < 5 → ObN H (b i) (c i)
  o5 : ObD H (a 5) (c 5) [("line", e1)]
  o6 : ObD H (a 6) (c 6) [("name", e1)]
  o7 : ObD H (a 7) (c 7) [("test", e1), ("value", e2)]
  o8 : ObD H (a 8) (c 8) [("value", e1)]
  o9 : ObD H (a 9) (c 9) [("limit", e1)]
  o10 : ObD H (a 10) (c 10) [("many", e1)]
  o11 : ObD H (a 11) (c 11) [("reason", e1)]
  t1 : Dt All H v1 e1
  t2 : Dt All H v2 e2
theorem Rst.same {c : Nat → Addr} {H H' : Hp} {a b : Nat → Addr} {pm pb : Addr} {v1 v2 : V} {e1 e2 : PyData} (R : Rst c H a b pm pb v1 v2 e1 e2) (s : Same H H') : Rst c H' a b pm pb v1 v2 e1 e2 :=
  ⟨s _ _ R.m, s _ _ R.l, fun i h => (R.o i h).same s, fun i h => (R.ob i h).same s, R.o5.same s, R.o6.same s, R.o7.same s, R.o8.same s, R.o9.same s, R.o10.same s, R.o11.same s, R.t1.same s, R.t2.same s⟩
theorem ObD.ty {K : PySem.W.Frag} {H : Hp} {a C : Addr} {fds : List (Str × PyData)} (h : ObD H a C fds) (x : ExcC K C) : TyN K H (.ref a) (.ref C) := by
  obtain ⟨dx, fs, h1, h2, _⟩ := h
  exact .excD x h1 h2
theorem Rst.ty {K : PySem.W.Frag} {c : Nat → Addr} {H : Hp} {a b : Nat → Addr} {pm pb : Addr} {v1 v2 : V} {e1 e2 : PyData} (R : Rst c H a b pm pb v1 v2 e1 e2) (X : ClsX K c) : ∀ i, i < 12 → TyN K H (.ref (a i)) (.ref (c i)) := by
  intro i hi
  match i, hi with
  | 0, _ => exact .exc (X.xc 0 (by decide)) (R.o 0 (by decide))
  | 1, _ => exact .exc (X.xc 1 (by decide)) (R.o 1 (by decide))
  | 2, _ => exact .exc (X.xc 2 (by decide)) (R.o 2 (by decide))
  | 3, _ => exact .exc (X.xc 3 (by decide)) (R.o 3 (by decide))
  | 4, _ => exact .exc (X.xc 4 (by decide)) (R.o 4 (by decide))
  | 5, _ => exact R.o5.ty (X.xc 5 (by decide))
  | 6, _ => exact R.o6.ty (X.xc 6 (by decide))
  | 7, _ => exact R.o7.ty (X.xc 7 (by decide))
  | 8, _ => exact R.o8.ty (X.xc 8 (by decide))
  | 9, _ => exact R.o9.ty (X.xc 9 (by decide))
  | 10, _ => exact R.o10.ty (X.xc 10 (by decide))
  | 11, _ => exact R.o11.ty (X.xc 11 (by decide))
  | n + 12, h => omega
theorem Rst.at {c : Nat → Addr} {H : Hp} {a b : Nat → Addr} {pm pb : Addr} {v1 v2 : V} {e1 e2 : PyData} (R : Rst c H a b pm pb v1 v2 e1 e2) : ∀ i, i < 12 → ([.ref (a 0), .ref (a 1), .ref (a 2), .ref (a 3), .ref (a 4), .ref (a 5), .ref (a 6), .ref (a 7), .ref (a 8), .ref (a 9), .ref (a 10), .ref (a 11)] : List V)[i]? = some (.ref (a i)) := by
  intro i hi
  match i, hi with
  | 0, _ | 1, _ | 2, _ | 3, _ | 4, _ | 5, _ | 6, _ | 7, _ | 8, _ | 9, _ | 10, _ | 11, _ => rfl
  | n + 12, h => omega
theorem Rst.atB {c : Nat → Addr} {H : Hp} {a b : Nat → Addr} {pm pb : Addr} {v1 v2 : V} {e1 e2 : PyData} (R : Rst c H a b pm pb v1 v2 e1 e2) : ∀ i, i < 5 → ([.ref (b 0), .ref (b 1), .ref (b 2), .ref (b 3), .ref (b 4)] : List V)[i]? = some (.ref (b i)) := by
  intro i hi
  match i, hi with
  | 0, _ | 1, _ | 2, _ | 3, _ | 4, _ => rfl
  | n + 5, h => omega
theorem apart {S : Addr → Prop} {H : Hp} {a C : Addr} {v : V} {t : PyData} (h : H a = none) (hz : Dt S H v t) : Dt (fun b => b ≠ a) (upd H a (exo a C none)) v t := hz.strong fun b o _ eo => ⟨ne_of_none eo h, same_upd h b o eo⟩

/-! ### the rest of _law_right, as it is read -/
def rL1 (K : PySem.W.Frag) (c : Nat → Addr) : TS := tFor (iEnum K (tCons (tVar 3) tNil)) (gTup K 2 (gCons (gName 5) (gCons (gName 6) gNil)))
  (tSeq (tIfS (tTest (tOp (rNeD K) (tCall (spKinds K [c 0, c 1, c 2, c 3, c 4, c 5, c 6, c 7, c 8, c 9, c 10, c 11]) [] E0 (tCons (tVar 6) tNil))
      (tLc (iRng1 (tCons (tC (.int 12)) tNil)) (gName 9) tYes (tOrV (tOp rEq (tVar 9) (tVar 5)) (tAndV (tOp rEq (tVar 9) (tC (.int 0))) (tOp (rI0 fun i j => .bl (decide (i < j))) (tVar 5) (tC (.int 6))))) [9]))) (tRet (tC (.bl false))) tNext)
  (tSeq (tAsg (tIf (tTest (tOp (rI0 fun i j => .bl (decide (i < j))) (tVar 5) (tC (.int 5)))) (tVar 5) (tIf (tTest (tOp rNe (tVar 5) (tC (.int 7)))) (tVar 1) (tLst (tCons (tVar 1) (tCons (tVar 2) tNil))))) (gName 7))
  (tIfS (tOr (tTest (tOp rNe (tCB rRep (tCons (tCall (spCaught 2) [] E0 (tCons (tVar 5) (tCons (tVar 1) (tCons (tVar 2) tNil)))) tNil)) (tCB rRep (tCons (tVar 7) tNil))))
      (tTest (tOp rNe (tCall (spByBase 2) [] E0 (tCons (tVar 5) (tCons (tVar 1) tNil))) (tOp (rI0 fun i j => .bl (decide (i < j))) (tVar 5) (tC (.int 6)))))) (tRet (tC (.bl false))) tNext)))
theorem kits12 {K : PySem.W.Frag} {c : Nat → Addr} (X : ClsX K c) {i : Nat} (hi : i < 12) : Kits K (.ref (c i)) ([c 0, c 1, c 2, c 3, c 4, c 5, c 6, c 7, c 8, c 9, c 10, c 11].map Value.ref) ((List.range 12).map (sub12 i)) := by
  have e : ∀ j, j < 12 → PySem.W.kitOne K (.ref (c i)) (.ref (c j)) = some (sub12 i j) := fun j hj => X.kt i j hi hj
  show [PySem.W.kitOne K (.ref (c i)) (.ref (c 0)), PySem.W.kitOne K (.ref (c i)) (.ref (c 1)), PySem.W.kitOne K (.ref (c i)) (.ref (c 2)), PySem.W.kitOne K (.ref (c i)) (.ref (c 3)), PySem.W.kitOne K (.ref (c i)) (.ref (c 4)), PySem.W.kitOne K (.ref (c i)) (.ref (c 5)),
    PySem.W.kitOne K (.ref (c i)) (.ref (c 6)), PySem.W.kitOne K (.ref (c i)) (.ref (c 7)), PySem.W.kitOne K (.ref (c i)) (.ref (c 8)), PySem.W.kitOne K (.ref (c i)) (.ref (c 9)), PySem.W.kitOne K (.ref (c i)) (.ref (c 10)), PySem.W.kitOne K (.ref (c i)) (.ref (c 11))] = _
  rw [e 0 (by decide), e 1 (by decide), e 2 (by decide), e 3 (by decide), e 4 (by decide), e 5 (by decide), e 6 (by decide), e 7 (by decide), e 8 (by decide), e 9 (by decide), e 10 (by decide), e 11 (by decide)]
  rfl
theorem iteNe {x y : V} {A B : Prop} (h : x = y) (b : B) : if (!decide (x = y)) = true then A else B := by
  rw [decide_eq_true h]
  exact b
theorem iteNd {bs : List Bool} {A B : Prop} (b : B) : if (!PyData.eqv (boolsD bs) (boolsD bs)) = true then A else B := by
  have h : PyData.eqv (boolsD bs) (boolsD bs) = true := by
    show PyData.eqv (.list (bs.map .bool)) (.list (bs.map .bool)) = true
    unfold PyData.eqv
    exact eqv_bools bs
  rw [h]
  exact b
def Sg (d : Addr) (v1 v2 : V) (pm pb : Addr) (σ : L2.St) : Prop := ∃ x5 x6 x7 x8 x9, σ = [some (.ref d), some v1, some v2, some (.ref pm), some (.ref pb), x5, x6, x7, x8, x9]
theorem sub_one {i j : Nat} (h : decide (V.int (0 + (j : Int)) = V.int (i : Int)) = true) : true = sub12 i j := by
  have e := V.int.inj (of_decide_eq_true h)
  obtain rfl : j = i := by omega
  unfold sub12
  rw [decide_eq_true rfl, Bool.true_or]
theorem sub_two {i j : Nat} (h : ¬ decide (V.int (0 + (j : Int)) = V.int (i : Int)) = true) (h2 : decide (V.int (0 + (j : Int)) = V.int 0) = true) : decide ((i : Int) < 6) = sub12 i j := by
  have e := V.int.inj (of_decide_eq_true h2)
  obtain rfl : j = 0 := by omega
  have ne : ¬ (0 : Nat) = i := fun z => h (decide_eq_true (by rw [← z]; rfl))
  unfold sub12
  rw [decide_eq_false ne, decide_eq_true (rfl : (0 : Nat) = 0), Bool.false_or, Bool.true_and, Bool.eq_iff_iff, decide_eq_true_iff, decide_eq_true_iff]
  omega
theorem sub_no {i j : Nat} (h : ¬ decide (V.int (0 + (j : Int)) = V.int (i : Int)) = true) (h2 : ¬ decide (V.int (0 + (j : Int)) = V.int 0) = true) : false = sub12 i j := by
  have ne : ¬ j = i := fun z => h (decide_eq_true (by rw [z]; congr 1; omega))
  have n0 : ¬ j = 0 := fun z => h2 (decide_eq_true (by rw [z]; rfl))
  unfold sub12
  rw [decide_eq_false ne, decide_eq_false n0]
  rfl
/-- the comprehension's list so far -/
def PvS (H : Hp) (D : Addr) (i j : Nat) (H' : Hp) : Prop := Same H H' ∧ H' D = some (.lst (((List.range j).map (sub12 i)).map V.bl))
theorem PvS.step {H H4 : Hp} {D : Addr} {i j : Nat} {b : Bool} (hD : H D = none) (hj : j < 12) (p : PvS H D i j H4) (hb : b = sub12 i j) : ∃ acc, H4 D = some (.lst acc) ∧ acc.length < sizeLine ∧ PvS H D i (j + 1) (upd H4 D (.lst (acc ++ [V.bl b]))) := by
  refine ⟨_, p.2, ?_, same_put hD p.1, ?_⟩
  · rw [List.length_map, List.length_map, List.length_range]
    exact Nat.lt_of_lt_of_le hj (by decide)
  · rw [upd_same, hb, List.range_succ, List.map_append, List.map_append]
    rfl
section
variable {K : PySem.W.Frag} {c : Nat → Addr} {a b : Nat → Addr} {d pm pb : Addr} {v1 v2 : V} {e1 e2 : PyData} {N0 : Hp} {D : Ends} {σ : L2.St}
theorem due_small {i : Nat} (h : (i : Int) < 5) : due (i : Int) e1 e2 = .int (i : Int) := by
  unfold due
  rw [if_pos h]
theorem due_seven : due 7 e1 e2 = .list [e1, e2] := rfl
theorem due_else {i : Nat} (h : ¬ (i : Int) < 5) (h7 : (i : Int) ≠ 7) : due (i : Int) e1 e2 = e1 := by
  unfold due
  rw [if_neg h, if_neg h7]
theorem due_shw {i : Nat} (hi : i < 12) (g1 : Good e1) (g2 : Good e2) : Shw (due (i : Int) e1 e2) := by
  by_cases h : (i : Int) < 5
  · rw [due_small h]
    exact (good_int i (by omega)).shw
  · by_cases h7 : (i : Int) = 7
    · rw [h7, due_seven]
      exact shw_list (fun x hx => by
        rcases List.mem_cons.mp hx with rfl | hx
        · exact g1
        · rcases List.mem_cons.mp hx with rfl | hx
          · exact g2
          · cases hx) (by show 2 ≤ 20; decide)
    · rw [due_else h h7]
      exact g1.shw
theorem l1_ok (X : ClsX K c) (g1 : Good e1) (g2 : Good e2) (hσ : Sg d v1 v2 pm pb σ) (R : Rst c N0 a b pm pb v1 v2 e1 e2) (q : ∀ σ' H', Sg d v1 v2 pm pb σ' → Same N0 H' → D.nx σ' H') : rL1 K c D σ N0 := by
  obtain ⟨y5, y6, y7, y8, y9, rfl⟩ := hσ
  refine ⟨_, rfl, pm, _, rfl, SqL.of R.m, fun i m σ H => m = 12 - i ∧ i ≤ 12 ∧ Sg d v1 v2 pm pb σ ∧ Same N0 H, ⟨12, rfl, Nat.zero_le _, ⟨_, _, _, _, _, rfl⟩, Same.refl _⟩, ?_⟩
  rintro i m σ H ⟨rfl, hi, ⟨x5, x6, x7, x8, x9, rfl⟩, sm⟩
  have R1 := R.same sm
  rcases Nat.lt_or_ge i 12 with hlt | hge
  · refine .inr ⟨⟨_, _, SqL.of R1.m, R1.at i hlt⟩, fun σ' H' => Sg d v1 v2 pm pb σ' ∧ Same N0 H', fun σ' H' h => ⟨12 - (i + 1), by omega, rfl, hlt, h.1, h.2⟩, ?_⟩
    rintro x H' ⟨T, x', rfl, hT, rfl, hx⟩
    obtain rfl : V.ref (a i) = x' := Option.some.inj ((R1.at i hlt).symm.trans (hx _ (SqL.of R1.m)))
    have smT := sm.trans (same_upd (o := .tup [.int (i : Nat), .ref (a i)]) hT)
    have R2 := R.same smT
    refine ⟨T, _, rfl, SqT.of upd_same, rfl, _, _, rfl, _, _, rfl, rfl, ?_⟩
    refine ⟨_, rfl, .ref (a i), .ref (c i), (List.range 12).map (sub12 i), rfl, R2.ty X i hlt, kits12 X hlt, fun H3 p3 s3 n3 k3 => ?_⟩
    refine ⟨12, rfl, by decide, by decide, fun Dl hD => lc_range (PvS H3 Dl i) ⟨same_upd hD, upd_same⟩ (fun j H4 hj p => ?_) (fun H5 p => ?_)⟩
    · refine ⟨rfl, _, rfl, _, rfl, rfl, _, rfl, ite2 (fun h => p.step hD hj (sub_one h)) (fun h => ⟨_, rfl, rfl, _, rfl, ite2 (fun h2 => ⟨_, rfl, (i : Int), 6, rfl, rfl, p.step hD hj (sub_two h h2)⟩) (fun h2 => p.step hD hj (sub_no h h2))⟩)⟩
    · refine ⟨boolsD _, boolsD _, dp_bools (p.1 _ _ k3), dp_bools p.2, shaped_bools _, shaped_bools _, _, rfl, iteNd ?_⟩
      have sm5 := (smT.trans s3).trans p.1
      have R5 := R.same sm5
      have tail : ∀ (r : V) (H6 : Hp), Same H5 H6 → Dt All H6 r (due (i : Int) e1 e2) → tIfS (tOr (tTest (tOp rNe (tCB rRep (tCons (tCall (spCaught 2) [] E0 (tCons (tVar 5) (tCons (tVar 1) (tCons (tVar 2) tNil)))) tNil)) (tCB rRep (tCons (tVar 7) tNil))))
          (tTest (tOp rNe (tCall (spByBase 2) [] E0 (tCons (tVar 5) (tCons (tVar 1) tNil))) (tOp (rI0 fun i j => .bl (decide (i < j))) (tVar 5) (tC (.int 6)))))) (tRet (tC (.bl false))) tNext
          { D with nx := fun σ' H' => Sg d v1 v2 pm pb σ' ∧ Same N0 H', ct := fun σ' H' => Sg d v1 v2 pm pb σ' ∧ Same N0 H', bk := D.nx } [some (.ref d), some v1, some v2, some (.ref pm), some (.ref pb), some (.int (i : Nat)), some (.ref (a i)), some r, x8, x9] H6 := by
        intro r H6 s6 hr
        have sm6 := sm5.trans s6
        have R6 := R.same sm6
        have sh := due_shw (i := i) hlt g1 g2
        refine ⟨_, rfl, _, rfl, _, rfl, (i : Int), v1, v2, All, e1, e2, rfl, by omega, by omega, R6.t1, R6.t2, g1.2.1, g2.2.1, fun H7 r' s7 dt' => ?_⟩
        refine ⟨r', _, _, rfl, dt', sh.1, sh.2.1, sh.2.2, _, rfl, r, _, _, rfl, hr.same s7, sh.1, sh.2.1, sh.2.2, rfl, _, rfl, iteNe rfl ?_⟩
        refine ⟨_, rfl, _, rfl, (i : Int), v1, All, e1, rfl, by omega, by omega, R6.t1.same s7, g1.2.1, fun H8 s8 => ?_⟩
        exact ⟨_, rfl, (i : Int), 6, rfl, rfl, rfl, _, rfl, iteNe rfl ⟨⟨_, _, _, _, _, rfl⟩, (sm6.trans s7).trans s8⟩⟩
      refine ⟨_, rfl, (i : Int), 5, rfl, rfl, _, rfl, ite2 (fun h => ⟨_, rfl, ?_⟩) (fun h => ⟨_, rfl, rfl, _, rfl, ite2 (fun h7 => ⟨_, rfl, ?_⟩) (fun h7 => ⟨_, rfl, _, rfl, (by show 2 ≤ sizeLine; decide), fun p9 hp9 => ?_⟩)⟩)⟩
      · refine tail _ _ (Same.refl _) ?_
        rw [due_small (of_decide_eq_true h)]
        exact .at (.int _)
      · refine tail _ _ (Same.refl _) ?_
        rw [due_else (fun z => h (decide_eq_true z)) (fun z => by rw [z] at h7; revert h7; decide)]
        exact R5.t1
      · refine tail _ _ (same_upd hp9) ?_
        have z : (i : Int) = 7 := by
          by_cases y : (i : Int) = 7
          · exact y
          · exact absurd (show (!decide (V.int (i : Int) = V.int 7)) = true by rw [decide_eq_false (fun x => y (V.int.inj x))]; rfl) h7
        rw [z, due_seven]
        have st : ∀ {x : V} {t : PyData}, Dt All H5 x t → Dt All (upd H5 p9 (.lst [v1, v2])) x t := fun {x t} y => y.same (same_upd hp9)
        exact .lst trivial upd_same (by show 2 ≤ 1000; decide) (.cons (st R5.t1) (.cons (st R5.t2) .nil))
  · obtain rfl : i = 12 := by omega
    exact .inl ⟨⟨_, SqL.of R1.m, Nat.le_refl 12⟩, q _ _ ⟨_, _, _, _, _, rfl⟩ sm⟩
end
end OM

namespace OM
open PySem PySem.Spec PyProof.Rows L2
def rL2 (K : PySem.W.Frag) (c : Nat → Addr) : TS := tFor (iEnum K (tCons (tVar 4) tNil)) (gTup K 2 (gCons (gName 5) (gCons (gName 6) gNil)))
  (tIfS (tOr (tTest (tOp (rNeD K) (tCall (spKinds K [c 0, c 1, c 2, c 3, c 4, c 5, c 6, c 7, c 8, c 9, c 10, c 11]) [] E0 (tCons (tVar 6) tNil)) (tCall (spKinds K [c 0, c 1, c 2, c 3, c 4, c 5, c 6, c 7, c 8, c 9, c 10, c 11]) [] E0 (tCons (tOp (rIxL K) (tVar 3) (tVar 5)) tNil))))
    (tTest (tOp (rNeD K) (tCall (spSorts K) [] E0 (tCons (tVar 6) tNil)) (tCall (spSorts K) [] E0 (tCons (tOp (rIxL K) (tVar 3) (tVar 5)) tNil))))) (tRet (tC (.bl false))) tNext)
def xAt (K : PySem.W.Frag) (f : Str) (i : Int) : TE := tXfB K f (tOp (rIxL K) (tVar 3) (tC (.int i)))
def rKept (K : PySem.W.Frag) : TS := tAsg (tLst (tCons (xAt K "line" 5) (tCons (xAt K "name" 6) (tCons (xAt K "test" 7) (tCons (xAt K "value" 8) (tCons (xAt K "limit" 9) (tCons (xAt K "many" 10) (tCons (xAt K "reason" 11) tNil)))))))) (gName 8)
def rEnd (K : PySem.W.Frag) : TS := tRet (tAndV (tOp rEq (tCB OM.rRep (tCons (tVar 8) tNil)) (tCB OM.rRep (tCons (tOp L2.rRep (tLst (tCons (tVar 1) tNil)) (tC (.int 7))) tNil))) (tOp rEq (tCB OM.rRep (tCons (xAt K "value" 7) tNil)) (tCB OM.rRep (tCons (tVar 2) tNil))))
theorem iteDe {x y : V} {A B : Prop} (h : x = y) (b : A) : if decide (x = y) = true then A else B := by
  rw [decide_eq_true h]
  exact b
section
variable {P : Program} {w : World} {K : PySem.W.Frag} {mg : Str → Option Value} {base : Heap} {c f : Nat → Addr} {fd : Nat → FuncData} {a b : Nat → Addr} {d pm pb : Addr} {v1 v2 : V} {e1 e2 : PyData} {N0 : Hp} {D : Ends} {σ : L2.St}
theorem l2_ok (X : ClsX K c) (hσ : Sg d v1 v2 pm pb σ) (R : Rst c N0 a b pm pb v1 v2 e1 e2) (q : ∀ σ' H', Sg d v1 v2 pm pb σ' → Same N0 H' → D.nx σ' H') : rL2 K c D σ N0 := by
  obtain ⟨y5, y6, y7, y8, y9, rfl⟩ := hσ
  refine ⟨_, rfl, pb, _, rfl, SqL.of R.l, fun i m σ H => m = 5 - i ∧ i ≤ 5 ∧ Sg d v1 v2 pm pb σ ∧ Same N0 H, ⟨5, rfl, Nat.zero_le _, ⟨_, _, _, _, _, rfl⟩, Same.refl _⟩, ?_⟩
  rintro i m σ H ⟨rfl, hi, ⟨x5, x6, x7, x8, x9, rfl⟩, sm⟩
  have R1 := R.same sm
  rcases Nat.lt_or_ge i 5 with hlt | hge
  · have h12 : i < 12 := by omega
    refine .inr ⟨⟨_, _, SqL.of R1.l, R1.atB i hlt⟩, fun σ' H' => Sg d v1 v2 pm pb σ' ∧ Same N0 H', fun σ' H' h => ⟨5 - (i + 1), by omega, rfl, hlt, h.1, h.2⟩, ?_⟩
    rintro x H' ⟨T, x', rfl, hT, rfl, hx⟩
    obtain rfl : V.ref (b i) = x' := Option.some.inj ((R1.atB i hlt).symm.trans (hx _ (SqL.of R1.l)))
    have smT := sm.trans (same_upd (o := .tup [.int (i : Nat), .ref (b i)]) hT)
    have R2 := R.same smT
    have tyB : ∀ {H9 : Hp}, Same N0 H9 → TyN K H9 (.ref (b i)) (.ref (c i)) := fun {H9} s => .exc (X.xc i h12) ((R.same s).ob i hlt)
    refine ⟨T, _, rfl, SqT.of upd_same, rfl, _, _, rfl, _, _, rfl, rfl, ?_⟩
    refine ⟨_, rfl, .ref (b i), .ref (c i), (List.range 12).map (sub12 i), rfl, tyB smT, kits12 X h12, fun H3 p3 s3 n3 k3 => ?_⟩
    have sm3 := smT.trans s3
    refine ⟨_, rfl, _, rfl, pm, _, (i : Int), .ref (a i), rfl, rfl, SqL.of (R.same sm3).m, atI_nat ((R.same sm3).at i h12), ?_⟩
    refine ⟨.ref (a i), .ref (c i), (List.range 12).map (sub12 i), rfl, (R.same sm3).ty X i h12, kits12 X h12, fun H4 p4 s4 n4 k4 => ?_⟩
    refine ⟨boolsD _, boolsD _, dp_bools (s4 _ _ k3), dp_bools k4, shaped_bools _, shaped_bools _, _, rfl, iteNd ?_⟩
    have sm4 := sm3.trans s4
    refine ⟨_, rfl, .ref (b i), .ref (c i), srt7 i, rfl, tyB sm4, X.ks i h12, fun H5 p5 s5 n5 k5 => ?_⟩
    have sm5 := sm4.trans s5
    refine ⟨_, rfl, _, rfl, pm, _, (i : Int), .ref (a i), rfl, rfl, SqL.of (R.same sm5).m, atI_nat ((R.same sm5).at i h12), ?_⟩
    refine ⟨.ref (a i), .ref (c i), srt7 i, rfl, (R.same sm5).ty X i h12, X.ks i h12, fun H6 p6 s6 n6 k6 => ?_⟩
    exact ⟨boolsD _, boolsD _, dp_bools (s6 _ _ k5), dp_bools k6, shaped_bools _, shaped_bools _, _, rfl, iteNd ⟨⟨_, _, _, _, _, rfl⟩, sm5.trans s6⟩⟩
  · obtain rfl : i = 5 := by omega
    exact .inl ⟨⟨_, SqL.of R1.l, Nat.le_refl 5⟩, q _ _ ⟨_, _, _, _, _, rfl⟩ sm⟩
theorem kept_ok (C : ClsP P w K mg base 2 c f fd) (X : ClsX K c) (g1 : Good e1) (g2 : Good e2) (hσ : Sg d v1 v2 pm pb σ) (R : Rst c N0 a b pm pb v1 v2 e1 e2) (q : ∀ H', Same N0 H' → D.rt (.bl true) H') : tSeq (rKept K) (rEnd K) D σ N0 := by
  obtain ⟨y5, y6, y7, y8, y9, rfl⟩ := hσ
  obtain ⟨dx5, fs5, a5, b5, h5⟩ := R.o5
  obtain ⟨w5, l5, t5⟩ := h5 "line" e1 rfl
  obtain ⟨dx6, fs6, a6, b6, h6⟩ := R.o6
  obtain ⟨w6, l6, t6⟩ := h6 "name" e1 rfl
  obtain ⟨dx7, fs7, a7, b7, h7⟩ := R.o7
  obtain ⟨w7, l7, t7⟩ := h7 "test" e1 rfl
  obtain ⟨u7, m7, r7⟩ := h7 "value" e2 rfl
  obtain ⟨dx8, fs8, a8, b8, h8⟩ := R.o8
  obtain ⟨w8, l8, t8⟩ := h8 "value" e1 rfl
  obtain ⟨dx9, fs9, a9, b9, h9⟩ := R.o9
  obtain ⟨w9, l9, t9⟩ := h9 "limit" e1 rfl
  obtain ⟨dx10, fs10, a10, b10, h10⟩ := R.o10
  obtain ⟨w10, l10, t10⟩ := h10 "many" e1 rfl
  obtain ⟨dx11, fs11, a11, b11, h11⟩ := R.o11
  obtain ⟨w11, l11, t11⟩ := h11 "reason" e1 rfl
  have sh7 : Shw (.list [e1, e1, e1, e1, e1, e1, e1]) := shw_list (fun x hx => by
    have y : x = e1 := by simpa using hx
    rw [y]
    exact g1) (by show 7 ≤ 20; decide)
  refine ⟨_, rfl, pm, _, 5, .ref (a 5), rfl, rfl, SqL.of R.m, rfl, a 5, c 5, dx5, fs5, w5, rfl, X.xf 5 (by decide), C.k5.no "line" (by simp), a5, b5, l5, ?_⟩
  refine ⟨_, rfl, pm, _, 6, .ref (a 6), rfl, rfl, SqL.of R.m, rfl, a 6, c 6, dx6, fs6, w6, rfl, X.xf 6 (by decide), C.k6.no "name" (by simp), a6, b6, l6, ?_⟩
  refine ⟨_, rfl, pm, _, 7, .ref (a 7), rfl, rfl, SqL.of R.m, rfl, a 7, c 7, dx7, fs7, w7, rfl, X.xf 7 (by decide), C.k7.no "test" (by simp), a7, b7, l7, ?_⟩
  refine ⟨_, rfl, pm, _, 8, .ref (a 8), rfl, rfl, SqL.of R.m, rfl, a 8, c 8, dx8, fs8, w8, rfl, X.xf 8 (by decide), C.k8.no "value" (by simp), a8, b8, l8, ?_⟩
  refine ⟨_, rfl, pm, _, 9, .ref (a 9), rfl, rfl, SqL.of R.m, rfl, a 9, c 9, dx9, fs9, w9, rfl, X.xf 9 (by decide), C.k9.no "limit" (by simp), a9, b9, l9, ?_⟩
  refine ⟨_, rfl, pm, _, 10, .ref (a 10), rfl, rfl, SqL.of R.m, rfl, a 10, c 10, dx10, fs10, w10, rfl, X.xf 10 (by decide), C.k10.no "many" (by simp), a10, b10, l10, ?_⟩
  refine ⟨_, rfl, pm, _, 11, .ref (a 11), rfl, rfl, SqL.of R.m, rfl, a 11, c 11, dx11, fs11, w11, rfl, X.xf 11 (by decide), C.k11.no "reason" (by simp), a11, b11, l11, ?_⟩
  refine ⟨(by show 7 ≤ sizeLine; decide), fun pk hk => ?_⟩
  have sk := same_upd (o := .lst [w5, w6, w7, w8, w9, w10, w11]) hk
  have dk : Dt All (upd N0 pk (.lst [w5, w6, w7, w8, w9, w10, w11])) (.ref pk) (.list [e1, e1, e1, e1, e1, e1, e1]) := .lst trivial upd_same (by show 7 ≤ 1000; decide) (.cons (t5.same sk) (.cons (t6.same sk) (.cons (t7.same sk) (.cons (t8.same sk) (.cons (t9.same sk) (.cons (t10.same sk) (.cons (t11.same sk) .nil)))))))
  refine ⟨_, rfl, .ref pk, _, _, rfl, dk, sh7.1, sh7.2.1, sh7.2.2, ?_⟩
  refine ⟨_, rfl, (by show 1 ≤ sizeLine; decide), fun p1 hp1 => ⟨p1, 7, _, rfl, rfl, upd_same, by decide, by decide, (by show 1 * 7 ≤ sizeLine; decide), fun p2 hp2 => ?_⟩⟩
  have s2 := (same_upd (o := .lst [v1]) hp1).trans (same_upd (o := .lst (List.replicate (7 : Int).toNat [v1]).flatten) hp2)
  have x1 := (R.t1.same sk).same s2
  refine ⟨.ref p2, _, _, rfl, .lst trivial upd_same (by show 7 ≤ 1000; decide) (.cons x1 (.cons x1 (.cons x1 (.cons x1 (.cons x1 (.cons x1 (.cons x1 .nil))))))), sh7.1, sh7.2.1, sh7.2.2, rfl, _, rfl, iteDe rfl ?_⟩
  have s3 := sk.trans s2
  have R3 := R.same s3
  refine ⟨_, rfl, pm, _, 7, .ref (a 7), rfl, rfl, SqL.of R3.m, rfl, a 7, c 7, dx7, fs7, u7, rfl, X.xf 7 (by decide), C.k7.no "value" (by simp), s3 _ _ a7, s3 _ _ b7, m7, ?_⟩
  have sh2 := g2.shw
  refine ⟨u7, _, _, rfl, r7.same s3, sh2.1, sh2.2.1, sh2.2.2, _, rfl, v2, _, _, rfl, R3.t2, sh2.1, sh2.2.1, sh2.2.2, rfl, ?_⟩
  have e : decide (V.str e2.shown = V.str e2.shown) = true := decide_eq_true rfl
  show D.rt (.bl (decide (V.str e2.shown = V.str e2.shown))) _
  rw [e]
  exact q _ s3
theorem right_rest (C : ClsP P w K mg base 2 c f fd) (X : ClsX K c) (g1 : Good e1) (g2 : Good e2) (hσ : Sg d v1 v2 pm pb σ) (R : Rst c N0 a b pm pb v1 v2 e1 e2) (q : ∀ H', Same N0 H' → D.rt (.bl true) H') : tSeq (rL1 K c) (tSeq (rL2 K c) (tSeq (rKept K) (rEnd K))) D σ N0 := by
  refine l1_ok (D := { D with nx := _ }) X g1 g2 hσ R fun σ' H' h' s' => ?_
  refine l2_ok (D := { D with nx := _ }) X h' (R.same s') fun σ2 H2 h2 s2 => ?_
  exact kept_ok C X g1 g2 h2 (R.same (s'.trans s2)) fun H3 s3 => q H3 ((s'.trans s2).trans s3)
end
end OM

namespace OM
open PySem PySem.Spec PyProof.Rows L2
abbrev sRight : Stmt := top 24
def spRight : Sp := fun vs H Q _ => ∃ d : Addr, vs = [.ref d] ∧ Dice H d ∧ ∀ H', But d H H' → Q (.bl true) H'
/-- all functions that _law_right calls -/
structure RightF (P : Program) (w : World) (K : PySem.W.Frag) (mg : Str → Option Value) (base : Heap) (c f : Nat → Addr) (fd : Nat → FuncData) (fT fS fK fC fB : Addr) (dT dS dK dC dB : FuncData) : Prop where
  C : ClsP P w K mg base 2 c f fd
  X : ClsX K c
  gT : mg "_law_thing" = some (.ref fT)
  gS : mg "_law_sorts" = some (.ref fS)
  gK : mg "_law_kinds" = some (.ref fK)
  gC : mg "_law_caught" = some (.ref fC)
  gB : mg "_law_by_base" = some (.ref fB)
  GT : FnOk P w K mg base CX0 7 fT dT ["_law_dice_here"] spThing
  GS : FnOk P w K mg base CX0 7 fS dS ["_law_e"] (spSorts K)
  GK : FnOk P w K mg base CX0 7 fK dK ["_law_e"] (spKinds K [c 0, c 1, c 2, c 3, c 4, c 5, c 6, c 7, c 8, c 9, c 10, c 11])
  GC : FnOk P w K mg base CX0 7 fC dC ["_law_kind", "_law_one", "_law_other"] (spCaught 2)
  GB : FnOk P w K mg base CX0 7 fB dB ["_law_kind", "_law_one"] (spByBase 2)
  bT : Binds K dT ["_law_dice_here"] []
  bS : Binds K dS ["_law_e"] []
  bK : Binds K dK ["_law_e"] []
  bC : Binds K dC ["_law_kind", "_law_one", "_law_other"] []
  bB : Binds K dB ["_law_kind", "_law_one"] []
  kT : PySem.W.keepIn K (.ref fT) = true
  kS : PySem.W.keepIn K (.ref fS) = true
  kK : PySem.W.keepIn K (.ref fK) = true
  kC : PySem.W.keepIn K (.ref fC) = true
  kB : PySem.W.keepIn K (.ref fB) = true
  rng : mg "range" = none
  enu : mg "enumerate" = none
  rep : mg "repr" = none
section
variable {P : Program} {w : World} {K : PySem.W.Frag} {mg : Str → Option Value} {base : Heap} {g : Addr} {gd : FuncData} {c f : Nat → Addr} {fd : Nat → FuncData} {fT fS fK fC fB : Addr} {dT dS dK dC dB : FuncData}
theorem scRi : FnScope ["_law_dice_here", "_law_one", "_law_other", "_law_made", "_law_bare", "_law_kind", "_law_e", "_law_due", "_law_kept", "_law_spot"] ["_law_dice_here"] (defScope sRight) := ⟨rfl, rfl, rfl, by decide +kernel, rfl, by decide +kernel, by decide +kernel⟩
theorem ok_right (F : Fun K "_law_right" "_law_right" sRight g gd) (R : RightF P w K mg base c f fd fT fS fK fC fB dT dS dK dC dB) (hs : ∃ o, base.get? sysModules = some o) : GFn P w K mg base 8 g gd ["_law_dice_here"] spRight := by
  refine gfn_of F scRi (fun vs H Q E h => ?_) (fun cdv A outer s H vs Q E hga hr h => ?_)
  · obtain ⟨d, rfl, _⟩ := h
    rfl
  · obtain ⟨d, rfl, hd, q⟩ := h
    obtain ⟨ds0, hv0, hb0⟩ := R.C.b0d
    have hgd : (A.deeper (envOfC "_law_right" (defScope sRight) s.heap.objs.size g cdv)).guards = some [] := hga
    have hu : (A.deeper (envOfC "_law_right" (defScope sRight) s.heap.objs.size g cdv)).units + 25 < cLine := by
      have := hr.un
      omega
    have hu2 : (A.deeper (envOfC "_law_right" (defScope sRight) s.heap.objs.size g cdv)).units + 64 < cLine := by
      have := hr.un
      omega
    refine ⟨_, pss_cons (ps_par (i := 1) (j := 2) rfl scRi.nd rfl rfl (by decide) (by rfl) (by rfl) (pa_cons (pe_call R.GT hr (by rfl) R.gT R.kT R.bT .nil pass0 (pa_cons (pv 0) pa_nil)) (pa_cons (pe_call R.GT hr (by rfl) R.gT R.kT R.bT .nil pass0 (pa_cons (pv 0) pa_nil)) pa_nil)) (by rfl))
      (pss_cons (ps_set (i := 3) scRi.nd rfl (Or.inl rfl) (pe_lst (pa_cons (pe_mkV (Classical.choose_spec (R.C.k0).made).1 (R.C.i0) (hr.mono (by decide)) (by rfl) R.C.g.g0 R.C.b0 .nil pass0 (pa_cons (pv 1) pa_nil)) (pa_cons (pe_mkV (Classical.choose_spec (R.C.k1).made).1 (R.C.i0) (hr.mono (by decide)) (by rfl) R.C.g.g1 R.C.b0 .nil pass0 (pa_cons (pv 1) pa_nil)) (pa_cons (pe_mkV (Classical.choose_spec (R.C.k2).made).1 (R.C.i0) (hr.mono (by decide)) (by rfl) R.C.g.g2 R.C.b0 .nil pass0 (pa_cons (pv 1) pa_nil))
        (pa_cons (pe_mkV (Classical.choose_spec (R.C.k3).made).1 (R.C.i0) (hr.mono (by decide)) (by rfl) R.C.g.g3 R.C.b0 .nil pass0 (pa_cons (pv 1) pa_nil)) (pa_cons (pe_mkV (Classical.choose_spec (R.C.k4).made).1 (R.C.i0) (hr.mono (by decide)) (by rfl) R.C.g.g4 R.C.b0 .nil pass0 (pa_cons (pv 1) pa_nil)) pa_nil)))))))
      (pss_cons (ps_set (i := 4) scRi.nd rfl (Or.inl rfl) (pe_lst (pa_cons (pe_mkV0 (Classical.choose_spec (R.C.k0).made).1 R.C.i0 (hr.mono (by decide)) (by rfl) R.C.g.g0 hb0 hv0 pass0) (pa_cons (pe_mkV0 (Classical.choose_spec (R.C.k1).made).1 R.C.i0 (hr.mono (by decide)) (by rfl) R.C.g.g1 hb0 hv0 pass0) (pa_cons (pe_mkV0 (Classical.choose_spec (R.C.k2).made).1 R.C.i0 (hr.mono (by decide)) (by rfl) R.C.g.g2 hb0 hv0 pass0) (pa_cons (pe_mkV0 (Classical.choose_spec (R.C.k3).made).1 R.C.i0 (hr.mono (by decide)) (by rfl) R.C.g.g3 hb0 hv0 pass0) (pa_cons (pe_mkV0 (Classical.choose_spec (R.C.k4).made).1 R.C.i0 (hr.mono (by decide)) (by rfl) R.C.g.g4 hb0 hv0 pass0) pa_nil)))))))
      (pss_cons (ps_set (i := 3) scRi.nd rfl (Or.inl rfl) (pe_op op_cat (pv 3) (pe_lst (pa_cons (pe_mkV (Classical.choose_spec (R.C.k5).made).1 (R.C.i5) (hr.mono (by decide)) (by rfl) R.C.g.g5 R.C.b5 .nil pass0 (pa_cons (pv 1) pa_nil)) (pa_cons (pe_mkV (Classical.choose_spec (R.C.k6).made).1 (R.C.i6) (hr.mono (by decide)) (by rfl) R.C.g.g6 R.C.b6 .nil pass0 (pa_cons (pv 1) pa_nil))
        (pa_cons (pe_mkV (Classical.choose_spec R.C.k7.made).1 R.C.i7 (hr.mono (by decide)) (by rfl) R.C.g.g7 R.C.b7 .nil pass0 (pa_cons (pv 1) (pa_cons (pv 2) pa_nil))) (pa_cons (pe_mkV (Classical.choose_spec (R.C.k8).made).1 (R.C.i8) (hr.mono (by decide)) (by rfl) R.C.g.g8 R.C.b8 .nil pass0 (pa_cons (pv 1) pa_nil)) pa_nil)))))))
      (pss_cons (ps_set (i := 3) scRi.nd rfl (Or.inl rfl) (pe_op op_cat (pv 3) (pe_lst (pa_cons (pe_mkV (Classical.choose_spec (R.C.k9).made).1 (R.C.i9) (hr.mono (by decide)) (by rfl) R.C.g.g9 R.C.b9 .nil pass0 (pa_cons (pv 1) pa_nil)) (pa_cons (pe_mkV (Classical.choose_spec (R.C.k10).made).1 (R.C.i10) (hr.mono (by decide)) (by rfl) R.C.g.g10 R.C.b10 .nil pass0 (pa_cons (pv 1) pa_nil)) (pa_cons (pe_mkV (Classical.choose_spec (R.C.k11).made).1 (R.C.i11) (hr.mono (by decide)) (by rfl) R.C.g.g11 R.C.b11 .nil pass0 (pa_cons (pv 1) pa_nil)) pa_nil))))))
      (pss_cons (ps_for PassesOwn.never rfl (pi_enum (by rfl) R.enu (pa_cons (pv 3) pa_nil)) (pg_tup rfl (pgs_cons (pg_name (i := 5) scRi.nd rfl (Or.inr rfl)) (pgs_cons (pg_name (i := 6) scRi.nd rfl (Or.inl rfl)) pgs_nil)))
        (pss_cons (ps_if (pt_cmpR (op_neD hu2) ((pe_call R.GK hr (by rfl) R.gK R.kK R.bK .nil pass0 (pa_cons (pv 6) pa_nil))) (pe_lc (own := [("_law_spot", 9)]) rfl scRi.nd (pi_range1 (by rfl) R.rng (pa_cons pe_int pa_nil)) (blkOk_by (N := ["_law_dice_here", "_law_one", "_law_other", "_law_made", "_law_bare", "_law_kind", "_law_e", "_law_due", "_law_kept", "_law_spot"]) (sc := defScope sRight) (by decide +kernel))
            (fun _ _ _ _ _ => pg_name (i := 9) scRi.nd rfl (Or.inl rfl)) (fun _ _ _ _ _ => pts_nil)
            (fun _ _ _ _ _ => pe_or (pe_cmpR op_eq (pv 9) (pv 5) (nomark _)) (pe_one (pe_and (pe_cmpR op_eq (pv 9) pe_int (nomark _)) (pe_one (pe_cmpR op_lt (pv 5) pe_int (nomark _))))))) (nomark _)) (pss_one (ps_ret pe_bl)) pss_nil)
        (pss_cons (ps_set (i := 7) scRi.nd rfl (Or.inl rfl) (pe_ifExp (pt_cmpR op_lt (pv 5) pe_int (nomark _)) (pv 5) (pe_ifExp (pt_cmpR op_ne (pv 5) pe_int (nomark _)) (pv 1) (pe_lst (pa_cons (pv 1) (pa_cons (pv 2) pa_nil))))))
        (pss_one (ps_if (PW.pt (pw_or (pt_cmpR op_ne ((pe_callB (call_rep hgd hu hs) (by rfl) R.rep (by decide +kernel) (pa_cons (pe_call R.GC hr (by rfl) R.gC R.kC R.bC .nil pass0 (pa_cons (pv 5) (pa_cons (pv 1) (pa_cons (pv 2) pa_nil)))) pa_nil))) ((pe_callB (call_rep hgd hu hs) (by rfl) R.rep (by decide +kernel) (pa_cons (pv 7) pa_nil))) (nomark _))
            (pw_or1 (pt_cmpR op_ne (pe_call R.GB hr (by rfl) R.gB R.kB R.bB .nil pass0 (pa_cons (pv 5) (pa_cons (pv 1) pa_nil))) (pe_cmpR op_lt (pv 5) pe_int (nomark _)) (nomark _))))) (pss_one (ps_ret pe_bl)) pss_nil)))))
      (pss_cons (ps_for PassesOwn.never rfl (pi_enum (by rfl) R.enu (pa_cons (pv 4) pa_nil)) (pg_tup rfl (pgs_cons (pg_name (i := 5) scRi.nd rfl (Or.inr rfl)) (pgs_cons (pg_name (i := 6) scRi.nd rfl (Or.inl rfl)) pgs_nil)))
        (pss_one (ps_if (PW.pt (pw_or (pt_cmpR (op_neD hu2) ((pe_call R.GK hr (by rfl) R.gK R.kK R.bK .nil pass0 (pa_cons (pv 6) pa_nil))) ((pe_call R.GK hr (by rfl) R.gK R.kK R.bK .nil pass0 (pa_cons (pe_ix ix_list (pv 3) (pv 5) (fun _ _ => rfl)) pa_nil))) (nomark _)) (pw_or1 (pt_cmpR (op_neD hu2) ((pe_call R.GS hr (by rfl) R.gS R.kS R.bS .nil pass0 (pa_cons (pv 6) pa_nil))) ((pe_call R.GS hr (by rfl) R.gS R.kS R.bS .nil pass0 (pa_cons (pe_ix ix_list (pv 3) (pv 5) (fun _ _ => rfl)) pa_nil))) (nomark _))))) (pss_one (ps_ret pe_bl)) pss_nil)))
      (pss_cons (ps_set (i := 8) scRi.nd rfl (Or.inl rfl) (pe_lst (pa_cons (pe_xfB (pe_ix ix_list (pv 3) pe_int (fun _ _ => rfl))) (pa_cons (pe_xfB (pe_ix ix_list (pv 3) pe_int (fun _ _ => rfl))) (pa_cons (pe_xfB (pe_ix ix_list (pv 3) pe_int (fun _ _ => rfl))) (pa_cons (pe_xfB (pe_ix ix_list (pv 3) pe_int (fun _ _ => rfl))) (pa_cons (pe_xfB (pe_ix ix_list (pv 3) pe_int (fun _ _ => rfl))) (pa_cons (pe_xfB (pe_ix ix_list (pv 3) pe_int (fun _ _ => rfl))) (pa_cons (pe_xfB (pe_ix ix_list (pv 3) pe_int (fun _ _ => rfl))) pa_nil)))))))))
      (pss_one (ps_ret (pe_and (pe_cmpR op_eq ((pe_callB (call_rep hgd hu hs) (by rfl) R.rep (by decide +kernel) (pa_cons (pv 8) pa_nil))) ((pe_callB (call_rep hgd hu hs) (by rfl) R.rep (by decide +kernel) (pa_cons (pe_op op_rep (pe_lst (pa_cons (pv 1) pa_nil)) pe_int) pa_nil))) (nomark _)) (pe_one (pe_cmpR op_eq ((pe_callB (call_rep hgd hu hs) (by rfl) R.rep (by decide +kernel) (pa_cons (pe_xfB (pe_ix ix_list (pv 3) pe_int (fun _ _ => rfl))) pa_nil))) ((pe_callB (call_rep hgd hu hs) (by rfl) R.rep (by decide +kernel) (pa_cons (pv 2) pa_nil))) (nomark _))))))))))))), ?_⟩
    have z : ∀ n, n ≤ 100 → n ≤ sizeLine := fun n hn => Nat.le_trans hn (by decide)
    refine ⟨_, rfl, d, rfl, hd, fun H1 v1 e1 b1 hd1 t1 g1 => ⟨_, rfl, d, rfl, hd1, fun H2 v2 e2 b2 hd2 t2 g2 => ⟨v1, v2, rfl, ?_⟩⟩⟩
    have t1 := (t1.mv (S' := All) (fun _ _ => trivial) fun b o hb e => b2 b o hb e)
    have t2 := t2.all
    have bb : But d H H2 := fun b o hb e => b2 b o hb (b1 b o hb e)
    refine ⟨v1, rfl, (by show 1 ≤ 1000; decide), fun a0 h0 => ⟨a0, c 0, v1, rfl, R.C.k0.raw upd_same, rfl, ?_⟩⟩
    generalize eJ0 : upd H2 a0 (exo a0 (c 0) none) = J0
    have s0 : Same H2 J0 := eJ0 ▸ same_upd h0
    have o0 : ObN J0 a0 (c 0) := eJ0 ▸ upd_same
    refine ⟨v1, rfl, (by show 1 ≤ 1000; decide), fun a1 h1 => ⟨a1, c 1, v1, rfl, R.C.k1.raw upd_same, rfl, ?_⟩⟩
    generalize eJ1 : upd J0 a1 (exo a1 (c 1) none) = J1
    have s1 : Same J0 J1 := eJ1 ▸ same_upd h1
    have o1 : ObN J1 a1 (c 1) := eJ1 ▸ upd_same
    refine ⟨v1, rfl, (by show 1 ≤ 1000; decide), fun a2 h2 => ⟨a2, c 2, v1, rfl, R.C.k2.raw upd_same, rfl, ?_⟩⟩
    generalize eJ2 : upd J1 a2 (exo a2 (c 2) none) = J2
    have s2 : Same J1 J2 := eJ2 ▸ same_upd h2
    have o2 : ObN J2 a2 (c 2) := eJ2 ▸ upd_same
    refine ⟨v1, rfl, (by show 1 ≤ 1000; decide), fun a3 h3 => ⟨a3, c 3, v1, rfl, R.C.k3.raw upd_same, rfl, ?_⟩⟩
    generalize eJ3 : upd J2 a3 (exo a3 (c 3) none) = J3
    have s3 : Same J2 J3 := eJ3 ▸ same_upd h3
    have o3 : ObN J3 a3 (c 3) := eJ3 ▸ upd_same
    refine ⟨v1, rfl, (by show 1 ≤ 1000; decide), fun a4 h4 => ⟨a4, c 4, v1, rfl, R.C.k4.raw upd_same, rfl, ?_⟩⟩
    generalize eJ4 : upd J3 a4 (exo a4 (c 4) none) = J4
    have s4 : Same J3 J4 := eJ4 ▸ same_upd h4
    have o4 : ObN J4 a4 (c 4) := eJ4 ▸ upd_same
    refine ⟨z _ (by simp), fun p3 hp3 => ?_⟩
    have sP3 := same_upd (o := .lst [.ref a0, .ref a1, .ref a2, .ref a3, .ref a4]) hp3
    refine ⟨(by show 0 ≤ 1000; decide), fun b0 i0 => ⟨b0, c 0, .str "", rfl, R.C.k0.raw upd_same, rfl, ?_⟩⟩
    generalize eL0 : upd (upd J4 p3 (.lst [.ref a0, .ref a1, .ref a2, .ref a3, .ref a4])) b0 (exo b0 (c 0) none) = L0
    have r0 : Same (upd J4 p3 (.lst [.ref a0, .ref a1, .ref a2, .ref a3, .ref a4])) L0 := eL0 ▸ same_upd i0
    have q0 : ObN L0 b0 (c 0) := eL0 ▸ upd_same
    refine ⟨(by show 0 ≤ 1000; decide), fun b1 i1 => ⟨b1, c 1, .str "", rfl, R.C.k1.raw upd_same, rfl, ?_⟩⟩
    generalize eL1 : upd L0 b1 (exo b1 (c 1) none) = L1
    have r1 : Same L0 L1 := eL1 ▸ same_upd i1
    have q1 : ObN L1 b1 (c 1) := eL1 ▸ upd_same
    refine ⟨(by show 0 ≤ 1000; decide), fun b2 i2 => ⟨b2, c 2, .str "", rfl, R.C.k2.raw upd_same, rfl, ?_⟩⟩
    generalize eL2 : upd L1 b2 (exo b2 (c 2) none) = L2
    have r2 : Same L1 L2 := eL2 ▸ same_upd i2
    have q2 : ObN L2 b2 (c 2) := eL2 ▸ upd_same
    refine ⟨(by show 0 ≤ 1000; decide), fun b3 i3 => ⟨b3, c 3, .str "", rfl, R.C.k3.raw upd_same, rfl, ?_⟩⟩
    generalize eL3 : upd L2 b3 (exo b3 (c 3) none) = L3
    have r3 : Same L2 L3 := eL3 ▸ same_upd i3
    have q3 : ObN L3 b3 (c 3) := eL3 ▸ upd_same
    refine ⟨(by show 0 ≤ 1000; decide), fun b4 i4 => ⟨b4, c 4, .str "", rfl, R.C.k4.raw upd_same, rfl, ?_⟩⟩
    generalize eL4 : upd L3 b4 (exo b4 (c 4) none) = L4
    have r4 : Same L3 L4 := eL4 ▸ same_upd i4
    have q4 : ObN L4 b4 (c 4) := eL4 ▸ upd_same
    refine ⟨z _ (by simp), fun p4 hp4 => ?_⟩
    have sP4 := same_upd (o := .lst [.ref b0, .ref b1, .ref b2, .ref b3, .ref b4]) hp4
    have sA := (((s0.trans s1).trans s2).trans s3).trans s4
    have sB := ((((sP3.trans r0).trans r1).trans r2).trans r3).trans r4
    have x1 := t1.same ((sA.trans sB).trans sP4)
    have x2 := t2.same ((sA.trans sB).trans sP4)
    refine ⟨_, rfl, v1, rfl, (by show 1 ≤ 1000; decide), fun a5 h5 => ⟨a5, c 5, v1, e1, All, rfl, R.C.k5.raw upd_same, (x1).same (same_upd h5), g1.2.1, fun J5 M5 => ⟨rfl, ?_⟩⟩⟩
    have s5 := made_same h5 M5
    have o5 := made_ob M5
    refine ⟨v1, rfl, (by show 1 ≤ 1000; decide), fun a6 h6 => ⟨a6, c 6, v1, e1, All, rfl, R.C.k6.raw upd_same, (x1.same s5).same (same_upd h6), g1.2.1, fun J6 M6 => ⟨rfl, ?_⟩⟩⟩
    have s6 := made_same h6 M6
    have o6 := made_ob M6
    refine ⟨v1, rfl, v2, rfl, (by show 2 ≤ 1000; decide), fun a7 h7 => ⟨a7, c 7, v1, v2, e1, e2, fun b => b ≠ a7, rfl, R.C.k7.raw upd_same, apart h7 (x1.same (s5.trans s6)), apart h7 (x2.same (s5.trans s6)), fun _ y => y, g1.2.1, g2.2.1, fun J7 M7 => ⟨rfl, ?_⟩⟩⟩
    have s7 := made_same h7 M7
    have o7 := made_ob M7
    refine ⟨v1, rfl, (by show 1 ≤ 1000; decide), fun a8 h8 => ⟨a8, c 8, v1, e1, All, rfl, R.C.k8.raw upd_same, (x1.same ((s5.trans s6).trans s7)).same (same_upd h8), g1.2.1, fun J8 M8 => ⟨rfl, ?_⟩⟩⟩
    have s8 := made_same h8 M8
    have o8 := made_ob M8
    refine ⟨z _ (by simp), fun p5 hp5 => ?_⟩
    have sC := ((s5.trans s6).trans s7).trans s8
    have sP5 := same_upd (o := .lst [.ref a5, .ref a6, .ref a7, .ref a8]) hp5
    refine ⟨p3, p5, _, _, rfl, rfl, (((((r0.trans r1).trans r2).trans r3).trans r4).trans sP4).trans (sC.trans sP5) _ _ upd_same, upd_same, z _ (by simp), fun p6 hp6 => ?_⟩
    have sP6 := same_upd (o := .lst ([.ref a0, .ref a1, .ref a2, .ref a3, .ref a4] ++ [.ref a5, .ref a6, .ref a7, .ref a8])) hp6
    have s56 := sP5.trans sP6
    have y1 := x1.same (sC.trans s56)
    refine ⟨_, rfl, v1, rfl, (by show 1 ≤ 1000; decide), fun a9 h9 => ⟨a9, c 9, v1, e1, All, rfl, R.C.k9.raw upd_same, (y1).same (same_upd h9), g1.2.1, fun J9 M9 => ⟨rfl, ?_⟩⟩⟩
    have s9 := made_same h9 M9
    have o9 := made_ob M9
    refine ⟨v1, rfl, (by show 1 ≤ 1000; decide), fun a10 h10 => ⟨a10, c 10, v1, e1, All, rfl, R.C.k10.raw upd_same, (y1.same s9).same (same_upd h10), g1.2.1, fun J10 M10 => ⟨rfl, ?_⟩⟩⟩
    have s10 := made_same h10 M10
    have o10 := made_ob M10
    refine ⟨v1, rfl, (by show 1 ≤ 1000; decide), fun a11 h11 => ⟨a11, c 11, v1, e1, All, rfl, R.C.k11.raw upd_same, (y1.same (s9.trans s10)).same (same_upd h11), g1.2.1, fun J11 M11 => ⟨rfl, ?_⟩⟩⟩
    have s11 := made_same h11 M11
    have o11 := made_ob M11
    refine ⟨z _ (by simp), fun p7 hp7 => ?_⟩
    have sD := (s9.trans s10).trans s11
    have sP7 := same_upd (o := .lst [.ref a9, .ref a10, .ref a11]) hp7
    refine ⟨p6, p7, _, _, rfl, rfl, sP7 _ _ (sD _ _ upd_same), upd_same, z _ (by simp), fun p8 hp8 => ?_⟩
    have sP8 := same_upd (o := .lst ([.ref a0, .ref a1, .ref a2, .ref a3, .ref a4] ++ [.ref a5, .ref a6, .ref a7, .ref a8] ++ [.ref a9, .ref a10, .ref a11])) hp8
    have t78 := sP7.trans sP8
    have t8 := s56.trans (sD.trans t78)
    have t4 := sC.trans t8
    have tb := sP4.trans t4
    have ta := (((((sP3.trans r0).trans r1).trans r2).trans r3).trans r4).trans tb
    have N : Rst c (upd (upd J11 p7 (.lst [.ref a9, .ref a10, .ref a11])) p8 (.lst ([.ref a0, .ref a1, .ref a2, .ref a3, .ref a4] ++ [.ref a5, .ref a6, .ref a7, .ref a8] ++ [.ref a9, .ref a10, .ref a11]))) (fun i => [a0, a1, a2, a3, a4, a5, a6, a7, a8, a9, a10, a11].getD i 0) (fun i => [b0, b1, b2, b3, b4].getD i 0) p8 p4 v1 v2 e1 e2 := {
      m := upd_same
      l := t4 _ _ upd_same
      o := fun i hi => match i, hi with
        | 0, _ => ((((o0.same s1).same s2).same s3).same s4).same ta
        | 1, _ => (((o1.same s2).same s3).same s4).same ta
        | 2, _ => ((o2.same s3).same s4).same ta
        | 3, _ => (o3.same s4).same ta
        | 4, _ => o4.same ta
        | n + 5, h => absurd h (by omega)
      ob := fun i hi => match i, hi with
        | 0, _ => ((((q0.same r1).same r2).same r3).same r4).same tb
        | 1, _ => (((q1.same r2).same r3).same r4).same tb
        | 2, _ => ((q2.same r3).same r4).same tb
        | 3, _ => (q3.same r4).same tb
        | 4, _ => q4.same tb
        | n + 5, h => absurd h (by omega)
      o5 := o5.same (((s6.trans s7).trans s8).trans t8)
      o6 := o6.same ((s7.trans s8).trans t8)
      o7 := o7.same (s8.trans t8)
      o8 := o8.same t8
      o9 := o9.same ((s10.trans s11).trans t78)
      o10 := o10.same (s11.trans t78)
      o11 := o11.same t78
      t1 := x1.same t4
      t2 := x2.same t4 }
    have fin := sA.trans ta
    exact right_rest R.C R.X g1 g2 (d := d) (pm := p8) (pb := p4) ⟨_, _, _, _, _, rfl⟩ N fun H' s' => q H' fun b o hb eb => s' _ _ (fin _ _ (bb b o hb eb))
end
end OM

namespace OM
open PySem PySem.Spec PyProof.Rows L2
abbrev sLaw : Stmt := top 25
def spLaw (K : PySem.W.Frag) : Sp := fun vs H Q _ => ∃ (a : Addr) (ns : List Int), vs = [.ref a] ∧ ns.length ≤ 63 ∧ SqL K H a (ns.map V.int) ∧ ∀ H', Q (.bl true) H'
theorem seq_but {K : PySem.W.Frag} {H H' H2 : Hp} {a p : Addr} {xs : List V} (h : SqL K H a xs) (n : H p = none) (s : Same H H') (b : But p H' H2) : SqL K H2 a xs := by
  rcases h with (h | ⟨o, h⟩) | h
  · exact .inl (.inl (b _ _ (ne_of_none h n) (s _ _ h)))
  · exact .inl (.inr ⟨o, b _ _ (ne_of_none h n) (s _ _ h)⟩)
  · exact .inr h
theorem seq_same {K : PySem.W.Frag} {H H' : Hp} {a : Addr} {xs : List V} (h : SqL K H a xs) (s : Same H H') : SqL K H' a xs := by
  rcases h with (h | ⟨o, h⟩) | h
  · exact .inl (.inl (s _ _ h))
  · exact .inl (.inr ⟨o, s _ _ h⟩)
  · exact .inr h
/-- the classes of the objects that law makes; what _law_sorts tells of them -/
def kk (j : Nat) : Nat := [0, 1, 5, 6, 7, 10, 8, 9, 11].getD j 0
def rowB (j : Nat) : List Bool := srt7 (kk j)
def rowN (j : Nat) : List Int := ([[0], [0], [0], [1, 2], [2], [2, 3], [4], [5, 6], [6]] : List (List Int)).getD j []
/-- the outer list so far: its parts are lists of truths -/
def PvT (H : Hp) (D : Addr) (i : Nat) (H' : Hp) : Prop := Same H H' ∧ ∃ ps : List Addr, H' D = some (.lst (ps.map V.ref)) ∧ ps.length = i ∧ ∀ j p, ps[j]? = some p → p ≠ D ∧ H' p = some (.lst ((rowB j).map V.bl))
theorem PvT.zero {H : Hp} {D : Addr} (hD : H D = none) : PvT H D 0 (upd H D (.lst [])) := ⟨same_upd hD, [], upd_same, rfl, fun j p h => by simp at h⟩
theorem PvT.step {H H3 H4 : Hp} {D q : Addr} {i : Nat} (hD : H D = none) (hi : i < 9) (p : PvT H D i H3) (s : Same H3 H4) (nq : H3 q = none) (hq : H4 q = some (.lst ((rowB i).map V.bl))) :
    ∃ acc, H4 D = some (.lst acc) ∧ acc.length < sizeLine ∧ PvT H D (i + 1) (upd H4 D (.lst (acc ++ [V.ref q]))) := by
  obtain ⟨sm, ps, e, hl, hp⟩ := p
  have nD : q ≠ D := fun z => by
    rw [z, e] at nq
    cases nq
  refine ⟨_, s _ _ e, ?_, same_put hD (sm.trans s), ps ++ [q], ?_, ?_, fun j r hr => ?_⟩
  · rw [List.length_map, hl]
    exact Nat.lt_of_lt_of_le hi (by decide)
  · rw [upd_same, List.map_append]
    rfl
  · rw [List.length_append, hl]
    rfl
  · rcases Nat.lt_or_ge j i with hj | hj
    · rw [List.getElem?_append_left (by omega)] at hr
      obtain ⟨h1, h2⟩ := hp j r hr
      exact ⟨h1, by rw [upd_ne h1]; exact s _ _ h2⟩
    · rw [List.getElem?_append_right (by omega), hl] at hr
      have hz : j - i = 0 := by
        cases y : j - i with
        | zero => rfl
        | succ m =>
          rw [y] at hr
          simp at hr
      rw [hz] at hr
      obtain rfl : q = r := by simpa using hr
      obtain rfl : j = i := by omega
      exact ⟨nD, by rw [upd_ne nD]; exact hq⟩
theorem dp_rows {K : PySem.W.Frag} {H : Hp} : ∀ (ps : List Addr) (k : Nat), (∀ j p, ps[j]? = some p → H p = some (.lst ((rowB (k + j)).map V.bl))) → DpAll K H (ps.map V.ref) ((List.range' k ps.length).map fun j => boolsD (rowB j))
  | [], _, _ => .nil
  | p :: r, k, h => .cons (dp_bools (h 0 p rfl)) (dp_rows r (k + 1) fun j q e => by
      have := h (j + 1) q (by simpa using e)
      rw [show k + 1 + j = k + (j + 1) by omega]
      exact this)
def rowsD : PyData := .list ((List.range' 0 9).map fun j => boolsD (rowB j))
theorem PvT.dp {K : PySem.W.Frag} {H H5 : Hp} {D : Addr} (p : PvT H D 9 H5) : Dp K H5 (.ref D) rowsD := by
  obtain ⟨sm, ps, e, hl, hp⟩ := p
  have z := dp_rows (K := K) ps 0 fun j q hq => by
    rw [Nat.zero_add]
    exact (hp j q hq).2
  rw [hl] at z
  exact .lst (SqL.of e) z
theorem rowsD_sh : SeqAt.shaped rowsD = true := by decide +kernel
theorem rowsD_eq : PyData.eqv rowsD rowsD = true := by decide +kernel
theorem row_of : ∀ j, j < 9 → ∀ k : Nat, k < 7 → ((rowB j).getD k false = inV (.int (k : Int)) ((rowN j).map V.int)) := by decide +kernel
theorem row_len : ∀ j, j < 9 → (rowB j).length = 7 := by decide +kernel
theorem row_flat : ∀ j, j < 9 → ((rowN j).map V.int).all flatV = true := by decide +kernel
/-- the inner list so far -/
def PvR (H : Hp) (D : Addr) (j k : Nat) (H' : Hp) : Prop := Same H H' ∧ H' D = some (.lst (((rowB j).take k).map V.bl))
theorem PvR.step {H H4 : Hp} {D : Addr} {j k : Nat} {b : Bool} (hD : H D = none) (hj : j < 9) (hk : k < 7) (p : PvR H D j k H4) (hb : b = (rowB j).getD k false) : ∃ acc, H4 D = some (.lst acc) ∧ acc.length < sizeLine ∧ PvR H D j (k + 1) (upd H4 D (.lst (acc ++ [V.bl b]))) := by
  have hl := row_len j hj
  refine ⟨_, p.2, ?_, same_put hD p.1, ?_⟩
  · rw [List.length_map, List.length_take]
    have : (7 : Nat) < sizeLine := by decide
    omega
  · have hg : (rowB j)[k]? = some ((rowB j).getD k false) := by
      rw [List.getD_eq_getElem?_getD, List.getElem?_eq_getElem (by omega)]
      rfl
    rw [upd_same, hb, List.take_add_one, hg, List.map_append]
    rfl
end OM

namespace OM
open PySem PySem.Spec PyProof.Rows L2
theorem PvT.same {H H' H2 : Hp} {D : Addr} {i : Nat} (p : PvT H D i H') (s : Same H' H2) : PvT H D i H2 := by
  obtain ⟨sm, ps, e, hl, hp⟩ := p
  exact ⟨sm.trans s, ps, s _ _ e, hl, fun j q hq => ⟨(hp j q hq).1, s _ _ (hp j q hq).2⟩⟩
theorem kk_lt (i : Nat) : kk i < 12 := by
  match i with
  | 0 | 1 | 2 | 3 | 4 | 5 | 6 | 7 | 8 => decide
  | n + 9 =>
    show (0 : Nat) < 12
    decide
theorem iteE {b : Bool} {A B : Prop} (h : b = true) (x : A) : if b = true then A else B := by
  rw [if_pos h]
  exact x
theorem eqv_same (bs : List Bool) : PyData.eqv (boolsD bs) (boolsD bs) = true := by
  show PyData.eqv (.list (bs.map .bool)) (.list (bs.map .bool)) = true
  unfold PyData.eqv
  exact eqv_bools bs
section
variable {P : Program} {w : World} {K : PySem.W.Frag} {mg : Str → Option Value} {base : Heap} {g : Addr} {gd : FuncData} {c f : Nat → Addr} {fd : Nat → FuncData} {fT fS fK fC fB fD fR : Addr} {dT dS dK dC dB dD dR : FuncData}
theorem scLaw : FnScope ["_law_script", "_law_at", "_law_made", "_law_told", "_law_none", "_law_rows", "_law_e", "_law_row", "_law_spot"] ["_law_script"] (defScope sLaw) := ⟨rfl, rfl, rfl, by decide +kernel, rfl, by decide +kernel, by decide +kernel⟩
structure LawF (P : Program) (w : World) (K : PySem.W.Frag) (mg : Str → Option Value) (base : Heap) (fD fR : Addr) (dD dR : FuncData) : Prop where
  gD : mg "_law_dice" = some (.ref fD)
  gR : mg "_law_right" = some (.ref fR)
  GD : FnOk P w K mg base CX0 9 fD dD ["_law_script", "_law_at"] (spDice K)
  GR : GFn P w K mg base 8 fR dR ["_law_dice_here"] spRight
  bD : Binds K dD ["_law_script", "_law_at"] []
  bR : Binds K dR ["_law_dice_here"] []
  kD : PySem.W.keepIn K (.ref fD) = true
  kR : PySem.W.keepIn K (.ref fR) = true
  max : mg "max" = none
  min : mg "min" = none
  len : mg "len" = none
theorem gfn_mono {n m : Nat} {ns : List Str} {sp : Sp} (G : GFn P w K mg base n g gd ns sp) (h : n ≤ m) : GFn P w K mg base m g gd ns sp := ⟨G.cnt, fun B o z H ar ws xs Q E hg hr => G.go B o z H ar ws xs Q E hg (hr.mono h)⟩
theorem ok_law (F : Fun K "law" "law" sLaw g gd) (R : RightF P w K mg base c f fd fT fS fK fC fB dT dS dK dC dB) (L : LawF P w K mg base fD fR dD dR) : GFn P w K mg base 10 g gd ["_law_script"] (spLaw K) := by
  refine gfn_of F scLaw (fun vs H Q E h => ?_) (fun cdv A outer s H vs Q E hga hr h => ?_)
  · obtain ⟨a, ns, rfl, _⟩ := h
    rfl
  · obtain ⟨a, ns, rfl, hn, hS, q⟩ := h
    have hgd : (A.deeper (envOfC "law" (defScope sLaw) s.heap.objs.size g cdv)).guards = some [] := hga
    have hu2 : (A.deeper (envOfC "law" (defScope sLaw) s.heap.objs.size g cdv)).units + 64 < cLine := by
      have := hr.un
      omega
    refine ⟨_, pss_cons (ps_for PassesOwn.never rfl (pi_range1 (by rfl) R.rng (pa_cons (pe_callB (call_max2 rfl) (by rfl) L.max (by decide +kernel) (pa_cons pe_int (pa_cons (pe_callB (call_min2 rfl) (by rfl) L.min (by decide +kernel) (pa_cons pe_int
          (pa_cons (pe_callB call_len_seq (by rfl) L.len PySem.boot_len (pa_cons (pv 0) pa_nil)) pa_nil))) pa_nil))) pa_nil)) (pg_name (i := 1) scLaw.nd rfl (Or.inl rfl))
        (pss_one (ps_if (pt_not (pt_val (pe_callG L.GR hgd (hr.mono (by decide)) (by rfl) L.gR L.kR L.bR (pa_cons (pe_call L.GD hr (by rfl) L.gD L.kD L.bD .nil pass0 (pa_cons (pv 0) (pa_cons (pv 1) pa_nil))) pa_nil)))) (pss_one (ps_ret pe_bl)) pss_nil)))
      (pss_cons (ps_set (i := 2) scLaw.nd rfl (Or.inl rfl) (pe_lst (pa_cons (pe_mkV (Classical.choose_spec (R.C.k0).made).1 (R.C.i0) (hr.mono (by decide)) (by rfl) R.C.g.g0 R.C.b0 .nil pass0 (pa_cons pe_str pa_nil)) (pa_cons (pe_mkV (Classical.choose_spec (R.C.k1).made).1 (R.C.i0) (hr.mono (by decide)) (by rfl) R.C.g.g1 R.C.b0 .nil pass0 (pa_cons pe_str pa_nil)) (pa_cons (pe_mkV (Classical.choose_spec (R.C.k5).made).1 (R.C.i5) (hr.mono (by decide)) (by rfl) R.C.g.g5 R.C.b5 .nil pass0 (pa_cons pe_non pa_nil)) (pa_cons (pe_mkV (Classical.choose_spec (R.C.k6).made).1 (R.C.i6) (hr.mono (by decide)) (by rfl) R.C.g.g6 R.C.b6 .nil pass0 (pa_cons pe_str pa_nil))
        (pa_cons (pe_mkV (Classical.choose_spec R.C.k7.made).1 R.C.i7 (hr.mono (by decide)) (by rfl) R.C.g.g7 R.C.b7 .nil pass0 (pa_cons pe_str (pa_cons pe_str pa_nil))) pa_nil)))))))
      (pss_cons (ps_set (i := 2) scLaw.nd rfl (Or.inl rfl) (pe_op op_cat (pv 2) (pe_lst (pa_cons (pe_mkV (Classical.choose_spec (R.C.k10).made).1 (R.C.i10) (hr.mono (by decide)) (by rfl) R.C.g.g10 R.C.b10 .nil pass0 (pa_cons pe_int pa_nil)) (pa_cons (pe_mkV (Classical.choose_spec (R.C.k8).made).1 (R.C.i8) (hr.mono (by decide)) (by rfl) R.C.g.g8 R.C.b8 .nil pass0 (pa_cons (pe_un un_neg pe_int) pa_nil)) (pa_cons (pe_mkV (Classical.choose_spec (R.C.k9).made).1 (R.C.i9) (hr.mono (by decide)) (by rfl) R.C.g.g9 R.C.b9 .nil pass0 (pa_cons pe_int pa_nil))
        (pa_cons (pe_mkV (Classical.choose_spec (R.C.k11).made).1 (R.C.i11) (hr.mono (by decide)) (by rfl) R.C.g.g11 R.C.b11 .nil pass0 (pa_cons (pe_tup (pa_cons pe_str (pa_cons pe_int pa_nil))) pa_nil)) pa_nil)))))))
      (pss_cons (ps_par (i := 3) (j := 4) rfl scLaw.nd rfl rfl (by decide) (by rfl) (by rfl) (pa_cons (pe_lc (own := [("_law_e", 6)]) rfl scLaw.nd (pi_list (pv 2)) (blkOk_by (N := ["_law_script", "_law_at", "_law_made", "_law_told", "_law_none", "_law_rows", "_law_e", "_law_row", "_law_spot"]) (sc := defScope sLaw) (by decide +kernel))
          (fun _ _ _ _ _ => pg_name (i := 6) scLaw.nd rfl (Or.inl rfl)) (fun _ _ _ _ _ => pts_nil) (fun _ _ _ _ _ => (pe_call R.GS (hr.mono (by decide)) (by rfl) R.gS R.kS R.bS .nil pass0 (pa_cons (pv 6) pa_nil)))) (pa_cons (pe_op op_rep (pe_lst (pa_cons pe_bl pa_nil)) pe_int) pa_nil)) (by rfl))
      (pss_cons (ps_set (i := 5) scLaw.nd rfl (Or.inl rfl) (pe_lst (pa_cons (pe_lst (pa_cons pe_int pa_nil)) (pa_cons (pe_lst (pa_cons pe_int pa_nil)) (pa_cons (pe_lst (pa_cons pe_int pa_nil)) (pa_cons (pe_lst (pa_cons pe_int (pa_cons pe_int pa_nil)))
        (pa_cons (pe_lst (pa_cons pe_int pa_nil)) (pa_cons (pe_lst (pa_cons pe_int (pa_cons pe_int pa_nil))) (pa_cons (pe_lst (pa_cons pe_int pa_nil)) (pa_cons (pe_lst (pa_cons pe_int (pa_cons pe_int pa_nil))) (pa_cons (pe_lst (pa_cons pe_int pa_nil)) pa_nil)))))))))))
      (pss_one (ps_ret (pe_and (pe_cmpR (op_eqD hu2) (pv 3) (pe_lc (own := [("_law_row", 7)]) rfl scLaw.nd (pi_list (pv 5)) (blkOk_by (N := ["_law_script", "_law_at", "_law_made", "_law_told", "_law_none", "_law_rows", "_law_e", "_law_row", "_law_spot"]) (sc := defScope sLaw) (by decide +kernel))
          (fun _ _ _ _ _ => pg_name (i := 7) scLaw.nd rfl (Or.inr rfl)) (fun _ _ _ _ _ => pts_nil)
          (fun _ _ _ _ _ => pe_lc (own := [("_law_spot", 8)]) rfl scLaw.nd (pi_range1 (by rfl) R.rng (pa_cons pe_int pa_nil)) (blkOk_by (N := ["_law_script", "_law_at", "_law_made", "_law_told", "_law_none", "_law_rows", "_law_e", "_law_row", "_law_spot"]) (sc := { kind := .function, names := [(".0", .local), ("_law_row", .cell), ("range", .globalImplicit)], isGenerator := false, isCoroutine := false }) (by decide +kernel))
            (fun _ _ _ _ _ => pg_name (i := 8) scLaw.nd rfl (Or.inl rfl)) (fun _ _ _ _ _ => pts_nil) (fun _ _ _ _ _ => pe_cmpR (r := rIn K false) op_in_seq (pv 8) (pv 7) (by rfl)))) (nomark _))
        (pe_one (pe_cmpR (op_eqD hu2) ((pe_call R.GS (hr.mono (by decide)) (by rfl) R.gS R.kS R.bS .nil pass0 (pa_cons pe_non pa_nil))) (pv 4) (nomark _)))))))))), ?_⟩
    have z : ∀ n, n ≤ 100 → n ≤ sizeLine := fun n hn => Nat.le_trans hn (by decide)
    refine ⟨_, rfl, a, _, rfl, .inl hS, 8, _, rfl, 1, _, rfl, _, rfl, ?_⟩
    have hj : 1 ≤ (if (if (((ns.map V.int).length : Nat) : Int) < 8 then (((ns.map V.int).length : Nat) : Int) else 8) > 1 then (if (((ns.map V.int).length : Nat) : Int) < 8 then (((ns.map V.int).length : Nat) : Int) else 8) else 1) ∧
        (if (if (((ns.map V.int).length : Nat) : Int) < 8 then (((ns.map V.int).length : Nat) : Int) else 8) > 1 then (if (((ns.map V.int).length : Nat) : Int) < 8 then (((ns.map V.int).length : Nat) : Int) else 8) else 1) ≤ 8 := by
      split <;> split <;> omega
    revert hj
    generalize (if (if (((ns.map V.int).length : Nat) : Int) < 8 then (((ns.map V.int).length : Nat) : Int) else 8) > 1 then (if (((ns.map V.int).length : Nat) : Int) < 8 then (((ns.map V.int).length : Nat) : Int) else 8) else 1) = jn
    intro hj
    refine ⟨by omega, by omega, fun i m σ H => m = jn.toNat - i ∧ i ≤ jn.toNat ∧ (∃ x1 x2 x3 x4 x5 x6 x7 x8, σ = [some (.ref a), x1, x2, x3, x4, x5, x6, x7, x8]) ∧ SqL K H a (ns.map V.int), ⟨_, rfl, Nat.zero_le _, ⟨_, _, _, _, _, _, _, _, rfl⟩, hS⟩, ?_⟩
    rintro i m σ H ⟨rfl, hi, ⟨x1, x2, x3, x4, x5, x6, x7, x8, rfl⟩, hS⟩
    rcases Nat.lt_or_ge i jn.toNat with hlt | hge
    · refine .inr ⟨hlt, fun σ' H' => (∃ x1 x2 x3 x4 x5 x6 x7 x8, σ' = [some (.ref a), x1, x2, x3, x4, x5, x6, x7, x8]) ∧ SqL K H' a (ns.map V.int), fun σ' H' h => ⟨jn.toNat - (i + 1), by omega, rfl, hlt, h.1, h.2⟩, ?_⟩
      rintro x H' ⟨rfl, rfl⟩
      exact ⟨_, rfl, _, rfl, a, ns, 0 + i, rfl, hS, fun H1 p s1 n1 d1 => ⟨p, rfl, d1, fun H2 b2 => ⟨true, rfl, ⟨⟨_, _, _, _, _, _, _, _, rfl⟩, seq_but hS n1 s1 b2⟩⟩⟩⟩
    · refine .inl ⟨hge, ?_⟩
      refine ⟨(by show 1 ≤ 1000; decide), fun a0 h0 => ⟨a0, c 0, .str "x", rfl, R.C.k0.raw upd_same, rfl, ?_⟩⟩
      generalize eJ0 : upd H a0 (exo a0 (c 0) none) = J0
      have s0 : Same H J0 := eJ0 ▸ same_upd h0
      have o0 : ObN J0 a0 (c 0) := eJ0 ▸ upd_same
      refine ⟨(by show 1 ≤ 1000; decide), fun a1 h1 => ⟨a1, c 1, .str "x", rfl, R.C.k1.raw upd_same, rfl, ?_⟩⟩
      generalize eJ1 : upd J0 a1 (exo a1 (c 1) none) = J1
      have s1 : Same J0 J1 := eJ1 ▸ same_upd h1
      have o1 : ObN J1 a1 (c 1) := eJ1 ▸ upd_same
      refine ⟨(by show 1 ≤ 1000; decide), fun a5 h5 => ⟨a5, c 5, .non, .none, All, rfl, R.C.k5.raw upd_same, .at .non, (by decide +kernel), fun J5 M5 => ⟨rfl, ?_⟩⟩⟩
      have s5 := made_same h5 M5
      have o5 := made_ob M5
      refine ⟨(by show 1 ≤ 1000; decide), fun a6 h6 => ⟨a6, c 6, .str "a", .str "a", All, rfl, R.C.k6.raw upd_same, .at (.str _), (by decide +kernel), fun J6 M6 => ⟨rfl, ?_⟩⟩⟩
      have s6 := made_same h6 M6
      have o6 := made_ob M6
      refine ⟨(by show 2 ≤ 1000; decide), fun a7 h7 => ⟨a7, c 7, .str "p", .str "a", .str "p", .str "a", fun b => b ≠ a7, rfl, R.C.k7.raw upd_same, .at (.str _), .at (.str _), fun _ y => y, (by decide +kernel), (by decide +kernel), fun J7 M7 => ⟨rfl, ?_⟩⟩⟩
      have s7 := made_same h7 M7
      have o7 := made_ob M7
      refine ⟨z _ (by simp), fun p1 hp1 => ?_⟩
      have sp1 := same_upd (o := .lst [.ref a0, .ref a1, .ref a5, .ref a6, .ref a7]) hp1
      refine ⟨_, rfl, ?_⟩
      refine ⟨(by show 1 ≤ 1000; decide), fun a10 h10 => ⟨a10, c 10, .int 1, .int 1, All, rfl, R.C.k10.raw upd_same, .at (.int _), (by decide +kernel), fun J10 M10 => ⟨rfl, ?_⟩⟩⟩
      have s10 := made_same h10 M10
      have o10 := made_ob M10
      refine ⟨1, rfl, ?_⟩
      refine ⟨(by show 1 ≤ 1000; decide), fun a8 h8 => ⟨a8, c 8, .int (-1), .int (-1), All, rfl, R.C.k8.raw upd_same, .at (.int _), (by decide +kernel), fun J8 M8 => ⟨rfl, ?_⟩⟩⟩
      have s8 := made_same h8 M8
      have o8 := made_ob M8
      refine ⟨(by show 1 ≤ 1000; decide), fun a9 h9 => ⟨a9, c 9, .int 4000, .int 4000, All, rfl, R.C.k9.raw upd_same, .at (.int _), (by decide +kernel), fun J9 M9 => ⟨rfl, ?_⟩⟩⟩
      have s9 := made_same h9 M9
      have o9 := made_ob M9
      refine ⟨z _ (by simp), fun pt hpt => ?_⟩
      have spt := same_upd (o := .tup [.str "bare", .int 0]) hpt
      have tt : Dt All (upd J9 pt (.tup [.str "bare", .int 0])) (.ref pt) (.tuple [.str "bare", .int 0]) := .tup trivial upd_same (by show 2 ≤ 1000; decide) (.cons (.at (.str _)) (.cons (.at (.int _)) .nil))
      refine ⟨(by show 1 ≤ 1000; decide), fun a11 h11 => ⟨a11, c 11, .ref pt, .tuple [.str "bare", .int 0], All, rfl, R.C.k11.raw upd_same, tt.same (same_upd h11), (by decide +kernel), fun J11 M11 => ⟨rfl, ?_⟩⟩⟩
      have s11 := made_same h11 M11
      have o11 := made_ob M11
      refine ⟨z _ (by simp), fun p2 hp2 => ?_⟩
      have sp2 := same_upd (o := .lst [.ref a10, .ref a8, .ref a9, .ref a11]) hp2
      have sq := ((s10.trans s8).trans s9).trans (spt.trans s11)
      refine ⟨p1, p2, _, _, rfl, rfl, sp2 _ _ (sq _ _ upd_same), upd_same, z _ (by simp), fun pm hpm => ?_⟩
      have spm := same_upd (o := .lst ([.ref a0, .ref a1, .ref a5, .ref a6, .ref a7] ++ [.ref a10, .ref a8, .ref a9, .ref a11])) hpm
      have t2 := sp2.trans spm
      have t1 := sp1.trans (sq.trans t2)
      have tys : ∀ i x, ([.ref a0, .ref a1, .ref a5, .ref a6, .ref a7, .ref a10, .ref a8, .ref a9, .ref a11] : List V)[i]? = some x → i < 9 ∧ TyN K (upd (upd J11 p2 (.lst [.ref a10, .ref a8, .ref a9, .ref a11])) pm (.lst ([.ref a0, .ref a1, .ref a5, .ref a6, .ref a7] ++ [.ref a10, .ref a8, .ref a9, .ref a11]))) x (.ref (c (kk i))) := by
        intro i x hx
        match i, hx with
        | 0, hx => exact ⟨by decide, by obtain rfl := Option.some.inj hx; exact TyN.mono (.exc (R.X.xc 0 (by decide)) o0) ((((s1.trans s5).trans s6).trans s7).trans t1)⟩
        | 1, hx => exact ⟨by decide, by obtain rfl := Option.some.inj hx; exact TyN.mono (.exc (R.X.xc 1 (by decide)) o1) (((s5.trans s6).trans s7).trans t1)⟩
        | 2, hx => exact ⟨by decide, by obtain rfl := Option.some.inj hx; exact (o5.ty (R.X.xc 5 (by decide))).mono ((s6.trans s7).trans t1)⟩
        | 3, hx => exact ⟨by decide, by obtain rfl := Option.some.inj hx; exact (o6.ty (R.X.xc 6 (by decide))).mono (s7.trans t1)⟩
        | 4, hx => exact ⟨by decide, by obtain rfl := Option.some.inj hx; exact (o7.ty (R.X.xc 7 (by decide))).mono t1⟩
        | 5, hx => exact ⟨by decide, by obtain rfl := Option.some.inj hx; exact (o10.ty (R.X.xc 10 (by decide))).mono (((s8.trans s9).trans (spt.trans s11)).trans t2)⟩
        | 6, hx => exact ⟨by decide, by obtain rfl := Option.some.inj hx; exact (o8.ty (R.X.xc 8 (by decide))).mono ((s9.trans (spt.trans s11)).trans t2)⟩
        | 7, hx => exact ⟨by decide, by obtain rfl := Option.some.inj hx; exact (o9.ty (R.X.xc 9 (by decide))).mono ((spt.trans s11).trans t2)⟩
        | 8, hx => exact ⟨by decide, by obtain rfl := Option.some.inj hx; exact (o11.ty (R.X.xc 11 (by decide))).mono t2⟩
        | n + 9, hx => cases (show (none : Option V) = some x from hx)
      revert tys
      have em : (upd (upd J11 p2 (.lst [.ref a10, .ref a8, .ref a9, .ref a11])) pm (.lst ([.ref a0, .ref a1, .ref a5, .ref a6, .ref a7] ++ [.ref a10, .ref a8, .ref a9, .ref a11]))) pm = some (.lst [.ref a0, .ref a1, .ref a5, .ref a6, .ref a7, .ref a10, .ref a8, .ref a9, .ref a11]) := upd_same
      revert em
      generalize (upd (upd J11 p2 (.lst [.ref a10, .ref a8, .ref a9, .ref a11])) pm (.lst ([.ref a0, .ref a1, .ref a5, .ref a6, .ref a7] ++ [.ref a10, .ref a8, .ref a9, .ref a11]))) = N0
      intro em tys
      refine ⟨_, rfl, pm, rfl, ⟨_, SqL.of em⟩, fun D1 hD1 => lc_list (PvT N0 D1) (PvT.zero hD1) (fun i H' _ p => SqL.of (p.1 _ _ em)) (fun i x H3 hx p => ?_) (fun H5 p5 => ?_)⟩
      · obtain ⟨hi9, ty⟩ := tys i x hx
        refine ⟨rfl, _, rfl, x, .ref (c (kk i)), rowB i, rfl, ty.mono p.1, R.X.ks (kk i) (kk_lt i), fun H4 q4 s4 n4 k4 => p.step hD1 hi9 s4 n4 k4⟩
      · have p5 : PvT N0 D1 9 H5 := p5
        refine ⟨z _ (by simp), fun q1 hq1 => ⟨q1, 7, _, rfl, rfl, upd_same, by decide, by decide, (by show 1 * 7 ≤ sizeLine; decide), fun q2 hq2 => ⟨_, _, rfl, ?_⟩⟩⟩
        have r1 := same_upd (o := .lst [.bl false]) hq1
        have r2 := same_upd (o := .lst (List.replicate (7 : Int).toNat [.bl false]).flatten) hq2
        have P2 := p5.same (r1.trans r2)
        have e2 : (upd (upd H5 q1 (.lst [.bl false])) q2 (.lst (List.replicate (7 : Int).toNat [V.bl false]).flatten)) q2 = some (.lst (([false, false, false, false, false, false, false] : List Bool).map V.bl)) := upd_same
        revert P2 e2
        generalize (upd (upd H5 q1 (.lst [.bl false])) q2 (.lst (List.replicate (7 : Int).toNat [V.bl false]).flatten)) = N1
        intro P2 e2
        refine ⟨z _ (by simp), fun w0 hw0 => ?_⟩
        have sw0 := same_upd (o := .lst [.int 0]) hw0
        refine ⟨z _ (by simp), fun w1 hw1 => ?_⟩
        have sw1 := same_upd (o := .lst [.int 0]) hw1
        refine ⟨z _ (by simp), fun w2 hw2 => ?_⟩
        have sw2 := same_upd (o := .lst [.int 0]) hw2
        refine ⟨z _ (by simp), fun w3 hw3 => ?_⟩
        have sw3 := same_upd (o := .lst [.int 1, .int 2]) hw3
        refine ⟨z _ (by simp), fun w4 hw4 => ?_⟩
        have sw4 := same_upd (o := .lst [.int 2]) hw4
        refine ⟨z _ (by simp), fun w5 hw5 => ?_⟩
        have sw5 := same_upd (o := .lst [.int 2, .int 3]) hw5
        refine ⟨z _ (by simp), fun w6 hw6 => ?_⟩
        have sw6 := same_upd (o := .lst [.int 4]) hw6
        refine ⟨z _ (by simp), fun w7 hw7 => ?_⟩
        have sw7 := same_upd (o := .lst [.int 5, .int 6]) hw7
        refine ⟨z _ (by simp), fun w8 hw8 => ?_⟩
        have sw8 := same_upd (o := .lst [.int 6]) hw8
        refine ⟨z _ (by simp), fun wr hwr => ?_⟩
        have swr := same_upd (o := .lst [.ref w0, .ref w1, .ref w2, .ref w3, .ref w4, .ref w5, .ref w6, .ref w7, .ref w8]) hwr
        have y8 := swr
        have y7 := sw8.trans y8
        have y6 := sw7.trans y7
        have y5 := sw6.trans y6
        have y4 := sw5.trans y5
        have y3 := sw4.trans y4
        have y2 := sw3.trans y3
        have y1 := sw2.trans y2
        have y0 := sw1.trans y1
        have yall := sw0.trans y0
        have rws : ∀ i x, ([.ref w0, .ref w1, .ref w2, .ref w3, .ref w4, .ref w5, .ref w6, .ref w7, .ref w8] : List V)[i]? = some x → i < 9 ∧ ∃ r, x = .ref r ∧ (upd (upd (upd (upd (upd (upd (upd (upd (upd (upd N1 w0 (.lst [.int 0])) w1 (.lst [.int 0])) w2 (.lst [.int 0])) w3 (.lst [.int 1, .int 2])) w4 (.lst [.int 2])) w5 (.lst [.int 2, .int 3])) w6 (.lst [.int 4])) w7 (.lst [.int 5, .int 6])) w8 (.lst [.int 6])) wr (.lst [.ref w0, .ref w1, .ref w2, .ref w3, .ref w4, .ref w5, .ref w6, .ref w7, .ref w8])) r = some (.lst ((rowN i).map V.int)) := by
          intro i x hx
          match i, hx with
          | 0, hx => exact ⟨by decide, w0, (Option.some.inj hx).symm, y0 w0 _ upd_same⟩
          | 1, hx => exact ⟨by decide, w1, (Option.some.inj hx).symm, y1 w1 _ upd_same⟩
          | 2, hx => exact ⟨by decide, w2, (Option.some.inj hx).symm, y2 w2 _ upd_same⟩
          | 3, hx => exact ⟨by decide, w3, (Option.some.inj hx).symm, y3 w3 _ upd_same⟩
          | 4, hx => exact ⟨by decide, w4, (Option.some.inj hx).symm, y4 w4 _ upd_same⟩
          | 5, hx => exact ⟨by decide, w5, (Option.some.inj hx).symm, y5 w5 _ upd_same⟩
          | 6, hx => exact ⟨by decide, w6, (Option.some.inj hx).symm, y6 w6 _ upd_same⟩
          | 7, hx => exact ⟨by decide, w7, (Option.some.inj hx).symm, y7 w7 _ upd_same⟩
          | 8, hx => exact ⟨by decide, w8, (Option.some.inj hx).symm, y8 w8 _ upd_same⟩
          | n + 9, hx => cases (show (none : Option V) = some x from hx)
        have P3 := P2.same yall
        have e3 := yall _ _ e2
        have er : (upd (upd (upd (upd (upd (upd (upd (upd (upd (upd N1 w0 (.lst [.int 0])) w1 (.lst [.int 0])) w2 (.lst [.int 0])) w3 (.lst [.int 1, .int 2])) w4 (.lst [.int 2])) w5 (.lst [.int 2, .int 3])) w6 (.lst [.int 4])) w7 (.lst [.int 5, .int 6])) w8 (.lst [.int 6])) wr (.lst [.ref w0, .ref w1, .ref w2, .ref w3, .ref w4, .ref w5, .ref w6, .ref w7, .ref w8])) wr = some (.lst [.ref w0, .ref w1, .ref w2, .ref w3, .ref w4, .ref w5, .ref w6, .ref w7, .ref w8]) := upd_same
        revert P3 e3 er rws
        generalize (upd (upd (upd (upd (upd (upd (upd (upd (upd (upd N1 w0 (.lst [.int 0])) w1 (.lst [.int 0])) w2 (.lst [.int 0])) w3 (.lst [.int 1, .int 2])) w4 (.lst [.int 2])) w5 (.lst [.int 2, .int 3])) w6 (.lst [.int 4])) w7 (.lst [.int 5, .int 6])) w8 (.lst [.int 6])) wr (.lst [.ref w0, .ref w1, .ref w2, .ref w3, .ref w4, .ref w5, .ref w6, .ref w7, .ref w8])) = N2
        intro rws P3 e3 er
        refine ⟨_, rfl, _, rfl, wr, rfl, ⟨_, SqL.of er⟩, fun D2 hD2 => lc_list (PvT N2 D2) (PvT.zero hD2) (fun i H' _ p => SqL.of (p.1 _ _ er)) (fun i x H3 hx p => ?_) (fun H6 p6 => ?_)⟩
        · obtain ⟨hi9, r, rfl, ew⟩ := rws i x hx
          refine ⟨rfl, 7, rfl, by decide, by decide, fun D3 hD3 => lc_range (PvR H3 D3 i) ⟨same_upd hD3, upd_same⟩ (fun k H4 hk p4 => ?_) (fun H7 p7 => ?_)⟩
          · refine ⟨rfl, _, rfl, _, rfl, r, _, rfl, .inl (SqL.of (p4.1 _ _ (p.1 _ _ ew))), rfl, row_flat i hi9, p4.step hD3 hi9 hk ?_⟩
            rw [row_of i hi9 k hk, Int.zero_add]
            rfl
          · have e7 : H7 D3 = some (.lst ((rowB i).map V.bl)) := by
              have y := p7.2
              rw [List.take_of_length_le (by rw [row_len i hi9]; exact Nat.le_refl _)] at y
              exact y
            exact p.step hD2 hi9 p7.1 hD3 e7
        · have p6 : PvT N2 D2 9 H6 := p6
          refine ⟨rowsD, rowsD, (P3.same p6.1).dp, p6.dp, rowsD_sh, rowsD_sh, _, rfl, iteE rowsD_eq ?_⟩
          refine ⟨.non, .type "NoneType", [false, false, false, false, false, false, false], rfl, .non, R.X.kn, fun H8 p8 s8' n8 k8 => ?_⟩
          refine ⟨_, rfl, boolsD _, boolsD _, dp_bools k8, dp_bools (s8' _ _ (p6.1 _ _ e3)), shaped_bools _, shaped_bools _, ?_⟩
          rw [eqv_same]
          exact q _
end
end OM

namespace OM
open PySem PySem.Spec PyProof.Rows L2
def HasFn (K : PySem.W.Frag) (x qual : Str) (st : Stmt) (f : Addr) : Prop := ∃ fd, Fun K x qual st f fd
def HasM (K : PySem.W.Frag) (f : Addr) : Prop := ∃ fd, FunD K "__init__" "MoveError.__init__" (defArgs (inSt 1)) (defBody (inSt 1)) (defScope (inSt 1)) [.str ""] [] f fd
/-- names that the text does not bind -/
def freeN : List Str := ["isinstance", "list", "tuple", "dict", "len", "int", "abs", "range", "enumerate", "repr", "max", "min", "ValueError", "KeyError", "LookupError", "IndexError", "RuntimeError", "OverflowError", "ArithmeticError"]
def freeB (K : PySem.W.Frag) : Bool := freeN.all fun x => decide (PySem.W.nsIn K mainGlobals x = some none)
theorem free_of {K : PySem.W.Frag} {h : Heap} {mg : Str → Option Value} (X : K.In h) (G : h.Ns mainGlobals mg) (b : freeB K = true) (x : Str) (hx : x ∈ freeN) : mg x = none :=
  PySem.W.mg_none_of X G (of_decide_eq_true (List.all_eq_true.mp b x hx))
/-- a look at the classes -/
def oneB (K : PySem.W.Frag) (C : Addr) : Bool := xfB K C && (decide (PySem.W.findIn K (.ref C) "__class__" = some (some (.builtin "object.__class__"))) && (decide (PySem.W.specialIn K (.builtin "object.__class__") "__get__" = some (some (.builtin "getset_descriptor.__get__"))) &&
  (decide (PySem.W.takesIn K (.builtin "object.__class__") = some true) && decide (PySem.W.mroIn K C (.type "object") = some true))))
theorem oneB_xf {K : PySem.W.Frag} {C : Addr} (h : oneB K C = true) : XfC K C := xfB_ok (Bool.and_eq_true_iff.mp h).1
theorem oneB_ex {K : PySem.W.Frag} {C : Addr} (h : oneB K C = true) : ExcC K C := by
  obtain ⟨h1, h⟩ := Bool.and_eq_true_iff.mp h
  obtain ⟨h2, h⟩ := Bool.and_eq_true_iff.mp h
  obtain ⟨h3, h⟩ := Bool.and_eq_true_iff.mp h
  obtain ⟨h4, h5⟩ := Bool.and_eq_true_iff.mp h
  have T := xfB_ok h1
  exact ⟨T.ga, T.gg, T.exC, T.hdC, of_decide_eq_true h2, of_decide_eq_true h3, of_decide_eq_true h4, of_decide_eq_true h5⟩
def twoB (K : PySem.W.Frag) (c : Nat → Addr) (i j : Nat) : Bool := decide (PySem.W.exmOne K (.ref (c i)) (.ref (c j)) = some (sub12 i j)) && decide (PySem.W.kitOne K (.ref (c i)) (.ref (c j)) = some (sub12 i j))
def clsB (K : PySem.W.Frag) (c : Nat → Addr) : Bool := ((List.range 12).all fun i => oneB K (c i) && (decide (sorts7.map (PySem.W.kitOne K (.ref (c i))) = (srt7 i).map some) && (List.range 12).all fun j => twoB K c i j)) &&
  decide (sorts7.map (PySem.W.kitOne K (.type "NoneType")) = ([false, false, false, false, false, false, false] : List Bool).map some)
theorem clsX_of {K : PySem.W.Frag} {c : Nat → Addr} (h : clsB K c = true) : ClsX K c := by
  obtain ⟨h, hn⟩ := Bool.and_eq_true_iff.mp h
  have at_ : ∀ i, i < 12 → _ := fun i hi => Bool.and_eq_true_iff.mp (List.all_eq_true.mp h i (List.mem_range.mpr hi))
  have at2 : ∀ i, i < 12 → _ := fun i hi => Bool.and_eq_true_iff.mp (at_ i hi).2
  have at3 : ∀ i j, i < 12 → j < 12 → _ := fun i j hi hj => Bool.and_eq_true_iff.mp (List.all_eq_true.mp (at2 i hi).2 j (List.mem_range.mpr hj))
  exact ⟨fun i hi => oneB_xf (at_ i hi).1, fun i hi => oneB_ex (at_ i hi).1, fun i j hi hj => of_decide_eq_true (at3 i j hi hj).1, fun i j hi hj => of_decide_eq_true (at3 i j hi hj).2, fun i hi => (of_decide_eq_true (at2 i hi).1 : sorts7.map (PySem.W.kitOne K (.ref (c i))) = (srt7 i).map some), (of_decide_eq_true hn : sorts7.map (PySem.W.kitOne K (.type "NoneType")) = ([false, false, false, false, false, false, false] : List Bool).map some)⟩
/-- what stands behind the top -/
structure TopK (K : PySem.W.Frag) (c f : Nat → Addr) (g : Nat → Addr) : Prop where
  g0 : PySem.W.nsIn K mainGlobals "MoveError" = some (some (.ref (c 0)))
  g1 : PySem.W.nsIn K mainGlobals "InvalidValue" = some (some (.ref (c 1)))
  g2 : PySem.W.nsIn K mainGlobals "InvalidStretch" = some (some (.ref (c 2)))
  g3 : PySem.W.nsIn K mainGlobals "InvalidProgram" = some (some (.ref (c 3)))
  g4 : PySem.W.nsIn K mainGlobals "InvalidOperation" = some (some (.ref (c 4)))
  g5 : PySem.W.nsIn K mainGlobals "ParseError" = some (some (.ref (c 5)))
  g6 : PySem.W.nsIn K mainGlobals "UnknownName" = some (some (.ref (c 6)))
  g7 : PySem.W.nsIn K mainGlobals "Unanswered" = some (some (.ref (c 7)))
  g8 : PySem.W.nsIn K mainGlobals "InvalidNumber" = some (some (.ref (c 8)))
  g9 : PySem.W.nsIn K mainGlobals "TooMany" = some (some (.ref (c 9)))
  g10 : PySem.W.nsIn K mainGlobals "NothingToUndo" = some (some (.ref (c 10)))
  g11 : PySem.W.nsIn K mainGlobals "Refused" = some (some (.ref (c 11)))
  k0 : KCls K (c 0) (f 0) "ValueError" []
  k1 : KCls K (c 1) (f 0) "ValueError" []
  k2 : KCls K (c 2) (f 0) "ValueError" []
  k3 : KCls K (c 3) (f 0) "ValueError" []
  k4 : KCls K (c 4) (f 0) "ValueError" []
  k5 : KCls K (c 5) (f 5) "ValueError" ["line"]
  k6 : KCls K (c 6) (f 6) "KeyError" ["name"]
  k7 : KCls K (c 7) (f 7) "LookupError" ["test", "value"]
  k8 : KCls K (c 8) (f 8) "RuntimeError" ["value"]
  k9 : KCls K (c 9) (f 9) "OverflowError" ["limit"]
  k10 : KCls K (c 10) (f 10) "IndexError" ["many"]
  k11 : KCls K (c 11) (f 11) "ArithmeticError" ["reason"]
  m0 : HasM K (f 0)
  m5 : HasFn K "__init__" "ParseError.__init__" (inSt 6) (f 5)
  m6 : HasFn K "__init__" "UnknownName.__init__" (inSt 7) (f 6)
  m7 : HasFn K "__init__" "Unanswered.__init__" (inSt 8) (f 7)
  m8 : HasFn K "__init__" "InvalidNumber.__init__" (inSt 9) (f 8)
  m9 : HasFn K "__init__" "TooMany.__init__" (inSt 10) (f 9)
  m10 : HasFn K "__init__" "NothingToUndo.__init__" (inSt 11) (f 10)
  m11 : HasFn K "__init__" "Refused.__init__" (inSt 12) (f 11)
  um : UMeth K (c 0) "__init__" (f 0)
  bV : PySem.W.findCls K (.type "ValueError") (.type "type") "__init__" = some (.val (.builtin "ValueError.__init__"))
  bK : PySem.W.findCls K (.type "KeyError") (.type "type") "__init__" = some (.val (.builtin "KeyError.__init__"))
  bL : PySem.W.findCls K (.type "LookupError") (.type "type") "__init__" = some (.val (.builtin "LookupError.__init__"))
  bR : PySem.W.findCls K (.type "RuntimeError") (.type "type") "__init__" = some (.val (.builtin "RuntimeError.__init__"))
  bO : PySem.W.findCls K (.type "OverflowError") (.type "type") "__init__" = some (.val (.builtin "OverflowError.__init__"))
  bI : PySem.W.findCls K (.type "IndexError") (.type "type") "__init__" = some (.val (.builtin "IndexError.__init__"))
  bA : PySem.W.findCls K (.type "ArithmeticError") (.type "type") "__init__" = some (.val (.builtin "ArithmeticError.__init__"))
  n13 : PySem.W.nsIn K mainGlobals "_copied" = some (some (.ref (g 13)))
  n15 : PySem.W.nsIn K mainGlobals "_law_dice" = some (some (.ref (g 15)))
  n16 : PySem.W.nsIn K mainGlobals "_law_roll" = some (some (.ref (g 16)))
  n17 : PySem.W.nsIn K mainGlobals "_law_one_of" = some (some (.ref (g 17)))
  n18 : PySem.W.nsIn K mainGlobals "_law_thing" = some (some (.ref (g 18)))
  n19 : PySem.W.nsIn K mainGlobals "_law_sorts" = some (some (.ref (g 19)))
  n20 : PySem.W.nsIn K mainGlobals "_law_kinds" = some (some (.ref (g 20)))
  n21 : PySem.W.nsIn K mainGlobals "_law_raise" = some (some (.ref (g 21)))
  n22 : PySem.W.nsIn K mainGlobals "_law_caught" = some (some (.ref (g 22)))
  n23 : PySem.W.nsIn K mainGlobals "_law_by_base" = some (some (.ref (g 23)))
  n24 : PySem.W.nsIn K mainGlobals "_law_right" = some (some (.ref (g 24)))
  n25 : PySem.W.nsIn K mainGlobals "law" = some (some (.ref (g 25)))
  h13 : HasFn K "_copied" "_copied" (top 13) (g 13)
  h15 : HasFn K "_law_dice" "_law_dice" (top 15) (g 15)
  h16 : HasFn K "_law_roll" "_law_roll" (top 16) (g 16)
  h17 : HasFn K "_law_one_of" "_law_one_of" (top 17) (g 17)
  h18 : HasFn K "_law_thing" "_law_thing" (top 18) (g 18)
  h19 : HasFn K "_law_sorts" "_law_sorts" (top 19) (g 19)
  h20 : HasFn K "_law_kinds" "_law_kinds" (top 20) (g 20)
  h21 : HasFn K "_law_raise" "_law_raise" (top 21) (g 21)
  h22 : HasFn K "_law_caught" "_law_caught" (top 22) (g 22)
  h23 : HasFn K "_law_by_base" "_law_by_base" (top 23) (g 23)
  h24 : HasFn K "_law_right" "_law_right" (top 24) (g 24)
  h25 : HasFn K "law" "law" (top 25) (g 25)
  nn : freeB K = true
  xx : clsB K c = true
theorem all_mk {l : PySem.W.OpenLaw} {w : World} {K : PySem.W.Frag} {h : Heap} {mg : Str → Option Value} {fa : Addr} {c f g : Nat → Addr} (X : K.In h) (G : h.Ns mainGlobals mg) (hfa : mg "law" = some (.ref fa)) (T : TopK K c f g) :
    ∃ gd : FuncData, (∀ (s : Shared) (u : Value), BindsTo s gd ⟨[u], []⟩ [("_law_script", u)]) ∧ ∀ base : Heap, K.In base → base.Ns mainGlobals mg → (∃ o, base.get? sysModules = some o) → GFn l.prog w K mg base 10 fa gd ["_law_script"] (spLaw K) := by
  have gl : ∀ {x : Str} {a : Addr}, PySem.W.nsIn K mainGlobals x = some (some (.ref a)) → mg x = some (.ref a) := fun e => PySem.W.mg_of X G e
  obtain rfl : g 25 = fa := by
    have e := hfa.symm.trans (gl T.n25)
    cases e
    rfl
  have no : ∀ x, x ∈ freeN → mg x = none := free_of X G T.nn
  obtain ⟨d0, F0⟩ := T.m0
  obtain ⟨d5, F5⟩ := T.m5
  obtain ⟨d6, F6⟩ := T.m6
  obtain ⟨d7, F7⟩ := T.m7
  obtain ⟨d8, F8⟩ := T.m8
  obtain ⟨d9, F9⟩ := T.m9
  obtain ⟨d10, F10⟩ := T.m10
  obtain ⟨d11, F11⟩ := T.m11
  obtain ⟨e13, E13⟩ := T.h13
  obtain ⟨e15, E15⟩ := T.h15
  obtain ⟨e16, E16⟩ := T.h16
  obtain ⟨e17, E17⟩ := T.h17
  obtain ⟨e18, E18⟩ := T.h18
  obtain ⟨e19, E19⟩ := T.h19
  obtain ⟨e20, E20⟩ := T.h20
  obtain ⟨e21, E21⟩ := T.h21
  obtain ⟨e22, E22⟩ := T.h22
  obtain ⟨e23, E23⟩ := T.h23
  obtain ⟨e24, E24⟩ := T.h24
  obtain ⟨e25, E25⟩ := T.h25
  have b5 := F5.binds (ps := ["self", "line"]) fun _ _ _ _ _ _ us hl => match us, hl with | [_, _], _ => rfl
  have b6 := F6.binds (ps := ["self", "name"]) fun _ _ _ _ _ _ us hl => match us, hl with | [_, _], _ => rfl
  have b7 := F7.binds (ps := ["self", "test", "value"]) fun _ _ _ _ _ _ us hl => match us, hl with | [_, _, _], _ => rfl
  have b8 := F8.binds (ps := ["self", "value"]) fun _ _ _ _ _ _ us hl => match us, hl with | [_, _], _ => rfl
  have b9 := F9.binds (ps := ["self", "limit"]) fun _ _ _ _ _ _ us hl => match us, hl with | [_, _], _ => rfl
  have b10 := F10.binds (ps := ["self", "many"]) fun _ _ _ _ _ _ us hl => match us, hl with | [_, _], _ => rfl
  have b11 := F11.binds (ps := ["self", "reason"]) fun _ _ _ _ _ _ us hl => match us, hl with | [_, _], _ => rfl
  have r13 := E13.binds (ps := ["value"]) fun _ _ _ _ _ _ us hl => match us, hl with | [_], _ => rfl
  have r15 := E15.binds (ps := ["_law_script", "_law_at"]) fun _ _ _ _ _ _ us hl => match us, hl with | [_, _], _ => rfl
  have r16 := E16.binds (ps := ["_law_dice_here", "_law_total"]) fun _ _ _ _ _ _ us hl => match us, hl with | [_, _], _ => rfl
  have r17 := E17.binds (ps := ["_law_dice_here", "_law_items"]) fun _ _ _ _ _ _ us hl => match us, hl with | [_, _], _ => rfl
  have r18 := E18.binds (ps := ["_law_dice_here"]) fun _ _ _ _ _ _ us hl => match us, hl with | [_], _ => rfl
  have r19 := E19.binds (ps := ["_law_e"]) fun _ _ _ _ _ _ us hl => match us, hl with | [_], _ => rfl
  have r20 := E20.binds (ps := ["_law_e"]) fun _ _ _ _ _ _ us hl => match us, hl with | [_], _ => rfl
  have r21 := E21.binds (ps := ["_law_kind", "_law_one", "_law_other"]) fun _ _ _ _ _ _ us hl => match us, hl with | [_, _, _], _ => rfl
  have r22 := E22.binds (ps := ["_law_kind", "_law_one", "_law_other"]) fun _ _ _ _ _ _ us hl => match us, hl with | [_, _, _], _ => rfl
  have r23 := E23.binds (ps := ["_law_kind", "_law_one"]) fun _ _ _ _ _ _ us hl => match us, hl with | [_, _], _ => rfl
  have r24 := E24.binds (ps := ["_law_dice_here"]) fun _ _ _ _ _ _ us hl => match us, hl with | [_], _ => rfl
  have b0 : Binds K d0 ["self", "why"] [] := by
    obtain ⟨ds, hv, hb⟩ := F0.binds1 (ps := ["self", "why"]) 2 1 (by simp) rfl fun T kV doc pm an cdv ct us its h1 h2 => match us, its, h1, h2 with
      | [_, _], [_], _, _ => ⟨_, rfl, rfl⟩
    cases hv
    exact hb
  have b0d : ∃ ds, Vals [.str ""] ds ∧ Binds K d0 ["self", "why"] ds := F0.binds1 (ps := ["self", "why"]) 1 0 (by simp) rfl fun T kV doc pm an cdv ct us its h1 h2 => match us, its, h1, h2 with
    | [_], [_], _, _ => ⟨_, rfl, rfl⟩
  have cf : CopF K mg (g 13) e13 := ⟨E13, ⟨no _ (by decide), no _ (by decide), no _ (by decide), no _ (by decide)⟩, gl T.n13, r13⟩
  have TD : TxtD mg := ⟨no _ (by decide), no _ (by decide), no _ (by decide)⟩
  have TS : TxtS mg := ⟨no _ (by decide), no _ (by decide), no _ (by decide), no _ (by decide), no _ (by decide), no _ (by decide), no _ (by decide), no _ (by decide)⟩
  have cg : Cls12 mg (c 0) (c 1) (c 2) (c 3) (c 4) (c 5) (c 6) (c 7) (c 8) (c 9) (c 10) (c 11) := ⟨gl T.g0, gl T.g1, gl T.g2, gl T.g3, gl T.g4, gl T.g5, gl T.g6, gl T.g7, gl T.g8, gl T.g9, gl T.g10, gl T.g11⟩
  have XX := clsX_of T.xx
  have DF : DiceF K mg (g 16) (g 17) e16 e17 := ⟨E16, E17, gl T.n16, gl T.n17, r16, r17, TD⟩
  refine ⟨e25, fun s u => ?_, fun base KB GB hs => ?_⟩
  · obtain ⟨oc, od, kV, doc, pm, an, cdv, ct, osl, rfl, lk, hcd⟩ := E25.ex
    exact .of_eq rfl
  · have CP : ClsP l.prog w K mg base 2 c f (fun i => [d0, d0, d0, d0, d0, d5, d6, d7, d8, d9, d10, d11].getD i d0) := {
      g := cg
      k0 := T.k0
      k1 := T.k1
      k2 := T.k2
      k3 := T.k3
      k4 := T.k4
      k5 := T.k5
      k6 := T.k6
      k7 := T.k7
      k8 := T.k8
      k9 := T.k9
      k10 := T.k10
      k11 := T.k11
      i0 := (ok_iM F0 ⟨no _ (by decide), T.bV⟩).mono (by decide)
      i5 := ok_i6 (dvs := []) F5 cf (gl T.g0) T.um (ok_iM F0 ⟨no _ (by decide), T.bV⟩) b0
      i6 := ok_i7 F6 cf ⟨no _ (by decide), T.bK⟩
      i7 := ok_i8 F7 cf ⟨no _ (by decide), T.bL⟩
      i8 := ok_i9 F8 cf ⟨no _ (by decide), T.bR⟩
      i9 := ok_i10 F9 cf ⟨no _ (by decide), T.bO⟩
      i10 := ok_i11 F10 cf ⟨no _ (by decide), T.bI⟩
      i11 := ok_i12 F11 cf ⟨no _ (by decide), T.bA⟩
      b0 := b0
      b0d := b0d
      b5 := b5
      b6 := b6
      b7 := b7
      b8 := b8
      b9 := b9
      b10 := b10
      b11 := b11 }
    have RF : RightF l.prog w K mg base c f (fun i => [d0, d0, d0, d0, d0, d5, d6, d7, d8, d9, d10, d11].getD i d0) (g 18) (g 19) (g 20) (g 22) (g 23) e18 e19 e20 e22 e23 := {
      C := CP
      X := XX
      gT := gl T.n18
      gS := gl T.n19
      gK := gl T.n20
      gC := gl T.n22
      gB := gl T.n23
      GT := (ok_thing E18 DF).mono (by decide)
      GS := (ok_sorts E19 TS).mono (by decide)
      GK := (ok_kinds E20 TS cg).mono (by decide)
      GC := ok_caught E22 E21 (gl T.n21) r21 CP XX
      GB := ok_bybase E23 E21 (gl T.n21) r21 CP XX
      bT := r18
      bS := r19
      bK := r20
      bC := r22
      bB := r23
      kT := E18.kp
      kS := E19.kp
      kK := E20.kp
      kC := E22.kp
      kB := E23.kp
      rng := no _ (by decide)
      enu := no _ (by decide)
      rep := no _ (by decide) }
    exact ok_law E25 RF {
      gD := gl T.n15
      gR := gl T.n24
      GD := (ok_dice E15 TD).mono (by decide)
      GR := ok_right E24 RF hs
      bD := r15
      bR := r24
      kD := E15.kp
      kR := E24.kp
      max := no _ (by decide)
      min := no _ (by decide)
      len := no _ (by decide) }
end OM

namespace OM
open PySem PySem.Spec PyProof.Rows L2
theorem top_mk {K : PySem.W.Frag} {c0 c1 c2 c3 c4 c5 c6 c7 c8 c9 c10 c11 f0 f5 f6 f7 f8 f9 f10 f11 g13 g15 g16 g17 g18 g19 g20 g21 g22 g23 g24 g25 : Addr}
    (n0 : PySem.W.nsIn K mainGlobals "MoveError" = some (some (.ref c0)))
    (n1 : PySem.W.nsIn K mainGlobals "InvalidValue" = some (some (.ref c1)))
    (n2 : PySem.W.nsIn K mainGlobals "InvalidStretch" = some (some (.ref c2)))
    (n3 : PySem.W.nsIn K mainGlobals "InvalidProgram" = some (some (.ref c3)))
    (n4 : PySem.W.nsIn K mainGlobals "InvalidOperation" = some (some (.ref c4)))
    (n5 : PySem.W.nsIn K mainGlobals "ParseError" = some (some (.ref c5)))
    (n6 : PySem.W.nsIn K mainGlobals "UnknownName" = some (some (.ref c6)))
    (n7 : PySem.W.nsIn K mainGlobals "Unanswered" = some (some (.ref c7)))
    (n8 : PySem.W.nsIn K mainGlobals "InvalidNumber" = some (some (.ref c8)))
    (n9 : PySem.W.nsIn K mainGlobals "TooMany" = some (some (.ref c9)))
    (n10 : PySem.W.nsIn K mainGlobals "NothingToUndo" = some (some (.ref c10)))
    (n11 : PySem.W.nsIn K mainGlobals "Refused" = some (some (.ref c11)))
    (k0 : KCls K c0 f0 "ValueError" [])
    (k1 : KCls K c1 f0 "ValueError" [])
    (k2 : KCls K c2 f0 "ValueError" [])
    (k3 : KCls K c3 f0 "ValueError" [])
    (k4 : KCls K c4 f0 "ValueError" [])
    (k5 : KCls K c5 f5 "ValueError" ["line"])
    (k6 : KCls K c6 f6 "KeyError" ["name"])
    (k7 : KCls K c7 f7 "LookupError" ["test", "value"])
    (k8 : KCls K c8 f8 "RuntimeError" ["value"])
    (k9 : KCls K c9 f9 "OverflowError" ["limit"])
    (k10 : KCls K c10 f10 "IndexError" ["many"])
    (k11 : KCls K c11 f11 "ArithmeticError" ["reason"])
    (m0 : HasM K f0)
    (m5 : HasFn K "__init__" "ParseError.__init__" (inSt 6) f5)
    (m6 : HasFn K "__init__" "UnknownName.__init__" (inSt 7) f6)
    (m7 : HasFn K "__init__" "Unanswered.__init__" (inSt 8) f7)
    (m8 : HasFn K "__init__" "InvalidNumber.__init__" (inSt 9) f8)
    (m9 : HasFn K "__init__" "TooMany.__init__" (inSt 10) f9)
    (m10 : HasFn K "__init__" "NothingToUndo.__init__" (inSt 11) f10)
    (m11 : HasFn K "__init__" "Refused.__init__" (inSt 12) f11)
    (um : UMeth K c0 "__init__" f0)
    (bV : PySem.W.findCls K (.type "ValueError") (.type "type") "__init__" = some (.val (.builtin "ValueError.__init__")))
    (bK : PySem.W.findCls K (.type "KeyError") (.type "type") "__init__" = some (.val (.builtin "KeyError.__init__")))
    (bL : PySem.W.findCls K (.type "LookupError") (.type "type") "__init__" = some (.val (.builtin "LookupError.__init__")))
    (bR : PySem.W.findCls K (.type "RuntimeError") (.type "type") "__init__" = some (.val (.builtin "RuntimeError.__init__")))
    (bO : PySem.W.findCls K (.type "OverflowError") (.type "type") "__init__" = some (.val (.builtin "OverflowError.__init__")))
    (bI : PySem.W.findCls K (.type "IndexError") (.type "type") "__init__" = some (.val (.builtin "IndexError.__init__")))
    (bA : PySem.W.findCls K (.type "ArithmeticError") (.type "type") "__init__" = some (.val (.builtin "ArithmeticError.__init__")))
    (a13 : PySem.W.nsIn K mainGlobals "_copied" = some (some (.ref g13)))
    (a15 : PySem.W.nsIn K mainGlobals "_law_dice" = some (some (.ref g15)))
    (a16 : PySem.W.nsIn K mainGlobals "_law_roll" = some (some (.ref g16)))
    (a17 : PySem.W.nsIn K mainGlobals "_law_one_of" = some (some (.ref g17)))
    (a18 : PySem.W.nsIn K mainGlobals "_law_thing" = some (some (.ref g18)))
    (a19 : PySem.W.nsIn K mainGlobals "_law_sorts" = some (some (.ref g19)))
    (a20 : PySem.W.nsIn K mainGlobals "_law_kinds" = some (some (.ref g20)))
    (a21 : PySem.W.nsIn K mainGlobals "_law_raise" = some (some (.ref g21)))
    (a22 : PySem.W.nsIn K mainGlobals "_law_caught" = some (some (.ref g22)))
    (a23 : PySem.W.nsIn K mainGlobals "_law_by_base" = some (some (.ref g23)))
    (a24 : PySem.W.nsIn K mainGlobals "_law_right" = some (some (.ref g24)))
    (a25 : PySem.W.nsIn K mainGlobals "law" = some (some (.ref g25)))
    (h13 : HasFn K "_copied" "_copied" (top 13) g13)
    (h15 : HasFn K "_law_dice" "_law_dice" (top 15) g15)
    (h16 : HasFn K "_law_roll" "_law_roll" (top 16) g16)
    (h17 : HasFn K "_law_one_of" "_law_one_of" (top 17) g17)
    (h18 : HasFn K "_law_thing" "_law_thing" (top 18) g18)
    (h19 : HasFn K "_law_sorts" "_law_sorts" (top 19) g19)
    (h20 : HasFn K "_law_kinds" "_law_kinds" (top 20) g20)
    (h21 : HasFn K "_law_raise" "_law_raise" (top 21) g21)
    (h22 : HasFn K "_law_caught" "_law_caught" (top 22) g22)
    (h23 : HasFn K "_law_by_base" "_law_by_base" (top 23) g23)
    (h24 : HasFn K "_law_right" "_law_right" (top 24) g24)
    (h25 : HasFn K "law" "law" (top 25) g25)
    (nn : freeB K = true)
    (xx : clsB K (fun i => [c0, c1, c2, c3, c4, c5, c6, c7, c8, c9, c10, c11].getD i 0) = true) :
    TopK K (fun i => [c0, c1, c2, c3, c4, c5, c6, c7, c8, c9, c10, c11].getD i 0) (fun i => [f0, f0, f0, f0, f0, f5, f6, f7, f8, f9, f10, f11].getD i 0) (fun i => [0, 0, 0, 0, 0, 0, 0, 0, 0, 0, 0, 0, 0, g13, 0, g15, g16, g17, g18, g19, g20, g21, g22, g23, g24, g25].getD i 0) :=
  ⟨n0, n1, n2, n3, n4, n5, n6, n7, n8, n9, n10, n11, k0, k1, k2, k3, k4, k5, k6, k7, k8, k9, k10, k11, m0, m5, m6, m7, m8, m9, m10, m11, um, bV, bK, bL, bR, bO, bI, bA, a13, a15, a16, a17, a18, a19, a20, a21, a22, a23, a24, a25, h13, h15, h16, h17, h18, h19, h20, h21, h22, h23, h24, h25, nn, xx⟩
theorem hasFn_mk {K : PySem.W.Frag} {x qual : Str} {st : Stmt} {f : Addr} {oc : Value} {od an : Option Addr} {osl : Array (Option Value)} {kV doc pm cdv ct : Value}
    (l : K.lookup f = some ⟨oc, od, .func (PySem.W.fnOf x qual (defArgs st) (defBody st) (defScope st) .none kV doc pm an cdv ct), osl⟩) (c : PySem.W.codeIn K cdv qual = true) (k : PySem.W.keepIn K (.ref f) = true) : HasFn K x qual st f := ⟨_, fun_mk l c k⟩
theorem hasM_mk {K : PySem.W.Frag} {f T : Addr} {oc tc : Value} {od an td : Option Addr} {osl tsl : Array (Option Value)} {kV doc pm cdv ct : Value} {tk : Tok} {n : Nat}
    (l : K.lookup f = some ⟨oc, od, .func (PySem.W.fnOf "__init__" "MoveError.__init__" (defArgs (inSt 1)) (defBody (inSt 1)) (defScope (inSt 1)) (.ref T) kV doc pm an cdv ct), osl⟩) (c : PySem.W.codeIn K cdv "MoveError.__init__" = true)
    (k : PySem.W.keepIn K (.ref f) = true) (lt : K.lookup T = some ⟨tc, td, .seq #[.str "" tk] n, tsl⟩) : HasM K f :=
  ⟨_, ⟨⟨_, _, _, _, _, _, _, _, _, _, rfl, l, c, .inr ⟨fun z => (nomatch z), T, _, [.str "" tk], n, rfl, lt, rfl, .cons ⟨tk, rfl⟩ .nil⟩, .inl rfl⟩, k⟩⟩
section
variable {K : PySem.W.Frag} {C fI : Addr} {B nI iI : String} {tail : List Value} {nq q : Str} {N : Addr} {bs bm : List Value} {sn : List Str} {sub : List Value} {ab : Bool} {col : Option Bool} {dd : Option Addr} {k0 k1 k2 k3 k5 : Option Value} {x y : Str}
theorem mkB_mk (Y : BaseX B nI iI tail) (lk : K.lookup C = some (excClassObj nq q C N bs bm true sn sub ab col dd k0 k1 k2 k3 k5 nI)) (rt : refsT tail bm = true) (sa : PySem.W.findIn K (.ref C) "__setattr__" = some (some (.builtin "object.__setattr__")))
    (ex : PySem.W.subIn K (.ref C) (.type "BaseException") = some true) (ty : PySem.W.typeIn K (.ref C) = some (.type "type")) (kp : PySem.W.keepIn K (.ref C) = true) (ic : PySem.W.findIn K (.ref C) "__init__" = some (some (.ref fI)))
    (ti : PySem.W.typeIn K (.ref fI) = some (.type "function")) : MkB K C fI tail := ⟨⟨⟨_, _, _, _, _, _, _, _, _, _, _, _, _, _, _, _, _, _, Y, lk, rt⟩, sa, ex, ty, kp⟩, ic, ti⟩
theorem kc0 (M : MkB K C fI tail) (hb : tail.contains (.type B) = true) : KCls K C fI B [] := ⟨⟨tail, M, hb⟩, fun _ h => (nomatch h)⟩
theorem kc1 (M : MkB K C fI tail) (hb : tail.contains (.type B) = true) (hx : PySem.W.findIn K (.ref C) x = some none) : KCls K C fI B [x] := ⟨⟨tail, M, hb⟩, fun f h => by
  rcases List.mem_cons.mp h with rfl | h
  · exact hx
  · cases h⟩
theorem kc2 (M : MkB K C fI tail) (hb : tail.contains (.type B) = true) (hx : PySem.W.findIn K (.ref C) x = some none) (hy : PySem.W.findIn K (.ref C) y = some none) : KCls K C fI B [x, y] := ⟨⟨tail, M, hb⟩, fun f h => by
  rcases List.mem_cons.mp h with rfl | h
  · exact hx
  · rcases List.mem_cons.mp h with rfl | h
    · exact hy
    · cases h⟩
end
theorem walk {l : PySem.W.OpenLaw} {q : Program} {loose : List Str} {XP : (Str → Option Value) → Heap → Prop} {YP : World → Heap → Prop} {d : DefRec} {K : Params → PySem.W.Frag} (hn : l.most = some 63) (hdf : d.params.defaults = []) (hi : importsNone q = true)
    (hd : d.name = "law") (hY : ∀ (w : World) (h : Heap), YP w h → (K w.params).In h) (T : ∀ w : World, ∃ c f g, TopK (K w.params) c f g) : PySem.W.WalkO q loose XP YP l.row.toRowW d [] (fun f vs => PySem.call f vs) :=
  walkG (n := 63) (k := 10) (x := "_law_script") (sp := spLaw) hn (by decide) hdf hi ⟨rfl, by decide, by decide⟩ hY (fun w mg fa h KX G hmg => by
    obtain ⟨c, f, g, t⟩ := T w
    rw [hd] at hmg
    exact all_mk KX G hmg t) fun K H a ns hl hS => ⟨a, ns, rfl, hl, hS, fun _ => rfl⟩
end OM
open PySem PySem.W PyProof.Rows OM in
set_option maxRecDepth 100000 in
set_option maxHeartbeats 0 in
theorem PySem.Challenge.cw_orderlymoves_k00_errors_and_what_they_ke_holds : PySem.Challenge.rw_orderlymoves_k00_errors_and_what_they_ke.Holds := by
  w_on; o_law; k_head; (case hw => w_witness2)
  k_fill
  refine OM.walk (l := PySem.Challenge.rw_orderlymoves_k00_errors_and_what_they_ke) rfl rfl (by decide +kernel) rfl (fun w h Y => PySem.W.kIn_of Y) ?T
  case T =>
    intro w
    refine' ⟨_, _, _, OM.top_mk ?n0 ?n1 ?n2 ?n3 ?n4 ?n5 ?n6 ?n7 ?n8 ?n9 ?n10 ?n11 ?k0 ?k1 ?k2 ?k3 ?k4 ?k5 ?k6 ?k7 ?k8 ?k9 ?k10 ?k11 ?m0 ?m5 ?m6 ?m7 ?m8 ?m9 ?m10 ?m11 ?um ?bV ?bK ?bL ?bR ?bO ?bI ?bA ?a13 ?a15 ?a16 ?a17 ?a18 ?a19 ?a20 ?a21 ?a22 ?a23 ?a24 ?a25 ?h13 ?h15 ?h16 ?h17 ?h18 ?h19 ?h20 ?h21 ?h22 ?h23 ?h24 ?h25 ?nn ?xx⟩
    (case n0 => k_is)
    (case n1 => k_is)
    (case n2 => k_is)
    (case n3 => k_is)
    (case n4 => k_is)
    (case n5 => k_is)
    (case n6 => k_is)
    (case n7 => k_is)
    (case n8 => k_is)
    (case n9 => k_is)
    (case n10 => k_is)
    (case n11 => k_is)
    (case k0 => (apply OM.kc0; apply OM.mkB_mk OM.base_VE; k_is; kernel_rfl; k_is; k_is; k_is; k_is; k_is; k_is; decide +kernel))
    (case k1 => (apply OM.kc0; apply OM.mkB_mk OM.base_VE; k_is; kernel_rfl; k_is; k_is; k_is; k_is; k_is; k_is; decide +kernel))
    (case k2 => (apply OM.kc0; apply OM.mkB_mk OM.base_VE; k_is; kernel_rfl; k_is; k_is; k_is; k_is; k_is; k_is; decide +kernel))
    (case k3 => (apply OM.kc0; apply OM.mkB_mk OM.base_VE; k_is; kernel_rfl; k_is; k_is; k_is; k_is; k_is; k_is; decide +kernel))
    (case k4 => (apply OM.kc0; apply OM.mkB_mk OM.base_VE; k_is; kernel_rfl; k_is; k_is; k_is; k_is; k_is; k_is; decide +kernel))
    (case k5 => (apply OM.kc1; apply OM.mkB_mk OM.base_VE; k_is; kernel_rfl; k_is; k_is; k_is; k_is; k_is; k_is; decide +kernel; k_is))
    (case k6 => (apply OM.kc1; apply OM.mkB_mk OM.base_KE; k_is; kernel_rfl; k_is; k_is; k_is; k_is; k_is; k_is; decide +kernel; k_is))
    (case k7 => (apply OM.kc2; apply OM.mkB_mk OM.base_LE; k_is; kernel_rfl; k_is; k_is; k_is; k_is; k_is; k_is; decide +kernel; k_is; k_is))
    (case k8 => (apply OM.kc1; apply OM.mkB_mk OM.base_RE; k_is; kernel_rfl; k_is; k_is; k_is; k_is; k_is; k_is; decide +kernel; k_is))
    (case k9 => (apply OM.kc1; apply OM.mkB_mk OM.base_OE; k_is; kernel_rfl; k_is; k_is; k_is; k_is; k_is; k_is; decide +kernel; k_is))
    (case k10 => (apply OM.kc1; apply OM.mkB_mk OM.base_IE; k_is; kernel_rfl; k_is; k_is; k_is; k_is; k_is; k_is; decide +kernel; k_is))
    (case k11 => (apply OM.kc1; apply OM.mkB_mk OM.base_AE; k_is; kernel_rfl; k_is; k_is; k_is; k_is; k_is; k_is; decide +kernel; k_is))
    (case m0 => (apply OM.hasM_mk; k_is; k_is; k_is; k_is))
    (case m5 => (apply OM.hasFn_mk; k_is; k_is; k_is))
    (case m6 => (apply OM.hasFn_mk; k_is; k_is; k_is))
    (case m7 => (apply OM.hasFn_mk; k_is; k_is; k_is))
    (case m8 => (apply OM.hasFn_mk; k_is; k_is; k_is))
    (case m9 => (apply OM.hasFn_mk; k_is; k_is; k_is))
    (case m10 => (apply OM.hasFn_mk; k_is; k_is; k_is))
    (case m11 => (apply OM.hasFn_mk; k_is; k_is; k_is))
    (case um => (apply OM.UMeth.mk; k_is; k_is; k_is; k_is; k_is))
    (case bV => k_is)
    (case bK => k_is)
    (case bL => k_is)
    (case bR => k_is)
    (case bO => k_is)
    (case bI => k_is)
    (case bA => k_is)
    (case a13 => k_is)
    (case a15 => k_is)
    (case a16 => k_is)
    (case a17 => k_is)
    (case a18 => k_is)
    (case a19 => k_is)
    (case a20 => k_is)
    (case a21 => k_is)
    (case a22 => k_is)
    (case a23 => k_is)
    (case a24 => k_is)
    (case a25 => k_is)
    (case h13 => (apply OM.hasFn_mk; k_is; k_is; k_is))
    (case h15 => (apply OM.hasFn_mk; k_is; k_is; k_is))
    (case h16 => (apply OM.hasFn_mk; k_is; k_is; k_is))
    (case h17 => (apply OM.hasFn_mk; k_is; k_is; k_is))
    (case h18 => (apply OM.hasFn_mk; k_is; k_is; k_is))
    (case h19 => (apply OM.hasFn_mk; k_is; k_is; k_is))
    (case h20 => (apply OM.hasFn_mk; k_is; k_is; k_is))
    (case h21 => (apply OM.hasFn_mk; k_is; k_is; k_is))
    (case h22 => (apply OM.hasFn_mk; k_is; k_is; k_is))
    (case h23 => (apply OM.hasFn_mk; k_is; k_is; k_is))
    (case h24 => (apply OM.hasFn_mk; k_is; k_is; k_is))
    (case h25 => (apply OM.hasFn_mk; k_is; k_is; k_is))
    (case nn => kernel_rfl)
    (case xx => kernel_rfl)
