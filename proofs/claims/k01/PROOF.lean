import PyProof.Rows.All
import Wide.All
import OpenK.AllK
import Wide.FinOn
import HandS.ForMost
import HandS.Exc
import HandS.ExcInit
import HandS.IsInst
import HandS.ExcIs
import HandS.ExcField
import HandS.TryMany
import HandS.Wide
import HandS.Comp
import HandS.DictComp
import HandS.Iter
import HandS.Dict
import HandS.Text
import HandS.Codes
import PyProof.StrCalls6
import HandS.Zip
import HandS.TupAny
import HandS.Flow
import HandS.More
import HandS.Replace
import HandS.ReplaceDef
import HandS.FStr
import KE.GoesMore
import HandS.Defaults
import HandS.WordsExc
import HandS.Set
import HandS.Base
import HandS.Call
import HandS.List
import HandS.SetBool
import HandS.Sort
import PyProof.Rows.SortShellAny
import HandS.TupSets
import HandS.SetFor
import HandS.Strs
import KE.DatumOrd
import HandS.Star
import PyProof.EqKinds
import PyProof.NeKinds
import HandS.Ends
import HandS.Lambda
import HandS.ListItems
import KE.KNestM
import HandS.HeadHook3
import PySem.Challenge.RW_orderlymoves_k01_names_sets_and_values
set_option Elab.async false
set_option linter.all false
set_option maxRecDepth 100000
set_option maxHeartbeats 4000000
namespace OM
open PySem
/-- what is asked of a built-in class's own __init__ -/
structure InitF (B initId : String) : Prop where
  init : Slot B "__init__" initId
  initEntry : entryFor table initId = some Builtin.«BaseException.__init__»
  initSplit : splitId initId = some (B, "__init__")
  initKind : builtinKind initId = some .slot
  initRow : Manifest.signature? initId = some ⟨.positional, "*", B, .self, [⟨"args", .varPos, false⟩]⟩
  noStar : (B != "*") = true
theorem InitF.of {B n i : String} (F : ExcCallFacts B n i) : InitF B i := ⟨F.init, F.initEntry, F.initSplit, F.initKind, F.initRow, F.noStar⟩
theorem initF_KE : InitF "KeyError" "KeyError.__init__" where
  init := .of (owner := "KeyError") (n := "__init__") (by rw [typeLookup_type, builtinLookup_eq_fast]; kernel_rfl) (by decide +kernel) (by decide +kernel) (by decide +kernel)
    (by first | exact .inl (by decide +kernel) | exact .inr (by decide +kernel)) (by rw [isSubtype_type]; kernel_rfl)
  initEntry := entryFor_alias (id' := "BaseException.__init__") (by rw [fastTable_eq_tree]; kernel_rfl) (by first | rfl | decide +kernel) (by decide +kernel) (by rw [fastTable_eq_tree]; kernel_rfl)
  initSplit := by kernel_rfl
  initKind := by kernel_rfl
  initRow := by kernel_rfl
  noStar := by decide +kernel

/-- own classes, then a built-in chain -/
def refsT (tail : List Value) : List Value → Bool
  | .ref _ :: r => refsT tail r
  | l => l == tail
structure BaseX (B newId initId : String) (tail : List Value) : Prop where
  F : ∃ Bn inN bmN, ExcBaseFacts Bn newId inN bmN ∧ tail.contains (.type Bn) = true
  I : InitF B initId
  hasB : tail.contains (.type B) = true
  noAttr : tail.contains (.type "AttributeError") = false
  noName : tail.contains (.type "NameError") = false
  pass : ∀ self : Value, refuseLoop self "__setattr__" tail = pure ()
  obj : tail.contains (.type "object") = true
  ne : tail.isEmpty = false
  ty : typeOf (.type B) = pure (.type "type")
  stub : Manifest.isStub B = false
theorem base_VE : BaseX "ValueError" "ValueError.__new__" "ValueError.__init__" [.type "ValueError", .type "Exception", .type "BaseException", .type "object"] :=
  ⟨⟨_, _, _, F.excBase_ValueError, by decide +kernel⟩, .of F.excBase_ValueError.toExcCallFacts, by decide +kernel, by decide +kernel, by decide +kernel, fun self => by kernel_rfl, by decide +kernel, rfl, by kernel_rfl, by decide +kernel⟩
theorem base_LE : BaseX "LookupError" "LookupError.__new__" "LookupError.__init__" [.type "LookupError", .type "Exception", .type "BaseException", .type "object"] :=
  ⟨⟨_, _, _, F.excBase_LookupError, by decide +kernel⟩, .of F.excBase_LookupError.toExcCallFacts, by decide +kernel, by decide +kernel, by decide +kernel, fun self => by kernel_rfl, by decide +kernel, rfl, by kernel_rfl, by decide +kernel⟩
theorem base_RE : BaseX "RuntimeError" "RuntimeError.__new__" "RuntimeError.__init__" [.type "RuntimeError", .type "Exception", .type "BaseException", .type "object"] :=
  ⟨⟨_, _, _, F.excBase_RuntimeError, by decide +kernel⟩, .of F.excBase_RuntimeError.toExcCallFacts, by decide +kernel, by decide +kernel, by decide +kernel, fun self => by kernel_rfl, by decide +kernel, rfl, by kernel_rfl, by decide +kernel⟩
theorem base_OE : BaseX "OverflowError" "OverflowError.__new__" "OverflowError.__init__" [.type "OverflowError", .type "ArithmeticError", .type "Exception", .type "BaseException", .type "object"] :=
  ⟨⟨_, _, _, F.excBase_OverflowError, by decide +kernel⟩, .of F.excBase_OverflowError.toExcCallFacts, by decide +kernel, by decide +kernel, by decide +kernel, fun self => by kernel_rfl, by decide +kernel, rfl, by kernel_rfl, by decide +kernel⟩
theorem base_IE : BaseX "IndexError" "IndexError.__new__" "IndexError.__init__" [.type "IndexError", .type "LookupError", .type "Exception", .type "BaseException", .type "object"] :=
  ⟨⟨_, _, _, F.excBase_IndexError, by decide +kernel⟩, .of F.excBase_IndexError.toExcCallFacts, by decide +kernel, by decide +kernel, by decide +kernel, fun self => by kernel_rfl, by decide +kernel, rfl, by kernel_rfl, by decide +kernel⟩
theorem base_AE : BaseX "ArithmeticError" "ArithmeticError.__new__" "ArithmeticError.__init__" [.type "ArithmeticError", .type "Exception", .type "BaseException", .type "object"] :=
  ⟨⟨_, _, _, F.excBase_ArithmeticError, by decide +kernel⟩, .of F.excBase_ArithmeticError.toExcCallFacts, by decide +kernel, by decide +kernel, by decide +kernel, fun self => by kernel_rfl, by decide +kernel, rfl, by kernel_rfl, by decide +kernel⟩
theorem base_KE : BaseX "KeyError" "LookupError.__new__" "KeyError.__init__" [.type "KeyError", .type "LookupError", .type "Exception", .type "BaseException", .type "object"] :=
  ⟨⟨_, _, _, F.excBase_LookupError, by decide +kernel⟩, initF_KE, by decide +kernel, by decide +kernel, by decide +kernel, fun self => by kernel_rfl, by decide +kernel, rfl, by kernel_rfl, by decide +kernel⟩
theorem refsT_cases {tail : List Value} : ∀ l : List Value, refsT tail l = true → (∃ c r, l = .ref c :: r ∧ refsT tail r = true) ∨ l = tail
  | [], e => .inr (beq_iff_eq.mp e)
  | .ref c :: r, e => .inl ⟨c, r, rfl, e⟩
  | .none :: _, e => .inr (beq_iff_eq.mp e)
  | .ellipsis :: _, e => .inr (beq_iff_eq.mp e)
  | .notImplemented :: _, e => .inr (beq_iff_eq.mp e)
  | .bool _ :: _, e => .inr (beq_iff_eq.mp e)
  | .int _ _ :: _, e => .inr (beq_iff_eq.mp e)
  | .float _ _ :: _, e => .inr (beq_iff_eq.mp e)
  | .str _ _ :: _, e => .inr (beq_iff_eq.mp e)
  | .bytes _ _ :: _, e => .inr (beq_iff_eq.mp e)
  | .type _ :: _, e => .inr (beq_iff_eq.mp e)
  | .builtin _ :: _, e => .inr (beq_iff_eq.mp e)
theorem refsT_pass {tail : List Value} {self : Value} (hp : refuseLoop self "__setattr__" tail = pure ()) : ∀ l : List Value, refsT tail l = true → refuseLoop self "__setattr__" l = pure () := by
  intro l
  induction l with
  | nil =>
    intro e
    rcases refsT_cases [] e with ⟨c, r', q, h⟩ | q
    · cases q
    · rw [q]; exact hp
  | cons a r ih =>
    intro e
    rcases refsT_cases (a :: r) e with ⟨c, r', q, h⟩ | q
    · obtain ⟨rfl, rfl⟩ := List.cons.inj q
      rw [refuseLoop_ref]; exact ih h
    · rw [q]; exact hp
theorem refsT_contains {tail : List Value} (X : String) : ∀ l : List Value, refsT tail l = true → l.contains (.type X) = tail.contains (.type X) := by
  intro l
  induction l with
  | nil =>
    intro e
    rcases refsT_cases [] e with ⟨c, r', q, h⟩ | q
    · cases q
    · rw [q]
  | cons a r ih =>
    intro e
    rcases refsT_cases (a :: r) e with ⟨c, r', q, h⟩ | q
    · obtain ⟨rfl, rfl⟩ := List.cons.inj q
      rw [List.contains_cons, ih h]; rfl
    · rw [q]
theorem refsT_ne {tail : List Value} (hn : tail.isEmpty = false) {l : List Value} (e : refsT tail l = true) : l.isEmpty = false := by
  rcases refsT_cases l e with ⟨c, r', q, h⟩ | q
  · rw [q]; rfl
  · rw [q]; exact hn

open PySem.HandSPX Builtin Builtin.ObjectAttr
section
variable {M : Model} {A : Around} {E : Value → Shared → Prop} {h : Heap} {g : Array GenState} {d : Drawn} {t : Nat} {os : OsState}
variable {nm q : Str} {C N : Addr} {bs bm bmB tail : List Value} {hdct : Bool} {sn : List Str} {sub : List Value} {ab : Bool} {col : Option Bool} {dd : Option Addr} {k0 k1 k2 k3 k5 : Option Value} {B newId initId : String}
theorem check_newX {Bn inN : String} {bmN : List Value} (F : ExcBaseFacts Bn newId inN bmN) (hB : bm.contains (.type Bn) = true) {rest : List Value} {Q : Unit → Shared → Prop}
    (hC : h.get? C = some (excClassObj nm q C N bs bm hdct sn sub ab col dd k0 k1 k2 k3 k5 newId)) (hq : Q () ⟨h, g, d, t, os⟩) : wpAny M A (checkBuiltinCall newId ⟨.ref C :: rest, []⟩) Q E ⟨h, g, d, t, os⟩ := by
  have hcont : (Value.ref C :: bm).contains (.type Bn) = true := by rw [List.contains_cons, hB, Bool.or_true]
  have hstar := F.noStar
  simp only [checkBuiltinCall, F.newKind, F.newSplit, F.newRow]
  repeat (first | refine wpAny_loadPart_at hC ?_ | (refine wpAny_isSubtype_exc hC ?_; rw [hcont]) | refine wpAny_staticBase_exc hC ?_ | refine wpAny_madeBy_exc hC ?_ | simp only [bne_self_eq_false, Bool.false_eq_true, if_false] | wp_step)
  exact hq
theorem check_initX (F : InitF B initId) (hB : bm.contains (.type B) = true) {e : Addr} {oe : Obj} {rest : List Value} {Q : Unit → Shared → Prop}
    (hC : h.get? C = some (excClassObj nm q C N bs bm hdct sn sub ab col dd k0 k1 k2 k3 k5 newId)) (he : h.get? e = some oe) (hcls : oe.cls = .ref C) (hq : Q () ⟨h, g, d, t, os⟩) :
    wpAny M A (checkBuiltinCall initId ⟨.ref e :: rest, []⟩) Q E ⟨h, g, d, t, os⟩ := by
  have hcB : (Value.ref C :: bm).contains (.type B) = true := by rw [List.contains_cons, hB, Bool.or_true]
  have hshort := F.noStar
  simp only [checkBuiltinCall, F.initKind, F.initSplit, F.initRow]
  repeat (first | (with_reducible refine wpAny_loadPart_at he ?_; rw [hcls]) | with_reducible refine wpAny_loadPart_at hC ?_ | (with_reducible refine wpAny_isSubtype_exc hC ?_; rw [hcB]) | wp_step)
  refine wpAny_onRaise ?_
  rw [show ∀ (a b : String) (n : Nat), Bind.check ⟨.positional, "*", B, .self, [⟨"args", .varPos, false⟩]⟩ a b n (List.map (fun x => x.fst) ({ pos := Value.ref e :: rest } : Args).kw) = pure () from
    fun a b n => check_star_args _ _ _ _ _ _]
  exact wpAny_pure hq
end
section
variable {prog : Program} {w : World} {A : Around} {E : Value → Shared → Prop} {R : Result → Shared → Prop} {h : Heap} {g : Array GenState} {d : Drawn} {t : Nat} {os : OsState}
variable {nm q : Str} {C N : Addr} {bs bm tail : List Value} {hdct : Bool} {sn : List Str} {sub : List Value} {ab : Bool} {col : Option Bool} {dd : Option Addr} {k0 k1 k2 k3 k5 : Option Value} {B newId initId : String}
theorem newX (X : BaseX B newId initId tail) (hm : refsT tail bm = true) {rest : List Value}
    (hC : h.get? C = some (excClassObj nm q C N bs bm hdct sn sub ab col dd k0 k1 k2 k3 k5 newId))
    (hq : R (.ok (.ret (.ref (h.objs.size + 1)))) ⟨(h.push { cls := .type "tuple", data := .seq rest.toArray }).push
      { cls := .ref C, data := .fields #[.ref h.objs.size, .none, .none, .none, .bool false, .none] }, g, d, t, os⟩) (hrest : rest.length ≤ sizeLine) :
    codeAny (model prog w) A (.builtin newId ⟨.ref C :: rest, []⟩) R ⟨h, g, d, t, os⟩ := by
  obtain ⟨Bn, inN, bmN, F, hBn⟩ := X.F
  have hends := F.ends
  have hcB : (Value.ref C :: bm).contains (.type Bn) = true := by rw [List.contains_cons, refsT_contains _ _ hm, hBn, Bool.or_true]
  have hcA : (Value.ref C :: bm).contains (.type "AttributeError") = false := by rw [List.contains_cons, refsT_contains _ _ hm, X.noAttr]; rfl
  have hcN : (Value.ref C :: bm).contains (.type "NameError") = false := by rw [List.contains_cons, refsT_contains _ _ hm, X.noName]; rfl
  refine codeAny_builtinAt F.entry ?_
  unfold Builtin.«BaseException.__new__»
  refine wpAt_bind ?_
  show wpAt _ _ _ (stack >>= _) _ _ _
  refine wpAt_bind (wpAt_stack fun p below => wpAt_of_wpAny ?_)
  wp_walk
  refine wpAt_of_wpAny ?_
  rw [F.owner]
  repeat (first | with_reducible refine wpAny_madeHere_exc F.canon hC ?_ | with_reducible refine wpAny_loadPart_at hC ?_ | (with_reducible refine wpAny_isSubtype_exc hC ?_; first | rw [hcB] | rw [hcA] | rw [hcN]) | wp_step)
  show R _ _
  rw [Heap.size_push]
  exact hq
theorem type_callX (X : BaseX B newId initId tail) (hm : refsT tail bm = true) {rest : List Value} {fI : Addr} {Q : Fin → Shared → Prop}
    (hC : h.get? C = some (excClassObj nm q C N bs bm hdct sn sub ab col dd k0 k1 k2 k3 k5 newId))
    (hi : W.Looks (model prog w) h (typeLookup (.ref C) "__init__") (some (.ref fI))) (hb : ∀ self, W.Looks (model prog w) h (bindSpecial (.ref fI) self) (.ref fI, [self])) (hrest : rest.length ≤ sizeLine)
    (hq : codeAny (model prog w) A (.call (.ref fI) ⟨.ref (h.objs.size + 1) :: rest, []⟩)
      (fun r s' => match r with | .ok (.ret v) => v = .none ∧ Q (.done (.ret (.ref (h.objs.size + 1)))) s' | .ok _ => False | .error e => E e s')
      ⟨(h.push (W.kdv_tup rest)).push (excO C h.objs.size), g, d, t, os⟩) :
    wpAny (model prog w) A (Builtin.«type.__call__» ⟨.ref C :: rest, []⟩) Q E ⟨h, g, d, t, os⟩ := by
  obtain ⟨Bn, inN, bmN, F, hBn⟩ := X.F
  repeat (first | with_reducible refine wpAny_loadPart_at hC ?_ | with_reducible refine wpAny_madeBy_exc hC ?_ | wp_step)
  refine codeAny_call_builtin_code (Code.quiet_builtin _ F.quiet) (check_newX F (by rw [refsT_contains _ _ hm, hBn]) hC ?_)
  refine newX X hm hC ?_ hrest
  show wpAny _ _ _ _ _ _
  have k : ∀ b o, h.get? b = some o → ((h.push (W.kdv_tup rest)).push (excO C h.objs.size)).get? b = some o := fun b o e => Heap.get?_push_of_some _ (Heap.get?_push_of_some _ e)
  have hC₁ := k _ _ hC
  have hget : ((h.push (W.kdv_tup rest)).push (excO C h.objs.size)).get? (h.objs.size + 1) = some (excO C h.objs.size) := by heap_get
  have hcC : (Value.ref C :: bm).contains (.ref C) = true := by simp
  have i1 := hi.keeps k
  have b1 := (hb (.ref (h.objs.size + 1))).keeps k
  unfold isInstance
  repeat (first | with_reducible refine wpAny_loadPart_at hget ?_ | (with_reducible refine wpAny_isSubtype_exc hC₁ ?_; rw [hcC]) | wp_step)
  show wpAny _ _ (typeLookup (.ref C) _) _ _ _
  refine i1.at ?_
  refine wpAny_holding (wpAny_bind (b1.at ?_))
  refine wpAny_bind (wpAny_call (codeAny_mono hq fun r s' z => ?_))
  rcases r with e | (v | _ | _ | _) <;> first | exact z | exact z.elim | skip
  obtain ⟨rfl, z⟩ := z
  first
    | exact wpAny_pure (wpAny_pure z)
    | (wp_walk; exact z)
theorem callX (X : BaseX B newId initId tail) (hm : refsT tail bm = true) {rest : List Value} {fI : Addr}
    (hC : h.get? C = some (excClassObj nm q C N bs bm hdct sn sub ab col dd k0 k1 k2 k3 k5 newId))
    (hi : W.Looks (model prog w) h (typeLookup (.ref C) "__init__") (some (.ref fI))) (hb : ∀ self, W.Looks (model prog w) h (bindSpecial (.ref fI) self) (.ref fI, [self])) (hrest : rest.length ≤ sizeLine)
    (hq : codeAny (model prog w) (A.under (.builtin "type.__call__" ⟨.ref C :: rest, []⟩)) (.call (.ref fI) ⟨.ref (h.objs.size + 1) :: rest, []⟩) (W.InitBack (h.objs.size + 1) R)
      ⟨(h.push (W.kdv_tup rest)).push (excO C h.objs.size), g, d, t, os⟩) :
    codeAny (model prog w) A (.call (.ref C) ⟨rest, []⟩) R ⟨h, g, d, t, os⟩ := by
  have f1 := tc_lookup
  have f2 := tc_bind (.ref C)
  have hTy : (⟨h, g, d, t, os⟩ : Shared).TypeIs (.ref C) "type" := ⟨_, hC, rfl⟩
  refine codeAny_of_tree ?_
  show wpAny _ _ (callAny (.ref C) _) _ _ _
  repeat (any_goals (first | assumption | with_reducible refine wpAny_loadPart_at hC ?_ | wp_step))
  refine ⟨rfl, ?_⟩
  refine codeAny_call_builtin_at (Code.quiet_builtin _ (by decide +kernel)) entry_typeCall (wpAny_check_type_call_sub hC (type_callX X hm hC hi hb hrest ?_))
  refine codeAny_mono hq fun r s' z => ?_
  rcases r with e | (v | _ | _ | _) <;> exact z
theorem init_baseX (X : BaseX B newId initId tail) {tail' : List Value} {newId' : String} (hm : refsT tail' bm = true) (hB : tail'.contains (.type B) = true) {e t0 : Addr} {rest : List Value}
    (hC : h.get? C = some (excClassObj nm q C N bs bm hdct sn sub ab col dd k0 k1 k2 k3 k5 newId')) (he : h.get? e = some (excO C t0)) (hrest : rest.length ≤ sizeLine)
    (hq : ∀ h' t1, (∀ b o, b ≠ e → h.get? b = some o → h'.get? b = some o) → h'.get? e = some (excO C t1) → R (.ok (.ret .none)) ⟨h', g, d, t, os⟩) :
    codeAny (model prog w) A (.call (.builtin initId) ⟨.ref e :: rest, []⟩) R ⟨h, g, d, t, os⟩ := by
  refine codeAny_call_builtin X.I.init.plain X.I.initEntry (check_initX X.I (by rw [refsT_contains _ _ hm, hB]) hC he rfl ?_)
  wp_walk
  refine hq _ h.objs.size (fun b o hb ho => ?_) ?_
  · rw [Heap.get?_update_other _ _ (Ne.symm hb)]
    exact Heap.get?_push_of_some _ ho
  · rw [Heap.get?_update_self _ (Heap.get?_push_of_some _ he) rfl]
    rfl
end
end OM

namespace OM
open PySem PySem.HandSPX Builtin Builtin.ObjectAttr
section
variable {prog : Program} {w : World} {A : Around} {E : Value → Shared → Prop} {R : Result → Shared → Prop} {hp : Heap} {g : Array GenState} {d : Drawn} {t : Nat} {os : OsState}
variable {B newId initId : String} {tail : List Value}
theorem osaX (Y : BaseX B newId initId tail) {K : W.Frag} {name : Str} {tk : Tok} {v : Value} {x C : Addr} {fv : Array Value} {cd : ClassData}
    (X : K.In hp) (hx : hp.get? x = some { cls := .ref C, data := .fields fv }) (hcd : W.clsIn K C = some cd) (hm : refsT tail cd.mro = true) (hh : cd.hasDict = true) (ha : W.findIn K (.ref C) name = some none)
    (hq : ∀ h' tk' dx, (∀ b o, b ≠ x → hp.get? b = some o → h'.get? b = some o) → hp.objs.size ≤ dx → dx ≠ x → h'.get? x = some { cls := .ref C, dict := some dx, data := .fields fv } →
      h'.Ns1 dx (fun y => if y = name then some v else none) → R (.ok (.ret .none)) ⟨h', g, d, tk', os⟩) :
    codeAny (model prog w) A (.call (.builtin "object.__setattr__") ⟨[.ref x, .str name tk, v], []⟩) R ⟨hp, g, d, t, os⟩ := by
  have I : W.InstAt hp x { cls := .ref C, data := .fields fv } C none := ⟨hx, rfl, rfl, trivial⟩
  have SF := F.store_object
  have ne := refsT_ne Y.ne hm
  have hob : cd.mro.contains (.type "object") = true := (refsT_contains "object" _ hm).trans Y.obj
  have hxs : x ≠ hp.objs.size := Nat.ne_of_lt (Heap.lt_size hx)
  have sub : W.Looks (model prog w) hp (isInstance (.ref x) (.type "object")) true := I.type.andThen (W.looks_mroIn X (by unfold W.mroIn; rw [hcd, Option.bind_some, if_neg (by rw [ne]; decide), hob]))
  refine codeAny_call_builtin SF.slot.plain SF.entry (@W.check_slot (model prog w) _ _ ⟨hp, g, d, t, os⟩ "object.__setattr__" "object" "__setattr__" (.ref x) [.str name tk, v] [] _ SF.kind SF.split sub (SF.args (.ref x) (.str name tk) v) ?_)
  have hmr : W.Looks (model prog w) hp (mroOf (.ref C)) cd.mro := (W.looks_clsIn X hcd).andThen .now
  have L3 : W.Looks (model prog w) hp (storeTaker? none) none := .now
  have hcls : W.Looks (model prog w) hp (classData C) cd := W.looks_clsIn X hcd
  rw [W.osa_eq, refuse_eq]
  refine wpAny_bind (wpAny_bind (I.type.at (wpAny_bind (hmr.at ?_))))
  rw [refsT_pass (Y.pass _) _ hm]
  refine wpAny_pure (wpAny_bind (I.type.at (wpAny_bind ((W.looks_findIn X ha).at (wpAny_bind (L3.at ?_))))))
  show wpAny _ _ (storeInOwnDict (.ref x) (.ref C) (.str name tk) name v false) _ _ _
  obtain ⟨nm, bs, mro, ns, qn, hd, sn, sb, ab, col, del⟩ := cd
  dsimp only at hh
  subst hh
  unfold storeInOwnDict ownDictForStores
  repeat (first | with_reducible refine store_in_new ?_ ?_ | with_reducible refine wpAny_loadPart_at hx ?_ | with_reducible refine hcls.at ?_ | wp_step)
  · exact ⟨_, #[], _, (Heap.get?_update_ne _ _ _ _ hxs.symm).trans (Heap.get?_push_at rfl rfl), rfl, fun e he => absurd he (by simp), fun _ => rfl⟩
  · intro h' tk' hn' hs
    have hx₁ : (hp.push { cls := .type "dict", data := .dict #[] }).get? x = some { cls := .ref C, data := .fields fv } := Heap.get?_push_of_some _ hx
    refine hq h' tk' hp.objs.size (fun b o hb ho => ?_) (Nat.le_refl _) hxs.symm ?_ hn'
    · exact (hs.2 b (Nat.ne_of_lt (Heap.lt_size ho))).trans ((Heap.get?_update_ne _ _ _ _ hb).trans (Heap.get?_push_of_some _ ho))
    · exact (hs.2 x hxs).trans (Heap.get?_update_self _ hx₁ rfl)
theorem osaX_old (Y : BaseX B newId initId tail) {K : W.Frag} {name : Str} {tk : Tok} {v : Value} {x C dx : Addr} {fv : Array Value} {cd : ClassData} {m0 : Str → Option Value} {nl : List Str}
    (X : K.In hp) (hx : hp.get? x = some { cls := .ref C, dict := some dx, data := .fields fv }) (hns : hp.Ns1 dx m0) (hw : Within m0 nl) (hz : nl.length ≤ 1000) (hcd : W.clsIn K C = some cd) (hm : refsT tail cd.mro = true) (hh : cd.hasDict = true)
    (ha : W.findIn K (.ref C) name = some none)
    (hq : ∀ h' tk', (∀ b o, b ≠ dx → hp.get? b = some o → h'.get? b = some o) → h'.Ns1 dx (fun y => if y = name then some v else m0 y) → R (.ok (.ret .none)) ⟨h', g, d, tk', os⟩) :
    codeAny (model prog w) A (.call (.builtin "object.__setattr__") ⟨[.ref x, .str name tk, v], []⟩) R ⟨hp, g, d, t, os⟩ := by
  obtain ⟨oD, esD, epD, hoD, hdD, _⟩ := hns.count hw
  have I : W.InstAt hp x { cls := .ref C, dict := some dx, data := .fields fv } C (some oD) := ⟨hx, rfl, rfl, hoD⟩
  have SF := F.store_object
  have ne := refsT_ne Y.ne hm
  have hob : cd.mro.contains (.type "object") = true := (refsT_contains "object" _ hm).trans Y.obj
  have sub : W.Looks (model prog w) hp (isInstance (.ref x) (.type "object")) true := I.type.andThen (W.looks_mroIn X (by unfold W.mroIn; rw [hcd, Option.bind_some, if_neg (by rw [ne]; decide), hob]))
  refine codeAny_call_builtin SF.slot.plain SF.entry (@W.check_slot (model prog w) _ _ ⟨hp, g, d, t, os⟩ "object.__setattr__" "object" "__setattr__" (.ref x) [.str name tk, v] [] _ SF.kind SF.split sub (SF.args (.ref x) (.str name tk) v) ?_)
  have hmr : W.Looks (model prog w) hp (mroOf (.ref C)) cd.mro := (W.looks_clsIn X hcd).andThen .now
  have L3 : W.Looks (model prog w) hp (storeTaker? none) none := .now
  have hcls : W.Looks (model prog w) hp (classData C) cd := W.looks_clsIn X hcd
  rw [W.osa_eq, refuse_eq]
  refine wpAny_bind (wpAny_bind (I.type.at (wpAny_bind (hmr.at ?_))))
  rw [refsT_pass (Y.pass _) _ hm]
  refine wpAny_pure (wpAny_bind (I.type.at (wpAny_bind ((W.looks_findIn X ha).at (wpAny_bind (L3.at ?_))))))
  show wpAny _ _ (storeInOwnDict (.ref x) (.ref C) (.str name tk) name v false) _ _ _
  obtain ⟨nm, bs, mro, ns, qn, hd, sn, sb, ab, col, del⟩ := cd
  dsimp only at hh
  subst hh
  unfold storeInOwnDict ownDictForStores
  repeat (first | with_reducible refine PySem.OEX.store_in_old hns hw hz ?_ | with_reducible refine wpAny_loadPart_at hx ?_ | with_reducible refine hcls.at ?_ | wp_step)
  intro h' tk' hn' hs
  exact hq h' tk' (fun b o hb ho => (hs.2 b hb).trans ho) hn'
end
end OM

namespace PySem.W
open PySem PySem.Calls PyProof.Rows
/-- a function read off its class: itself -/
theorem om_fn_get_none {prog : Program} {w : World} {A : Around} {R : Result → Shared → Prop} {s : Shared} {K : Frag} {p C : Addr} (X : K.In s.heap) (hp : typeIn K (.ref p) = some (.type "function"))
    (h : R (.ok (.ret (.ref p))) s) : codeAny (model prog w) A (.call (.builtin "function.__get__") ⟨[.ref p, .none, .ref C], []⟩) R s := by
  obtain ⟨o, ho, hc⟩ := Option.map_eq_some_iff.mp hp
  obtain ⟨hh, g, dr, t, os⟩ := s
  refine codeAny_call_builtin KF.slot_fn.plain KF.entry_fn (KF.slot_fn.check _ _ _ _ _ _ _ _ ⟨_, X _ _ ho, hc⟩ (KF.args_fn _ _ _) ?_)
  unfold Builtin.«function.__get__»
  refine wpAny_bind (wpAny_of_eq (a := ((.ref p : Value), (none : Option Value), some (.ref C : Value))) (by first | rfl | kernel_rfl) ?_)
  exact wpAny_pure h
end PySem.W

namespace OM
open PySem PySem.Spec PyProof.Rows L2
/-- what the written part says of an own exception class -/
structure OexB (K : PySem.W.Frag) (C : Addr) (tail : List Value) : Prop where
  cls : ∃ B newId initId nm q N bs bm sn sub ab col dd k0 k1 k2 k3 k5, BaseX B newId initId tail ∧ K.lookup C = some (excClassObj nm q C N bs bm true sn sub ab col dd k0 k1 k2 k3 k5 newId) ∧ refsT tail bm = true
  sa : PySem.W.findIn K (.ref C) "__setattr__" = some (some (.builtin "object.__setattr__"))
  exC : PySem.W.subIn K (.ref C) (.type "BaseException") = some true
  tyC : PySem.W.typeIn K (.ref C) = some (.type "type")
  kC : PySem.W.keepIn K (.ref C) = true
section
variable {X : Cx} {pins : List (Addr × Obj)} {σ : L2.St} {H : Hp} {s : Shared} {a C dx : Addr} {f : Str} {y : V} {u : Value} {fs : List (Str × V)} {Q : Unit → Shared → Prop} {E : Value → Shared → Prop} {A : Around} {tail : List Value}
theorem ostB_new (T : OexB X.K C tail) (I : Inv X pins σ H s) (e : H a = some (exo a C none)) (hno : PySem.W.findIn X.K (.ref C) f = some none) (ry : RelV y u)
    (h : ∀ dx s', H dx = none → dx ≠ a → Inv X pins σ (upd (upd H dx (exd dx [(f, y)])) a (exo a C (some dx))) s' → Q () s') : wpAny (model X.prog X.w) A (setAttr (.ref a) f u) Q E s := by
  obtain ⟨B, newId, initId, nm, q, N, bs, bm, sn, sub, ab, col, dd, k0, k1, k2, k3, k5, Y, hC, hbm⟩ := T.cls
  have hcl : PySem.W.clsIn X.K C = some { name := nm, bases := bs, mro := .ref C :: bm, ns := N, qualname := q, hasDict := true, slotNames := sn, subclasses := sub, abstract := ab, collection := col, hasDel := false } := by unfold PySem.W.clsIn; rw [hC] <;> rfl
  obtain ⟨t1, ho⟩ := exo_at I.hok e
  obtain ⟨hp, g, d, t, os⟩ := s
  refine PySem.W.set_plain I.kIn (ox := { cls := .ref C, dict := none, data := .fields #[.ref t1, .none, .none, .none, .bool false, .none] }) (od := none) ⟨ho, rfl, rfl, trivial⟩ T.sa ?_
  refine osaX Y I.kIn ho hcl (show refsT tail (.ref C :: bm) = true from hbm) rfl hno (fun h' tk' dx k dn dne hx hn => ?_)
  have hnd : H dx = none := I.hok.fresh dn
  have nd : ∀ {b : Addr} {o : Obj}, hp.get? b = some o → b ≠ dx := fun {b o} q => Nat.ne_of_lt (Nat.lt_of_lt_of_le (Heap.lt_size q) dn)
  have na : ∀ {b : Addr}, H b = none → b ≠ a := fun {b} n z => by
    rw [z, e] at n
    cases n
  have Un1 : Un X.fs [] H (upd (upd H dx (exd dx [(f, y)])) a (exo a C (some dx))) hp h' := {
    keep := fun b o q n _ _ => k b o (na n) q
    slot := fun b o q n _ _ => ⟨o.slots, k b o (na n) q⟩
    free := fun b o q n _ => by rw [upd_ne (na n), upd_ne (nd q)]; exact n
    there := fun b o q _ => by
      by_cases hb : b = a
      · exact ⟨_, by rw [hb]; exact hx⟩
      · exact ⟨o, k b o hb q⟩
    tups := fun b xs q => by rw [upd_ne (at_ne e q exo_tup), upd_ne (ne_of_none q hnd)]; exact q
    frzs := fun b o v q => by rw [upd_ne (at_ne e q exo_frz), upd_ne (ne_of_none q hnd)]; exact q
    tbls := fun b ps q => ⟨#[], by rw [upd_ne (at_ne e q exo_tbl), upd_ne (ne_of_none q hnd), q]; simp⟩ }
  refine h dx _ hnd dne (I.un (t' := tk') Un1 fun b o q => ?_)
  by_cases hb : b = a
  · subst hb
    rw [upd_same] at q
    cases q
    exact exo_ok hx
  · rw [upd_ne hb] at q
    by_cases hd : b = dx
    · subst hd
      rw [upd_same] at q
      cases q
      exact exd_ok hn (relO_put (fs := []) ry fun g => True.intro)
    · rw [upd_ne hd] at q
      exact (I.hok b o q).stay (fun c v hc z => k c v (by
          rcases hc with hc | hc
          · rw [hc]
            exact hb
          · exact at_ne e hc exo_own) z)
        (fun c hc => by rw [upd_ne (at_ne e hc exo_own), upd_ne (ne_of_none hc hnd)]; exact hc) (fun c xs hc => by rw [upd_ne (at_ne e hc exo_tup), upd_ne (ne_of_none hc hnd)]; exact hc)
theorem ostB_old (T : OexB X.K C tail) (I : Inv X pins σ H s) (e : H a = some (exo a C (some dx))) (ed : H dx = some (exd dx fs)) (hl : fs.length ≤ 900) (hno : PySem.W.findIn X.K (.ref C) f = some none) (ry : RelV y u)
    (h : ∀ s', Inv X pins σ (upd H dx (exd dx ((f, y) :: fs))) s' → Q () s') : wpAny (model X.prog X.w) A (setAttr (.ref a) f u) Q E s := by
  obtain ⟨B, newId, initId, nm, q, N, bs, bm, sn, sub, ab, col, dd, k0, k1, k2, k3, k5, Y, hC, hbm⟩ := T.cls
  have hcl : PySem.W.clsIn X.K C = some { name := nm, bases := bs, mro := .ref C :: bm, ns := N, qualname := q, hasDict := true, slotNames := sn, subclasses := sub, abstract := ab, collection := col, hasDel := false } := by unfold PySem.W.clsIn; rw [hC] <;> rfl
  obtain ⟨t1, ho⟩ := exo_at I.hok e
  obtain ⟨mA, hns, rel⟩ := exd_at I.hok ed
  have hw := within_of rel
  obtain ⟨hp, g, d, t, os⟩ := s
  obtain ⟨oD, _, _, hoD, _, _⟩ := hns.count hw
  refine PySem.W.set_plain I.kIn (ox := { cls := .ref C, dict := some dx, data := .fields #[.ref t1, .none, .none, .none, .bool false, .none] }) (od := some oD) ⟨ho, rfl, rfl, hoD⟩ T.sa ?_
  refine osaX_old Y I.kIn ho hns hw (by rw [List.length_map]; omega) hcl (show refsT tail (.ref C :: bm) = true from hbm) rfl hno (fun h' tk' k hn => ?_)
  have hd : ∃ o, h'.get? dx = some o := by
    obtain ⟨o, _, _, e', _⟩ := hn
    exact ⟨o, e'⟩
  exact h _ (I.write (t' := tk') (x := dx) (e := dx) (o := exd dx ((f, y) :: fs)) (by rw [ed]; exact True.intro) (.inl rfl) k hd (exd_ok hn (relO_put ry rel)))
/-- B.__init__(self, ..): nothing of it is told -/
theorem binit_ok {B nI initId : String} {tB : List Value} {us : List Value} {Q : Value → Shared → Prop} (Y : BaseX B nI initId tB) (T : OexB X.K C tail) (hB : tail.contains (.type B) = true) (I : Inv X pins σ H s) (e : H a = some (exo a C none)) (hl : us.length ≤ sizeLine)
    (h : ∀ s', Inv X pins σ H s' → Q .none s') : wpAny (model X.prog X.w) A (call (.builtin initId) (.ref a :: us)) Q E s := by
  obtain ⟨B', newId, initId', nm, q, N, bs, bm, sn, sub, ab, col, dd, k0, k1, k2, k3, k5, Y', hC, hbm⟩ := T.cls
  obtain ⟨t1, ho⟩ := exo_at I.hok e
  obtain ⟨hp, g, d, t, os⟩ := s
  refine wpAny_call (init_baseX Y hbm hB (I.kIn _ _ hC) ho hl fun h' t2 k hx => ?_)
  have J := I.write (t' := t) (x := a) (e := a) (o := exo a C none) (by rw [e]; exact True.intro) (.inl rfl) k ⟨_, hx⟩ (exo_ok hx)
  have eu : upd H a (exo a C none) = H := by
    funext b
    by_cases hb : b = a
    · rw [hb, upd_same, e]
    · rw [upd_ne hb]
  rw [eu] at J
  exact h _ J
end
/-- B.__init__(self, ..) -/
def tBin (K : PySem.W.Frag) (B : String) (ta : TA) : TE := fun σ H Q => ta σ H fun vs H1 => ∃ (a C : Addr) (tail : List Value) (ws : List V), vs = .ref a :: ws ∧ ws.length ≤ 1000 ∧ OexB K C tail ∧ tail.contains (.type B) = true ∧ H1 a = some (exo a C none) ∧ Q .non H1
/-- self.f = e -/
def tOsB (K : PySem.W.Frag) (f : Str) (to te : TE) : TS := fun D σ H => te σ H fun y H1 => to σ H1 fun x H2 => ∃ (a C : Addr) (tail : List Value), x = .ref a ∧ OexB K C tail ∧ PySem.W.findIn K (.ref C) f = some none ∧
  ((H2 a = some (exo a C none) ∧ ∀ dx, H2 dx = none → dx ≠ a → D.nx σ (upd (upd H2 dx (exd dx [(f, y)])) a (exo a C (some dx)))) ∨
    ∃ (dx : Addr) (fs : List (Str × V)), H2 a = some (exo a C (some dx)) ∧ H2 dx = some (exd dx fs) ∧ fs.length ≤ 900 ∧ D.nx σ (upd H2 dx (exd dx ((f, y) :: fs))))
/-- C.m(e, ..): a function of the class at C, called unbound -/
structure UMeth (K : PySem.W.Frag) (C : Addr) (m : Str) (f : Addr) : Prop where
  ga : PySem.W.specialIn K (.ref C) "__getattribute__" = some (some (.builtin "type.__getattribute__"))
  rd : PySem.W.readsIn K C (.type "type") = true
  at_ : PySem.W.findCls K (.ref C) (.type "type") m = some (.val (.ref f))
  ty : PySem.W.typeIn K (.ref f) = some (.type "function")
  kp : PySem.W.keepIn K (.ref f) = true
section
variable {X : Cx} {o e : Expr} {es : List Expr} {to te : TE} {ta : TA} {f : Str} {p p' p1 p2 pos apos : Pos} {x : Str}
theorem pe_binit {B nI initId : String} {tB : List Value} {pl : Sem Bool} (Y : BaseX B nI initId tB) (hg : Gl X x) (hm : X.mg x = none) (hv : bootBuiltins x = some (.type B)) (vV : PySem.W.findCls X.K (.type B) (.type "type") "__init__" = some (.val (.builtin initId))) (hi : PySem.W.handedIn (.builtin initId) = true) (ha : PA X (e :: es) ta)
    (hn : x ≠ "__name__" := by decide) (hd : (x == ("__debug__" : Str)) = false := by decide)
    (hc : eval (.Call (.Attribute (.Name x p1) "__init__" p2) (e :: es) [] pos) X.env = (do
      let ov ← eval (.Name x p1) X.env
      standAt p2.atName
      let (f, first) ← holding [ov] (getMethod ov "__init__" pl)
      callWith pos f first (backTo pos (starEach (e :: es) X.env)) (backToKw pos (keywordEach [] X.env))) := by rfl)
    (he : starEach (e :: es) X.env = (false, eval e X.env) :: starEach es X.env := by rfl) (hpl : (backTo pos (starEach es X.env)).any (·.1) = false := by rfl) :
    PE X (.Call (.Attribute (.Name x p1) "__init__" p2) (e :: es) [] pos) (tBin X.K B ta) := by
  refine ⟨fun pins s σ H Q I h => ?_⟩
  refine PySem.W.methodCall_KW (ld_blt I hg hm hv ?_ hn hd) hc
  obtain ⟨m, fr⟩ := I.fr
  refine PySem.W.method_type fr I.ok.mod.kin Y.ty Y.stub vV hi ?_
  show wpAny _ _ (callWith pos (Value.builtin initId) [] (backTo pos (starEach (e :: es) X.env)) []) _ _ _
  refine PyProof.Rows.callWith_method1 (thn (ha.run pos pins _ σ H _ (I.tok _) h) fun us s1 ⟨vs, H1, I1, r1, a, C, tail, ws, ev, hl, T, hB, ea, q⟩ => ?_) he hpl
  subst ev
  cases r1 with
  | @cons _ u0 _ ur ra rw' =>
    obtain rfl : u0 = Value.ref a := ra
    have hlen : ur.length ≤ sizeLine := by
      rw [← Paired.length rw', sizeLine_eq]
      omega
    exact binit_ok Y T hB I1 ea hlen fun s' J => ⟨.non, H1, J, rfl, q⟩
theorem ps_ostB (ho : PE X o to) (he : PE X e te) (hs : swapsWith e (some (.Attribute o f p')) pos.line X.env = pure false := by rfl) : PS X (.Assign [.Attribute o f p'] e pos) (tOsB X.K f to te) := by
  refine ⟨fun pins s σ H D I h => ?_⟩
  refine plainObj_wpAny_Assign_Attribute (thn (he.run pins s σ H _ I h) fun v s1 ⟨y, H1, I1, r1, q1⟩ => thn (ho.run pins s1 σ H1 _ I1 q1) fun u s2 ⟨x, H2, I2, r2, a, C, tail, ex, T, hno, q⟩ => ?_) hs
  subst ex
  obtain rfl : u = Value.ref a := r2
  rcases q with ⟨ea, q⟩ | ⟨dx, fs, ea, ed, hl, q⟩
  · exact ostB_new T I2 ea hno r1 fun dx s' n ne J => ⟨σ, _, J, q dx n ne⟩
  · exact ostB_old T I2 ea ed hl hno r1 fun s' J => ⟨σ, _, J, q⟩
def tUMe (C : Addr) (sp : Sp) (E : XK) (to : TE) (t : TA) : TE := fun σ H Q => to σ H fun x H1 => x = .ref C ∧ t σ H1 fun vs H2 => sp vs H2 Q E
theorem pe_umeth {CX : CXT} {k : Nat} {C fn : Addr} {m : Str} {fd : FuncData} {ps : List Str} {sp : Sp} {E : XK} {pl : Sem Bool} (ho : PE X o to) (U : UMeth X.K C m fn) (F : FnOk X.prog X.w X.K X.mg X.base CX k fn fd ps sp) (hr : Room k X.A) (hb : Binds X.K fd ps []) (hx : Passes CX X E) (ha : PA X (e :: es) ta)
    (hst : starEach (e :: es) X.env = (false, eval e X.env) :: starEach es X.env := by rfl) (hpl : (backTo pos (starEach es X.env)).any (·.1) = false := by rfl)
    (ht : eval (.Call (.Attribute o m apos) (e :: es) [] pos) X.env = (do
      let ov ← eval o X.env
      standAt apos.atName
      let (f, first) ← holding [ov] (getMethod ov m pl)
      callWith pos f first (backTo pos (starEach (e :: es) X.env)) (backToKw pos (keywordEach [] X.env))) := by rfl) :
    PE X (.Call (.Attribute o m apos) (e :: es) [] pos) (tUMe C sp E to ta) := by
  refine ⟨fun pins s σ H Q I h => ?_⟩
  refine PySem.W.methodCall_KW (pl := pl) (thn (ho.run pins s σ H _ I h) fun u s1 ⟨x, H1, I1, rx, ex, q⟩ => ?_) ht
  subst ex
  obtain rfl : u = Value.ref C := rx
  refine PySem.W.method_cls I1.kIn U.ga (PySem.W.cls_value I1.kIn U.rd U.at_ rfl ?_)
  have I2 : Inv X pins σ H1 { s1 with toks := s1.toks + 1 } := I1.tok _
  refine PySem.W.callWith_K (first := []) (h₀ := X.base) I.ok.mod.kin U.kp (thn (ha.run pos pins _ σ H1 _ I2 q) fun us s3 ⟨vs, H2, I3, rv, q2⟩ => ⟨I3.kIn, ?_⟩) hst hpl
  have q3 : sp (vs ++ []) H2 Q E := by rw [List.append_nil]; exact q2
  exact run_fn F hr hb (dvs := []) (ds := []) .nil hx I3 rv q3
end
end OM

namespace PySem.W
open PySem PySem.Spec PySem.Calls PyProof.Rows
theorem om_forIn_pass {M : Model} {A : Around} {β : Type} {f : Value → β → Sem (ForInStep β)} {b : β} {E : Value → Shared → Prop} {s : Shared} : ∀ {l : List Value} {Q : β → Shared → Prop},
    (∀ c ∈ l, ∀ (Q : ForInStep β → Shared → Prop), Q (.yield b) s → wpAny M A (f c b) Q E s) → Q b s → wpAny M A (forIn l b f) Q E s
  | [], Q, _, q => by
    rw [List.forIn_nil]
    exact wpAny_pure q
  | c :: l, Q, h, q => by
    rw [List.forIn_cons]
    refine wpAny_bind (h c List.mem_cons_self _ ?_)
    exact om_forIn_pass (fun c hc => h c (List.mem_cons_of_mem _ hc)) q
theorem om_forIn_any {M : Model} {A : Around} {β : Type} {f : Value → β → Sem (ForInStep β)} {b x : β} {E : Value → Shared → Prop} {s : Shared} (g : Value → Bool) : ∀ {l : List Value} {Q : β → Shared → Prop},
    (∀ c ∈ l, ∀ (Q : ForInStep β → Shared → Prop), Q (if g c = true then .done x else .yield b) s → wpAny M A (f c b) Q E s) → Q (if l.any g = true then x else b) s → wpAny M A (forIn l b f) Q E s
  | [], Q, _, q => by
    rw [List.forIn_nil]
    exact wpAny_pure q
  | c :: l, Q, h, q => by
    rw [List.forIn_cons]
    refine wpAny_bind (h c List.mem_cons_self _ ?_)
    rw [List.any_cons] at q
    cases e : g c with
    | true =>
      rw [e, Bool.true_or, if_pos rfl] at q
      rw [if_pos rfl]
      exact wpAny_pure q
    | false =>
      rw [e, Bool.false_or] at q
      rw [if_neg Bool.false_ne_true]
      exact om_forIn_any g (fun c hc => h c (List.mem_cons_of_mem _ hc)) q
theorem om_exmAny_all {K : Frag} {cls : Value} : ∀ {l : List Value} {b : Bool}, exmAny K cls l = some b → (∀ c ∈ l, exmOne K cls c = some (exmOne K cls c == some true)) ∧ b = l.any fun c => exmOne K cls c == some true
  | [], b, h => by
    have e : some false = some b := h
    cases e
    exact ⟨fun c hc => (nomatch hc), rfl⟩
  | c :: l, b, h => by
    obtain ⟨b1, d1, h1, h2, rfl⟩ := exmAny_cons h
    obtain ⟨i1, i2⟩ := om_exmAny_all h2
    refine ⟨fun x hx => ?_, ?_⟩
    · rcases List.mem_cons.mp hx with rfl | hx
      · rw [h1]
        cases b1 <;> rfl
      · exact i1 x hx
    · rw [List.any_cons, h1, ← i2]
      cases b1 <;> rfl
theorem om_exm_tup {M : Model} {K : Frag} {cs : List Value} {cls : Value} {tp e : Addr} {b : Bool} {h : Heap} {ot : Obj} {nt : Nat} (X : K.In h) (LT : Looks M h (typeOf (.ref e)) cls) (hp : h.get? tp = some ot) (hoc : ot.cls = .type "tuple") (hod : ot.data = .seq cs.toArray nt) (hx : exmAny K cls cs = some b) :
    Looks M h (excMatches (.ref e) (.ref tp)) b := by
  intro A Q E s k₀ q
  obtain ⟨hh, g, d, tk, os⟩ := s
  have k : ∀ b o, h.get? b = some o → hh.get? b = some o := k₀
  obtain ⟨oc, odd, odt, osl⟩ := ot
  dsimp only at hoc hod
  subst hoc hod
  have LT0 : Looks M h (isInstance (.ref tp) (.type "tuple")) true := ((Looks.ld hp).andThen .now).andThen (Looks.of_pure isSubtype_tuple_tuple)
  obtain ⟨hall, hb⟩ := om_exmAny_all hx
  have LT := LT.keeps k
  have LT0 := LT0.keeps k
  have hp' := k _ _ hp
  unfold excMatches
  refine wpAny_bind (LT0.at ?_)
  dsimp only
  rw [if_pos rfl]
  first
    | refine wpAny_bind (wpAny_seqItems hp' rfl ?_)
    | refine wpAny_bind (wpAny_bind (wpAny_seqItems hp' rfl (wpAny_pure ?_)))
  dsimp only [Option.getD_some, Option.getD]
  refine wpAny_bind (wpAny_pure ?_)
  refine wpAny_bind (om_forIn_pass (fun c hc Q q => ?_) ?_)
  · refine wpAny_bind (((exm_cls (M := M) X (hall c hc)).1.keeps k).at ?_)
    simp only [Bool.not_true, Bool.false_eq_true, if_false]
    exact wpAny_pure q
  · refine wpAny_bind (LT.at ?_)
    refine wpAny_bind (om_forIn_any (fun c => exmOne K cls c == some true) (x := (some true, ())) (fun c hc Q q => ?_) ?_)
    · refine wpAny_bind (((exm_cls (M := M) X (hall c hc)).2.keeps k).at ?_)
      cases e : (exmOne K cls c == some true) with
      | true =>
        rw [e, if_pos rfl] at q
        rw [if_pos rfl]
        exact wpAny_pure q
      | false =>
        rw [e, if_neg Bool.false_ne_true] at q
        rw [if_neg Bool.false_ne_true]
        exact wpAny_pure q
    · rw [← hb]
      cases b with
      | true =>
        rw [if_pos rfl]
        exact wpAny_pure q
      | false =>
        rw [if_neg Bool.false_ne_true]
        exact wpAny_pure q
end PySem.W

namespace PySem.W
open PySem PySem.Spec PySem.Calls PyProof.Rows
section
variable {prog : Program} {w : World} {A : Around} {E : Value → Shared → Prop} {s : Shared} {K : Frag} {x D : Addr} {ox : Obj}
theorem om_findObj_data {C : Addr} {od : Option Obj} {name : Str} {a g : Value} (hc : (clsIn K C).isSome = true) (ha : findIn K (.ref C) name = some (some a)) (hg : specialIn K a "__get__" = some (some g)) (ht : takesIn K a = some true) : findObj K C od name = some (.bind g a) := by
  obtain ⟨cd, hc⟩ := Option.isSome_iff_exists.mp hc
  unfold findObj
  rw [hc, Option.bind_some, ha, Option.bind_some]
  simp [hg, ht]
theorem om_classE {od : Option Obj} {Q : Option Value → Shared → Prop} (hga : findIn K (.ref D) "__getattribute__" = some (some (.builtin "BaseException.__getattribute__"))) (hgt : findIn K (.ref D) "__getattr__" = some none) (hsub : subIn K (.ref D) (.type "BaseException") = some true)
    (hdct : hasDictIn K D = true) (ha : findIn K (.ref D) "__class__" = some (some (.builtin "object.__class__")))
    (hn : specialIn K (.builtin "object.__class__") "__get__" = some (some (.builtin "getset_descriptor.__get__"))) (htk : takesIn K (.builtin "object.__class__") = some true) (hm : mroIn K D (.type "object") = some true)
    (X : K.In s.heap) (I : InstAt s.heap x ox D od) (h : Q (some (.ref D)) { s with toks := s.toks + 1 }) : wpAny (model prog w) A (getAttr? (.ref x) "__class__") Q E s := by
  have hf : findObj K D od "__class__" = some (.bind (.builtin "getset_descriptor.__get__") (.builtin "object.__class__")) := om_findObj_data (by obtain ⟨cd, hc, _⟩ := any_some hdct; rw [hc]; rfl) ha hn htk
  obtain ⟨hp, g, d, t, os⟩ := s
  have L0 := I.type (M := model prog w)
  have L1 := looks_findIn (M := model prog w) X hga
  have L2 := looks_findIn (M := model prog w) X hgt
  have L3 := looks_find (M := model prog w) X I hf
  have sub : Looks (model prog w) hp (isInstance (.ref x) (.type "BaseException")) true := L0.andThen (looks_subIn X hsub)
  have hx0 : (false && onTheHeap (Value.builtin "BaseException.__getattribute__")) = false := rfl
  have hx2 : (Value.builtin "BaseException.__getattribute__" == Value.builtin "object.__getattribute__") = false := by decide +kernel
  have hx1 : (onTheHeap (Value.ref D) && Value.builtin "BaseException.__getattribute__" == Value.builtin "object.__getattribute__") = false := by rw [hx2]; rfl
  unfold getAttr? getAttrBy? getAttrBy
  refine wpAny_bind (wpAny_mkText (wpAny_bind (wpAny_attempt (wpAny_holding (wpAny_bind (L0.at (wpAny_bind (L1.at ?_))))))))
  show wpAny _ _ (if (onTheHeap (Value.ref D) && Value.builtin "BaseException.__getattribute__" == Value.builtin "object.__getattribute__") = true then _ else _) _ _ _
  rw [hx1, if_neg Bool.false_ne_true]
  unfold getAttrByItsOwn hookBefore
  refine wpAny_bind ?_
  rw [if_pos (show onTheHeap (Value.ref D) = true from rfl)]
  refine L2.at ?_
  refine wpAny_bind (wpAny_attempt (wpAny_holding ?_))
  unfold callGetattribute
  rw [hx0, if_neg Bool.false_ne_true]
  unfold boundAndCalled
  rw [PySem.F.excAttr_ValueError.ga.bind (.ref x)]
  refine wpAny_bind (wpAny_pure ?_)
  show wpAny _ _ (call (.builtin "BaseException.__getattribute__") [.ref x, .str "__class__" t]) _ _ _
  refine wpAny_call (codeAny_call_builtin PySem.F.excAttr_ValueError.ga.plain PySem.F.entry_bexc_ga ?_)
  refine @check_slot (model prog w) _ _ ⟨hp, g, d, t + 1, os⟩ "BaseException.__getattribute__" "BaseException" "__getattribute__" (.ref x) [.str "__class__" t] [] _ (by decide +kernel) (by decide +kernel) sub (PySem.F.args_bexc_ga (.ref x) (.str "__class__" t)) ?_
  unfold Builtin.«object.__getattribute__»
  refine wpAny_bind (wpAny_of_eq (a := ((Value.ref x : Value), [Value.str "__class__" t])) (by first | rfl | (simp only [slotArgs]; rfl)) ?_)
  refine wpAny_bind (wpAny_pure (wpAny_bind (L0.at (wpAny_bind (L3.at ?_)))))
  show wpAny _ _ (holding [Value.builtin "object.__class__"] (call (.builtin "getset_descriptor.__get__") [.builtin "object.__class__", .ref x, .ref D]) >>= ret) _ _ _
  refine wpAny_bind (wpAny_holding (wpAny_call (class_get (s := ⟨hp, g, d, t + 1, os⟩) (ox := ox) (od := od) X I hm ?_)))
  refine wpAny_pure ?_
  show wpAny _ _ (handedOut (.ref D)) _ _ _
  rw [handedOut_of (v := .ref D) rfl]
  first
    | exact wpAny_pure (wpAny_pure h)
    | exact wpAny_pure h
    | exact wpAny_pure (wpAny_bind (wpAny_pure (wpAny_pure h)))
theorem om_kitx_exc {od : Option Obj} (hga : findIn K (.ref D) "__getattribute__" = some (some (.builtin "BaseException.__getattribute__"))) (hgt : findIn K (.ref D) "__getattr__" = some none) (hsub : subIn K (.ref D) (.type "BaseException") = some true) (hdct : hasDictIn K D = true) (ha : findIn K (.ref D) "__class__" = some (some (.builtin "object.__class__")))
    (hn : specialIn K (.builtin "object.__class__") "__get__" = some (some (.builtin "getset_descriptor.__get__"))) (htk : takesIn K (.builtin "object.__class__") = some true) (hm : mroIn K D (.type "object") = some true) :
    KitX K (.ref x) (.ref D) (fun h => InstAt h x ox D od) where
  ty := fun _ _ _ I => I.type
  it := fun _ _ X _ => by
    obtain ⟨cdD, hcD, _⟩ := any_some hdct
    unfold clsIn at hcD
    split at hcD
    · rename_i c' d' cd' sl' ho
      intro A' Q' E' s' k q
      unfold isType loadHead
      exact wpAny_bind (wpAny_loadPart (k _ _ (X _ _ ho)) (wpAny_pure q))
    · cases hcD
  ne := fun h tp dd its n sl X htp => by
    obtain ⟨cdD, hcD, _⟩ := any_some hdct
    refine Bool.eq_false_iff.mpr fun q => ?_
    have e : D = tp := Value.ref.inj (beq_iff_eq.mp q)
    subst e
    unfold clsIn at hcD
    split at hcD
    · rename_i c' d' cd' sl' ho
      have z := (X _ _ ho).symm.trans htp
      cases z
    · cases hcD
  ca := fun X I k => om_classE hga hgt hsub hdct ha hn htk hm X I k
end
end PySem.W

namespace OM
open PySem PySem.Spec PyProof.Rows L2
/-- the type of an exception that is tracked, or of None -/
inductive TyE (K : PySem.W.Frag) (H : Hp) : V → Value → Prop where
  | base {x : V} {t : Value} (h : TyX K H x t) : TyE K H x t
  | exc {a C : Addr} : ExcC K C → H a = some (exo a C none) → TyE K H (.ref a) (.ref C)
  | excD {a C dx : Addr} {fs : List (Str × V)} : ExcC K C → H a = some (exo a C (some dx)) → H dx = some (exd dx fs) → TyE K H (.ref a) (.ref C)
def rIsB (K : PySem.W.Frag) : List V → Hp → VK → Prop := fun xs H Q => ∃ (x c : V) (t u : Value) (b : Bool), xs = [x, c] ∧ ClsV c u ∧ TyE K H x t ∧ PySem.W.kitOne K t u = some b ∧ Q (.bl b) H
section
variable {X : Cx}
theorem exo_inst {P : Program} {w : World} {H : Hp} {h : Heap} {a C : Addr} (hok : HOk P w H h) (e : H a = some (exo a C none)) : ∃ ox, PySem.W.InstAt h a ox C none := by
  obtain ⟨t1, ho⟩ := exo_at hok e
  exact ⟨_, ho, rfl, rfl, trivial⟩
theorem exo_instD {P : Program} {w : World} {H : Hp} {h : Heap} {a C dx : Addr} {fs : List (Str × V)} (hok : HOk P w H h) (e : H a = some (exo a C (some dx))) (ed : H dx = some (exd dx fs)) : ∃ ox od, PySem.W.InstAt h a ox C (some od) ∧ ∀ f v, fs.lookup f = some v → ∃ u, RelV v u ∧ PySem.W.lookIn f od = some (some u) := by
  obtain ⟨t1, ho⟩ := exo_at hok e
  obtain ⟨mA, hns, rel⟩ := exd_at hok ed
  obtain ⟨od, hod, hl⟩ := lookIn_ns hns
  refine ⟨_, od, ⟨ho, rfl, rfl, hod⟩, fun f v e => ?_⟩
  obtain ⟨u, hu, ru⟩ := RelO.some_of (v := v) (o := mA f) (by rw [← e]; exact rel f)
  exact ⟨u, ru, by rw [hl, hu]⟩
theorem call_isB : CallR X (.builtin "isinstance") (rIsB X.K) := by
  intro pins s σ H xs us Q I r h
  obtain ⟨x, c, t, u, b, rfl, k, ty, e, q⟩ := h
  obtain ⟨u1, u2, rfl, r1, r2⟩ := vals2 r
  have e2 := k.eq r2
  subst e2
  cases ty with
  | base h0 =>
    obtain ⟨P, Z, p, hx⟩ := kit_of I r1 h0
    exact PySem.W.kia_one Z I.kIn p e hx fun tk => ⟨.bl b, H, I.tok tk, rfl, q⟩
  | @exc a C T ea =>
    obtain rfl : u1 = Value.ref a := r1
    obtain ⟨ox, J⟩ := exo_inst I.hok ea
    exact PySem.W.kia_one (PySem.W.om_kitx_exc T.hg T.hk T.hs T.hd T.ha T.hn T.ht T.hm) I.kIn J e (fun z => nomatch z) fun tk => ⟨.bl b, H, I.tok tk, rfl, q⟩
  | @excD a C dx fs T ea ed =>
    obtain rfl : u1 = Value.ref a := r1
    obtain ⟨ox, od, J, _⟩ := exo_instD I.hok ea ed
    exact PySem.W.kia_one (PySem.W.om_kitx_exc T.hg T.hk T.hs T.hd T.ha T.hn T.ht T.hm) I.kIn J e (fun z => nomatch z) fun tk => ⟨.bl b, H, I.tok tk, rfl, q⟩
/-- e.f, e an exception that is tracked -/
def tXfB (K : PySem.W.Frag) (f : Str) (te : TE) : TE := fun σ H Q => te σ H fun x H1 => ∃ (a C dx : Addr) (fs : List (Str × V)) (v : V), x = .ref a ∧ XfC K C ∧ PySem.W.findIn K (.ref C) f = some none ∧ H1 a = some (exo a C (some dx)) ∧ H1 dx = some (exd dx fs) ∧ fs.lookup f = some v ∧ Q v H1
theorem pe_xfB {e : Expr} {te : TE} {pos : Pos} {n : Str} (he : PE X e te) (hb : attributeBase e n X.env (eval e X.env) = eval e X.env := by rfl) : PE X (.Attribute e n pos) (tXfB X.K n te) := by
  refine ⟨fun pins s σ H Q I h => ?_⟩
  refine attr_of hb (thn (he.run pins s σ H _ I h) fun u s1 hh => ?_)
  obtain ⟨x, H1, I1, rx, a, C, dx, fs, v, ex, T, hno, ea, ed, l, q⟩ := hh
  subst ex
  obtain rfl : u = Value.ref a := rx
  obtain ⟨ox, od, J, hl⟩ := exo_instD I1.hok ea ed
  obtain ⟨u, ru, hu⟩ := hl n v l
  exact HandSPX.exc_get I1.kIn J T.ga T.gg T.exC (PySem.W.findObj_own T.hdC hno rfl hu) (handed_of ru) ⟨v, H1, I1.tok _, ru, q⟩
end

/-! ### making -/
structure MkB (K : PySem.W.Frag) (C fI : Addr) (tail : List Value) : Prop where
  T : OexB K C tail
  iC : PySem.W.findIn K (.ref C) "__init__" = some (some (.ref fI))
  tI : PySem.W.typeIn K (.ref fI) = some (.type "function")
section
variable {X : Cx} {CX : CXT} {k : Nat} {fI C : Addr} {fd : FuncData} {ps : List Str} {sp : Sp} {dvs : List V} {ds : List Value} {x : Str} {p pos : Pos} {e : Expr} {es : List Expr} {ta : TA} {tail : List Value}
theorem run_mkB {pins : List (Addr × Obj)} {σ : L2.St} {H : Hp} {s : Shared} {R : Value → Shared → Prop} {us : List Value} {vs : List V} {RR : Addr → Hp → Prop} (M : MkB X.K C fI tail) (F : FnOk X.prog X.w X.K X.mg X.base CX k fI fd ps sp) (hr : Room (k + 1) X.A) (hb : Binds X.K fd ps ds) (hd : Vals dvs ds)
    (hx : Passes CX X E0) (I : Inv X pins σ H s) (r : Vals vs us) (hz : vs.length ≤ 1000)
    (h : ∀ a, H a = none → sp (.ref a :: (vs ++ dvs)) (upd H a (exo a C none)) (fun v H2 => v = .non ∧ RR a H2) E0)
    (hR : ∀ s2 H2 hp2, s.heap.objs.size ≤ s.heap.objs.size + 1 → (∀ b o, s.heap.get? b = some o → hp2.get? b = some o) → Un (frs X.stack) [] (upd H (s.heap.objs.size + 1) (exo (s.heap.objs.size + 1) C none)) H2 hp2 s2.heap → HOk X.prog X.w H2 s2.heap → s2.os = s.os → AllBare s2.gens →
      Inv X pins σ H2 s2 → RR (s.heap.objs.size + 1) H2 → R (.ref (s.heap.objs.size + 1)) s2) :
    wpAny (model X.prog X.w) X.A (call (.ref C) us) R X.xe s := by
  obtain ⟨B, newId, initId, nm, q, N, bs, bm, sn, sub, ab, col, dd, k0, k1, k2, k3, k5, Y, hC, hbm⟩ := M.T.cls
  obtain ⟨hp, g, dr, tk, os⟩ := s
  have hsz : hp.objs.size ≤ hp.objs.size + 1 := Nat.le_succ _
  have hn : H (hp.objs.size + 1) = none := I.hok.fresh hsz
  have hq := h (hp.objs.size + 1) hn
  have kk : ∀ b o, hp.get? b = some o → ((hp.push (PySem.W.kdv_tup us)).push (PySem.HandSPX.excO C hp.objs.size)).get? b = some o := fun b o e => Heap.get?_push_of_some _ (Heap.get?_push_of_some _ e)
  have hget : ((hp.push (PySem.W.kdv_tup us)).push (PySem.HandSPX.excO C hp.objs.size)).get? (hp.objs.size + 1) = some (PySem.HandSPX.excO C hp.objs.size) := by heap_get
  have I2 : Inv X pins σ (upd H (hp.objs.size + 1) (exo (hp.objs.size + 1) C none)) ⟨(hp.push (PySem.W.kdv_tup us)).push (PySem.HandSPX.excO C hp.objs.size), g, dr, tk, os⟩ :=
    I.laid (t' := tk) (a := hp.objs.size + 1) (o := exo (hp.objs.size + 1) C none) (h' := (hp.push (PySem.W.kdv_tup us)).push (PySem.HandSPX.excO C hp.objs.size)) kk hsz (exo_ok hget)
  have r2 : Vals (V.ref (hp.objs.size + 1) :: (vs ++ dvs)) (Value.ref (hp.objs.size + 1) :: (us ++ ds)) := .cons rfl (r.append hd)
  have hl : (Value.ref (hp.objs.size + 1) :: us ++ ds).length = ps.length := by
    have e := r2.length
    rw [F.len _ _ _ _ hq] at e
    exact e.symm
  have hus : us.length ≤ sizeLine := by
    rw [← Paired.length r, sizeLine_eq]
    omega
  refine wpAny_call (callX Y hbm (I.kIn _ _ hC) (PySem.W.looks_findIn I.kIn M.iC) (fun self => PySem.W.bind_fn I.kIn self M.tI) hus
    (codeAny_mono (F.run _ X.stack _ _ ⟨Value.ref (hp.objs.size + 1) :: us, []⟩ (Value.ref (hp.objs.size + 1) :: (us ++ ds)) _ _ E0 (hr.make C us []) (I2.env0.make C us []) (hb _ (Value.ref (hp.objs.size + 1) :: us) I2.kIn hl) r2 hq) fun r s' hq' => ?_))
  cases r with
  | error er => exact hx pins σ _ _ er s' I2 hq'
  | ok fl =>
    cases fl with
    | ret u =>
      have hq2 := hq'
      obtain ⟨v, H2, os2, bare2, un2, hok2, rv, ev, rr⟩ := hq2
      subst ev
      obtain ⟨_, _, I3, _, _⟩ := I2.after (Q := fun _ _ => True) ⟨.non, H2, os2, bare2, un2, hok2, rv, trivial⟩
      have I3' : Inv X pins σ H2 s' := I2.call' (ch := []) os2 un2 hok2 bare2 (fun b z => absurd z (by simp))
      exact ⟨rv, hR s' H2 _ hsz kk un2 hok2 os2 bare2 I3' rr⟩
    | next => exact False.elim hq'
    | brk => exact False.elim hq'
    | cont => exact False.elim hq'
/-- C(e, ..) as a value: a new exception, tracked -/
def tMkV (C : Addr) (sp : Sp) (dvs : List V) (ta : TA) : TE := fun σ H Q => ta σ H fun vs H1 => vs.length ≤ 1000 ∧ ∀ a, H1 a = none → sp (.ref a :: (vs ++ dvs)) (upd H1 a (exo a C none)) (fun v H2 => v = .non ∧ Q (.ref a) H2) E0
theorem pe_mkV (M : MkB X.K C fI tail) (F : FnOk X.prog X.w X.K X.mg X.base CX k fI fd ps sp) (hr : Room (k + 1) X.A) (hg : Gl X x) (hm : X.mg x = some (.ref C)) (hb : Binds X.K fd ps ds) (hd : Vals dvs ds) (hx : Passes CX X E0)
    (ha : PA X (e :: es) ta) (hdb : (x == ("__debug__" : Str)) = false := by decide) (he : starEach (e :: es) X.env = (false, eval e X.env) :: starEach es X.env := by rfl) (hpl : (backTo pos (starEach es X.env)).any (·.1) = false := by rfl) :
    PE X (.Call (.Name x p) (e :: es) [] pos) (tMkV C sp dvs ta) := by
  refine ⟨fun pins s σ H Q I h => ?_⟩
  refine wpAny_Call_Name_kw (ld_glob I hg hm ?_ hdb)
  refine PySem.W.callWith_K (h₀ := X.base) I.ok.mod.kin M.T.kC (thn (ha.run pos pins s σ H _ I h) fun us s1 ⟨vs, H1, I1, r, hz, q⟩ => ⟨I1.kIn, ?_⟩) he hpl
  exact run_mkB (RR := fun a H2 => Q (.ref a) H2) M F hr hb hd hx I1 r hz q fun s2 H2 hp2 _ _ _ _ _ _ I2 rr => ⟨.ref _, H2, I2, rfl, rr⟩
theorem pe_mkV0 (M : MkB X.K C fI tail) (F : FnOk X.prog X.w X.K X.mg X.base CX k fI fd ps sp) (hr : Room (k + 1) X.A) (hg : Gl X x) (hm : X.mg x = some (.ref C)) (hb : Binds X.K fd ps ds) (hd : Vals dvs ds) (hx : Passes CX X E0)
    (hdb : (x == ("__debug__" : Str)) = false := by decide) : PE X (.Call (.Name x p) [] [] pos) (tMkV C sp dvs tNil) := by
  refine ⟨fun pins s σ H Q I h => ?_⟩
  refine wpAny_Call_Name_kw (ld_glob I hg hm ?_ hdb)
  refine PySem.W.callWith_K0 I.kIn M.T.kC ?_
  obtain ⟨hz, q⟩ := (show ([] : List V).length ≤ 1000 ∧ _ from h)
  exact run_mkB (us := []) (vs := []) (RR := fun a H2 => Q (.ref a) H2) M F hr hb hd hx I .nil hz q fun s2 H2 hp2 _ _ _ _ _ _ I2 rr => ⟨.ref _, H2, I2, rfl, rr⟩
/-- a made exception without a dict is let go -/
theorem mk_endN {pins : List (Addr × Obj)} {σ : L2.St} {H1 H2 : Hp} {hp hp2 h2 : Heap} {g1 g2 : Array GenState} {d1 d2 : Drawn} {t1 t2 : Nat} {os1 os2 : OsState} {a C : Addr} (I1 : Inv X pins σ H1 ⟨hp, g1, d1, t1, os1⟩)
    (ha : hp.objs.size ≤ a) (k : ∀ b o, hp.get? b = some o → hp2.get? b = some o) (un : Un (frs X.stack) [] (upd H1 a (exo a C none)) H2 hp2 h2) (hok : HOk X.prog X.w H2 h2) (ho : os2 = os1) (hb : AllBare g2)
    (ea : H2 a = some (exo a C none)) :
    ∃ (t0 : Addr) (G : Heap), Inv X pins σ (del H2 a) ⟨G, g2, d2, t2, os2⟩ ∧ (∀ b o, G.get? b = some o → h2.get? b = some o) ∧ G.get? a = none ∧
      h2.get? a = some ({ cls := .ref C, dict := none, data := .fields #[.ref t0, .none, .none, .none, .bool false, .none] } : Obj) ∧ (del H2 a) a = none := by
  obtain ⟨t0, hoe⟩ := exo_at hok ea
  have hn : H1 a = none := I1.hok.fresh ha
  obtain ⟨G, g1', g2'⟩ := restrict h2 fun b => decide (b ≠ a)
  have gk : ∀ b, b ≠ a → G.get? b = h2.get? b := fun b hb => g1' b (decide_eq_true hb)
  have ge : G.get? a = none := g2' a (by simp)
  have nha : ∀ {b : Addr} {o : Obj}, hp.get? b = some o → b ≠ a := fun {b o} z => Nat.ne_of_lt (Nat.lt_of_lt_of_le (Heap.lt_size z) ha)
  have up : ∀ {b : Addr}, b ≠ a → H1 b = none → upd H1 a (exo a C none) b = none := fun {b} hb n => by rw [upd_ne hb]; exact n
  have U : Un (frs X.stack) [] H1 (del H2 a) hp G := {
    keep := fun b o z n hf hx => by
      rw [gk b (nha z)]
      exact un.keep b o (k b o z) (up (nha z) n) hf hx
    slot := fun b o z n hf hx => by
      rw [gk b (nha z)]
      exact un.slot b o (k b o z) (up (nha z) n) hf hx
    free := fun b o z n hx => by
      rw [del_ne (nha z)]
      exact un.free b o (k b o z) (up (nha z) n) hx
    there := fun b o z hx => by
      rw [gk b (nha z)]
      exact un.there b o (k b o z) hx
    tups := fun b xs z => by
      rw [del_ne (ne_of_none z hn)]
      exact un.tups b xs (by rw [upd_ne (ne_of_none z hn)]; exact z)
    frzs := fun b o v z => by
      rw [del_ne (ne_of_none z hn)]
      exact un.frzs b o v (by rw [upd_ne (ne_of_none z hn)]; exact z)
    tbls := fun b ps z => by
      rw [del_ne (ne_of_none z hn)]
      exact un.tbls b ps (by rw [upd_ne (ne_of_none z hn)]; exact z) }
  have hok3 : HOk X.prog X.w (del H2 a) G := fun b o z => by
    have hba : b ≠ a := fun e => by
      rw [e, del_same] at z
      cases z
    rw [del_ne hba] at z
    have noa : ∀ {c : Addr}, H2 c = some (.own b) → c ≠ a := fun {c} hc => at_ne ea hc exo_own
    exact (hok b o z).stay (fun c v hc y => by
        have hca : c ≠ a := by
          rcases hc with hc | hc
          · rw [hc]
            exact hba
          · exact noa hc
        rw [gk c hca]
        exact y)
      (fun c hc => by rw [del_ne (noa hc)]; exact hc) (fun c xs hc => by rw [del_ne (at_ne ea hc exo_tup)]; exact hc)
  have J : Inv X pins σ (del H2 a) ⟨G, g2, d2, t2, os2⟩ := I1.call' (ch := []) ho U hok3 hb (fun b z => absurd z (by simp))
  refine ⟨t0, G, J, fun b o z => ?_, ge, hoe, del_same⟩
  by_cases hba : b = a
  · rw [hba, ge] at z
    cases z
  · exact (gk b hba).symm.trans z
/-- raise C(e, ..) -/
def MkR (C : Addr) (H1 : Hp) (Q : XK) (a : Addr) (H2 : Hp) : Prop := (H2 a = some (exo a C none) ∧ Q (.ref C) none (del H2 a)) ∨
  ∃ (d : Addr) (fs : List (Str × V)), H2 a = some (exo a C (some d)) ∧ H2 d = some (exd d fs) ∧ H1 d = none ∧ Q (.ref C) (some d) (upd (del H2 a) d (.xd fs))
def tMkR (C : Addr) (sp : Sp) (dvs : List V) (ta : TA) : L2.St → Hp → XK → Prop := fun σ H Q => ta σ H fun vs H1 => vs.length ≤ 1000 ∧ ∀ a, H1 a = none → sp (.ref a :: (vs ++ dvs)) (upd H1 a (exo a C none)) (fun v H2 => v = .non ∧ MkR C H1 Q a H2) E0
theorem pmk_B (M : MkB X.K C fI tail) (F : FnOk X.prog X.w X.K X.mg X.base CX k fI fd ps sp) (hr : Room (k + 1) X.A) (hg : Gl X x) (hm : X.mg x = some (.ref C)) (hb : Binds X.K fd ps ds) (hd : Vals dvs ds) (hx : Passes CX X E0)
    (ha : PA X (e :: es) ta) (hdb : (x == ("__debug__" : Str)) = false := by decide) (he : starEach (e :: es) X.env = (false, eval e X.env) :: starEach es X.env := by rfl) (hpl : (backTo pos (starEach es X.env)).any (·.1) = false := by rfl) :
    PMk X (.Call (.Name x p) (e :: es) [] pos) (tMkR C sp dvs ta) := by
  intro pins s σ H Q I h
  refine wpAny_Call_Name_kw (ld_glob I hg hm ?_ hdb)
  refine PySem.W.callWith_K (h₀ := X.base) I.ok.mod.kin M.T.kC (thn (ha.run pos pins s σ H _ I h) fun us s1 ⟨vs, H1, I1, r, hz, q⟩ => ⟨I1.kIn, ?_⟩) he hpl
  refine run_mkB (RR := MkR C H1 Q) M F hr hb hd hx I1 r hz q fun s2 H2 hp2 hsz kk un2 hok2 os2 bare2 _ rr => ?_
  obtain ⟨hp, g, dr, tk, os⟩ := s1
  obtain ⟨h2, g2, d2, t2, os'⟩ := s2
  rcases rr with ⟨ea, q2⟩ | ⟨d, fs, ea, ed, hd1, q2⟩
  · obtain ⟨t0, G, J, kG, ge, hoe, na⟩ := mk_endN (d2 := d2) (t2 := t2) I1 hsz kk un2 hok2 os2 bare2 ea
    exact ⟨_, _, _, ⟨G, g2, d2, t2, os'⟩, _, .ref C, none, rfl, J, kG, ge, hoe, ⟨rfl, rfl⟩, rfl, rfl, na, rfl, bare2, raises_own M.T.exC M.T.tyC, q2⟩
  · exact mk_end (raises_own M.T.exC M.T.tyC) I1 hsz kk un2 hok2 os2 bare2 ea ed hd1 q2
end
end OM

namespace OM
open PySem PySem.Spec PyProof.Rows L2
theorem flying_more {base h h' : Heap} {l : List Env} {e : Addr} {Z : Obj → Prop} (x : HandSPX.FlyingZ base l e Z h) (k : ∀ b o, h.get? b = some o → h'.get? b = some o) : HandSPX.FlyingZ base l e Z h' := by
  obtain ⟨k1, k2, k3, oe, vs, T, oT, ts, he, hz, hd, h1, hn, hne, hT, hdT, h3⟩ := x
  exact ⟨fun b o q => k b o (k1 b o q), k2, Heap.FunFrames.of_keeps (fun b o e _ => ⟨o, k b o e, rfl⟩) k3, oe, vs, T, oT, ts, k _ _ he, hz, hd, h1, hn, hne, k _ _ hT, hdT, h3⟩
/-- the test of a clause: ok cls b: it answers b for an exception of the class cls -/
structure TstR (X : Cx) (t : Expr) (ok : Value → Bool → Prop) : Prop where
  run : ∀ (a : Addr) (oe : Obj) (pn : List (Addr × Obj)) (σ : L2.St) (H : Hp) (s : Shared) (cls : Value) (b : Bool) (Q : Bool → Shared → Prop) (E E' : Value → Shared → Prop), Inv (X.suite a ((a, oe) :: pn)) [] σ H s → s.heap.get? a = some oe → oe.cls = cls → ok cls b →
    (∀ h', (∀ q o, s.heap.get? q = some o → h'.get? q = some o) → Q b { s with heap := h' }) →
    wpAny (model X.prog X.w) (X.A.mark (some (.ref a))) (eval t X.env) (fun c s₁ => wpAny (model X.prog X.w) (X.A.mark (some (.ref a))) (excMatches (.ref a) c) Q E' s₁) E s
section
variable {X : Cx} {x : Str} {c : Value} {np tpos : Pos} {tk : Nat}
theorem ld_names {a : Addr} {oe : Obj} {pn pins : List (Addr × Obj)} {σ : L2.St} {H : Hp} {s : Shared} {Q : Value → Shared → Prop} {E : Value → Shared → Prop} (hc : Names X x c) (S : Inv (X.suite a ((a, oe) :: pn)) pins σ H s) (q : Q c s) :
    wpAny (model X.prog X.w) (X.A.mark (some (.ref a))) (eval (.Name x np) X.env) Q E s := by
  obtain ⟨hg, hdbg, hm | ⟨hm, hv, hnn⟩⟩ := hc
  · exact ld_glob (X := X.suite a ((a, oe) :: pn)) S hg hm q hdbg
  · exact ld_blt (X := X.suite a ((a, oe) :: pn)) S hg hm hv q hnn hdbg
theorem tst_one (hc : Names X x c) : TstR X (.Name x np) (fun cls b => PySem.W.exmOne X.K cls c = some b) := by
  refine ⟨fun a oe pn σ H s cls b Q E E' S ha hcls hok q => ?_⟩
  refine ld_names hc S ?_
  have LT : PySem.W.Looks (model X.prog X.w) s.heap (typeOf (.ref a)) cls := fun A Q E s k q => wpAny_typeOf_ref (k _ _ ha) (by rw [hcls]; exact q)
  exact (PySem.W.exm_one (M := model X.prog X.w) S.kIn LT hok).here (q s.heap fun _ _ z => z)
/-- names of classes, one behind the other -/
inductive NamesT (X : Cx) : List Expr → List Value → Prop
  | nil : NamesT X [] []
  | cons {x : Str} {c : Value} {np : Pos} {es : List Expr} {cs : List Value} (hc : Names X x c) (r : NamesT X es cs) (he : starEach (.Name x np :: es) X.env = (false, eval (.Name x np) X.env) :: starEach es X.env := by rfl) : NamesT X (.Name x np :: es) (c :: cs)
theorem items_names {a : Addr} {oe : Obj} {pn : List (Addr × Obj)} {σ : L2.St} {H : Hp} {s : Shared} {E : Value → Shared → Prop} {pos : Pos} (S : Inv (X.suite a ((a, oe) :: pn)) [] σ H s) : ∀ {es : List Expr} {cs : List Value} {Q : List Value → Shared → Prop}, NamesT X es cs → Q cs s →
    wpAny (model X.prog X.w) (X.A.mark (some (.ref a))) (spliced (backTo pos (starEach es X.env))) Q E s
  | _, _, _, .nil, q => wpAny_items_nil q
  | _, _, Q, .cons hc r he, q => wpAny_items_cons (ld_names hc S (items_names (Q := fun vs s => Q (_ :: vs) s) S r q)) he
theorem tst_tup {es : List Expr} {cs : List Value} (hc : NamesT X es cs) (hz : cs.length ≤ sizeLine) : TstR X (.Tuple es tk tpos) (fun cls b => PySem.W.exmAny X.K cls cs = some b) := by
  refine ⟨fun a oe pn σ H s cls b Q E E' S ha hcls hok q => ?_⟩
  refine wpAny_Tuple (items_names S hc ⟨hz, ?_⟩)
  have kp : ∀ q o, s.heap.get? q = some o → (s.heap.push { cls := .type "tuple", data := .seq cs.toArray }).get? q = some o := fun _ _ z => Heap.get?_push_of_some _ z
  have LT : PySem.W.Looks (model X.prog X.w) (s.heap.push { cls := .type "tuple", data := .seq cs.toArray }) (typeOf (.ref a)) cls := fun A Q E s k q => wpAny_typeOf_ref (k _ _ (kp _ _ ha)) (by rw [hcls]; exact q)
  exact (PySem.W.om_exm_tup (M := model X.prog X.w) (S.kIn.keeps kp) LT (Heap.get?_push_size s.heap rfl) rfl rfl hok).here (q _ kp)
end
/-- a clause: its test, the slot of its name, its suite -/
abbrev Cl := (Value → Bool → Prop) × Option Nat × (Addr → Value → Option Addr → TS)
def offD (D : Ends) (i : Nat) : Ends := { nx := fun σ' H' => D.nx (σ'.set i none) H', rt := D.rt, bk := fun σ' H' => D.bk (σ'.set i none) H', ct := fun σ' H' => D.ct (σ'.set i none) H' }
def wTry (Wout : WX) (D : Ends) : List Cl → WX
  | [] => Wout
  | (ok, none, ts) :: r => fun cls d σ H => ∃ b, ok cls b ∧ (b = true → ∀ a, H a = none → ts a cls d D σ H) ∧ (b = false → wTry Wout D r cls d σ H)
  | (ok, some i, ts) :: r => fun cls d σ H => ∃ b, ok cls b ∧ (b = true → ∀ a, H a = none → ts a cls d (offD D i) (σ.set i (some (.ref a))) H) ∧ (b = false → wTry Wout D r cls d σ H)
inductive ClsOk (X : Cx) : List ExceptHandler → List Cl → Prop
  | nil : ClsOk X [] []
  | cons {t : Expr} {ok : Value → Bool → Prop} {ts : Addr → Value → Option Addr → TS} {b₀ : Stmt} {suite : List Stmt} {pos' : Pos} {hds : List ExceptHandler} {l : List Cl} (ht : TstR X t ok)
      (hsu : ∀ (a : Addr) (oe : Obj) (cls : Value) (d : Option Addr) (pn : List (Addr × Obj)), Zc cls d oe → (∃ vs, oe.data = .fields vs) → PSs (X.suite a ((a, oe) :: pn)) (b₀ :: suite) (ts a cls d)) (r : ClsOk X hds l) :
      ClsOk X (.ExceptHandler (some t) none (b₀ :: suite) pos' :: hds) ((ok, none, ts) :: l)
  | as {n : Str} {i : Nat} {t : Expr} {ok : Value → Bool → Prop} {ts : Addr → Value → Option Addr → TS} {b₀ : Stmt} {suite : List Stmt} {pos' : Pos} {hds : List ExceptHandler} {l : List Cl} (hN : X.N.Nodup) (hi : X.N[i]? = some n) (hln : X.env.kindOf n = some .local) (ht : TstR X t ok)
      (hsu : ∀ (a : Addr) (oe : Obj) (cls : Value) (d : Option Addr) (pn : List (Addr × Obj)), Zc cls d oe → (∃ vs, oe.data = .fields vs) → PSs (X.suite a ((a, oe) :: pn)) (b₀ :: suite) (ts a cls d)) (r : ClsOk X hds l) :
      ClsOk X (.ExceptHandler (some t) (some n) (b₀ :: suite) pos' :: hds) ((ok, some i, ts) :: l)
section
variable {X : Cx} {body : List Stmt} {h₀ : ExceptHandler} {hds : List ExceptHandler} {l : List Cl} {pos : Pos} {tb : WX → TS} {Wout : WX}
theorem ps_try_gen (hs : X.stack = X.env :: X.outer) (hf : X.env.frame = some X.env.locals) (tk : Takes X Wout)
    (hb : ∀ (W : WX) (pn : List (Addr × Obj)) (xe : Value → Shared → Prop), Takes (X.tr pn xe) W → PassesOwn (model X.prog X.w) X.A X.env xe → PSs (X.tr pn xe) body (tb W))
    (hh : ClsOk X (h₀ :: hds) l) : PS X (.Try body (h₀ :: hds) [] [] pos) (fun D σ H => tb (wTry Wout D l) D σ H) := by
  refine ⟨fun pins s σ H D I h => ?_⟩
  have ok := I.ok
  have hfr : X.A.frames = some (X.env :: X.outer) := by rw [ok.frames, hs]
  refine wpAny_Try_except ?_
  refine wpAny_mono ((hb (wTry Wout D l) (X.pn ++ pins) (fun e s₁ => wpAny (model X.prog X.w) X.A (noteFrame e X.env) (fun _ s₂ => wpAny (model X.prog X.w) X.A (setFlight e none) (fun _ s₃ =>
    wpAny (model X.prog X.w) X.A (handleBy e X.env (h₀ :: hds)) (SP X pins D) X.xe s₃) X.xe s₂) X.xe s₁) (fun u s' xx => ?_) PassesOwn.looking).run [] s σ H D (I.toTry _) h) (fun f s1 hsp => ?_) (fun e s1 he => he)
  · -- the catch
    obtain ⟨a, B, sI, pins', σ', H', cls, d, rfl, J', nb, up, sky, na, os, ag, w⟩ := xx
    have J : Inv X pins σ' H' sI := J'.ofTry ok
    have sky' : Sky B (X.env :: X.outer) a (Zc cls d) X.env.locals s'.heap := by rw [← hs]; exact sky
    show wpAny (model X.prog X.w) X.A (noteFrame (.ref a) X.env) _ _ _
    refine Sky.land Zc.steady hfr hf sky' fun h3 fl3 up3 => ?_
    have notFr : ∀ {h : Heap} {o : Obj} {vs : Array Value}, h.FunFrames B (X.env :: X.outer) → h.get? a = some o → o.data = .fields vs → a ∉ frs (X.env :: X.outer) := fun {h o vs} ff e dd hm => by
      obtain ⟨_, o', e', hnf⟩ := ff.mem hm
      rw [e] at e'; cases e'
      exact hnf _ dd
    have nfr : a ∉ frs (X.env :: X.outer) := by
      obtain ⟨oe3, vs3, he3, hz3, hd3⟩ := fl3.there
      exact notFr fl3.2.2.1 he3 hd3
    have nL : a ≠ X.env.locals := fun z => nfr (List.mem_filterMap.mpr ⟨X.env, List.mem_cons_self, by rw [hf, z]⟩)
    have nF : a ∉ X.fs := fun hm => by
      obtain ⟨e, he, q⟩ := List.mem_filterMap.mp hm
      exact nfr (List.mem_filterMap.mpr ⟨e, List.mem_cons_of_mem _ he, q⟩)
    have go : ∀ {hds' : List ExceptHandler} {l' : List Cl}, ClsOk X hds' l' → ∀ h5, HandSPX.FlyingZ B (X.env :: X.outer) a (Zc cls d) h5 → s'.heap.UpToSlots h5 → wTry Wout D l' cls d σ' H' →
        wpAny (model X.prog X.w) X.A (handleBy (.ref a) X.env hds') (SP X pins D) X.xe { s' with heap := h5 } := by
      intro hds' l' hk
      induction hk with
      | nil =>
        intro h3 fl3 up3 w
        refine wpAny_handleBy_nil ?_
        obtain ⟨k1, k2, k3, oe, vs, T, oT, ts', he, hz, hd, h1, hr⟩ := id fl3
        unfold PySem.passOn
        refine wpAny_bind (wpAny_field he hd h1 ?_)
        rw [if_neg (show ¬ ((Value.ref T == Value.none) = true) from by simp)]
        have fin : wpAny (model X.prog X.w) X.A (setFlight (.ref a) X.env.frame) (fun _ s4 => wpAny (model X.prog X.w) X.A (throw (.ref a) : Sem Flow) (SP X pins D) X.xe s4) X.xe { s' with heap := h3 } := by
          rw [hf]
          refine HandSPX.setFlight_upZ fl3 fun h4 hh4 up4 => wpAny_throw (tk _ _ ?_)
          exact ⟨a, B, sI, pins, σ', H', cls, d, rfl, J, nb, (up.trans up3).trans up4, .inr (.inr (by rw [hs]; exact hh4)), na, os, ag, w⟩
        first
          | exact wpAny_bind (wpAny_pure (wpAny_bind fin))
          | exact wpAny_bind fin
      | @cons t okp ts b₀ suite pos' hds2 l2 ht hsu r ih =>
        intro h3 fl3 up3 w
        obtain ⟨b, hb1, hyes, hno⟩ := w
        have J3 : Inv X pins σ' H' { s' with heap := h3 } := J.landed nb fl3.1 (up.trans up3) os ag
        obtain ⟨oe3, vs3, he3, hz3, hd3⟩ := fl3.there
        have S3 := J3.suite he3 hd3 na nL nF
        refine wpAny_handleBy_cons (codeAny_handlers_test ?_) (by intro q; cases q)
        refine ht.run a oe3 (X.pn ++ pins) σ' H' _ cls b _ _ _ S3 he3 hz3.1 hb1 (fun h6 k6 => ?_)
        have fl6 := flying_more fl3 k6
        have up6 : s'.heap.UpToSlots h6 := up3.trans (Heap.UpToSlots.of_keeps k6)
        cases b with
        | true =>
          refine codeAny_handlers_suite ?_
          refine HandSPX.lands_againZ fl6 fun h4 fl4 up4 => ?_
          have J4 : Inv X pins σ' H' { s' with heap := h4 } := J.landed nb fl4.1 ((up.trans up6).trans up4) os ag
          obtain ⟨oe4, vs4, he4, hz4, hd4⟩ := fl4.there
          have S4 := J4.suite he4 hd4 na nL nF
          refine wpAny_mono ((hsu a oe4 cls d (X.pn ++ pins) hz4 ⟨_, hd4⟩).run [] _ _ H' _ S4 (hyes rfl a na)) (fun f s6 hsp => ?_) (fun _ _ z => False.elim z)
          cases f with
          | next =>
            obtain ⟨σ6, H6, S6, q6⟩ := hsp
            exact ⟨_, _, S6.unsuite ok, q6⟩
          | brk =>
            obtain ⟨σ6, H6, S6, q6⟩ := hsp
            exact ⟨_, _, S6.unsuite ok, q6⟩
          | cont =>
            obtain ⟨σ6, H6, S6, q6⟩ := hsp
            exact ⟨_, _, S6.unsuite ok, q6⟩
          | ret u =>
            obtain ⟨v6, σ6, H6, S6, r6, q6⟩ := hsp
            exact ⟨_, _, _, S6.unsuite ok, r6, q6⟩
        | false =>
          show wpAny _ X.A (handleBy (.ref a) X.env hds2) _ _ _
          exact ih h6 fl6 up6 (hno rfl)
      | @as n i t okp ts b₀ suite pos' hds2 l2 hN hi hln ht hsu r ih =>
        intro h3 fl3 up3 w
        obtain ⟨b, hb1, hyes, hno⟩ := w
        have J3 : Inv X pins σ' H' { s' with heap := h3 } := J.landed nb fl3.1 (up.trans up3) os ag
        obtain ⟨oe3, vs3, he3, hz3, hd3⟩ := fl3.there
        have S3 := J3.suite he3 hd3 na nL nF
        refine wpAny_handleBy_cons (codeAny_handlers_test ?_) (by intro q; cases q)
        refine ht.run a oe3 (X.pn ++ pins) σ' H' _ cls b _ _ _ S3 he3 hz3.1 hb1 (fun h6 k6 => ?_)
        have fl6 := flying_more fl3 k6
        have up6 : s'.heap.UpToSlots h6 := up3.trans (Heap.UpToSlots.of_keeps k6)
        cases b with
        | true =>
          have hloc : Loc X.env.scope n := .inl hln
          refine codeAny_handlers_suite_as ?_
          refine HandSPX.lands_againZ fl6 fun h4 fl4 up4 => ?_
          have J4 : Inv X pins σ' H' { s' with heap := h4 } := J.landed nb fl4.1 ((up.trans up6).trans up4) os ag
          obtain ⟨oe4, vs4, he4, hz4, hd4⟩ := fl4.there
          have S4 := J4.suite he4 hd4 na nL nF
          refine store_ok (X := X.suite a ((a, oe4) :: (X.pn ++ pins))) (v := .ref a) S4 hN hi hloc rfl (fun s5 S5 => ?_) (.inr hln)
          refine wpAny_mono ((hsu a oe4 cls d (X.pn ++ pins) hz4 ⟨_, hd4⟩).run [] s5 _ H' _ S5 (hyes rfl a na)) (fun f s6 hsp => ?_) (fun _ _ z => False.elim z)
          have end_ : ∀ {σ6 : L2.St} {H6 : Hp} {Q : Shared → Prop}, Inv (X.suite a ((a, oe4) :: (X.pn ++ pins))) [] σ6 H6 s6 → (∀ s7, Inv X pins (σ6.set i none) H6 s7 → Q s7) →
              wpAny (model X.prog X.w) X.A (do bindName X.env n .none; unbindBehindTheSuite X.env n pos') (fun _ s7 => Q s7) X.xe s6 := fun {σ6 H6 Q} S6 hq => gone_ok (S6.unsuite ok) hN hi hln hq
          cases f with
          | next =>
            obtain ⟨σ6, H6, S6, q6⟩ := hsp
            exact end_ S6 fun s7 J7 => ⟨_, _, J7, q6⟩
          | brk =>
            obtain ⟨σ6, H6, S6, q6⟩ := hsp
            exact end_ S6 fun s7 J7 => ⟨_, _, J7, q6⟩
          | cont =>
            obtain ⟨σ6, H6, S6, q6⟩ := hsp
            exact end_ S6 fun s7 J7 => ⟨_, _, J7, q6⟩
          | ret u =>
            obtain ⟨v6, σ6, H6, S6, r6, q6⟩ := hsp
            exact end_ S6 fun s7 J7 => ⟨_, _, _, J7, r6, q6⟩
        | false =>
          show wpAny _ X.A (handleBy (.ref a) X.env hds2) _ _ _
          exact ih h6 fl6 up6 (hno rfl)
    exact go hh h3 fl3 up3 w
  · cases f with
    | next =>
      obtain ⟨σ', H', J', q⟩ := hsp
      exact wpAny_execs_nil ⟨σ', H', J'.ofTry ok, q⟩
    | brk =>
      obtain ⟨σ', H', J', q⟩ := hsp
      exact ⟨σ', H', J'.ofTry ok, q⟩
    | cont =>
      obtain ⟨σ', H', J', q⟩ := hsp
      exact ⟨σ', H', J'.ofTry ok, q⟩
    | ret u =>
      obtain ⟨v, σ', H', J', r, q⟩ := hsp
      exact ⟨v, σ', H', J'.ofTry ok, r, q⟩
end
end OM

namespace OM
open PySem L2
def top (i : Nat) : Stmt := PySem.Challenge.pw_orderlymoves_k01_names_sets_and_values.main.body.getD i (.Pass ⟨0, 0, 0, 0⟩)
abbrev sDice : Stmt := top 42
abbrev sRoll : Stmt := top 43
abbrev sOneOf : Stmt := top 44

/-- all but a is as it was -/
def But (a : Addr) (H H' : Hp) : Prop := ∀ b o, b ≠ a → H b = some o → H' b = some o
/-- a dice: a list of three ints -/
def Dice (H : Hp) (a : Addr) : Prop := ∃ l m c : Int, H a = some (.lst [.int l, .int m, .int c])

structure TxtD (mg : Str → Option Value) : Prop where
  len : mg "len" = none
  int : mg "int" = none
  abs : mg "abs" = none

def spDice (K : PySem.W.Frag) : Sp := fun vs H Q _ => ∃ (a : Addr) (ns : List Int) (k : Nat), vs = [.ref a, .int (k : Int)] ∧ SqL K H a (ns.map V.int) ∧
  ∀ H' p, Same H H' → H p = none → Dice H' p → Q (.ref p) H'
def spRoll : Sp := fun vs H Q _ => ∃ (d : Addr) (n : Int), vs = [.ref d, .int n] ∧ Dice H d ∧ 0 < n ∧ n < 1073741824 ∧
  ∀ H' (r : Int), 0 ≤ r → r < n → But d H H' → Dice H' d → Q (.int r) H'
def spOneOf (K : PySem.W.Frag) : Sp := fun vs H Q _ => ∃ (d a : Addr) (xs : List V), vs = [.ref d, .ref a] ∧ Dice H d ∧ SqL K H a xs ∧ (H d ≠ none → a ≠ d) ∧ 0 < xs.length ∧ xs.length < 1073741824 ∧
  ∀ H' (i : Nat) v, xs[i]? = some v → But d H H' → Dice H' d → Q v H'

section
variable {P : Program} {w : World} {K : PySem.W.Frag} {mg : Str → Option Value} {base : Heap}
theorem scR : FnScope ["_law_dice_here", "_law_total", "_law_number", "_law_drawn_here", "_law_one", "_law_two"] ["_law_dice_here", "_law_total"] (defScope sRoll) := ⟨rfl, rfl, rfl, by decide +kernel, rfl, by decide +kernel, by decide +kernel⟩
theorem ok_roll {f : Addr} {fd : FuncData} (F : Fun K "_law_roll" "_law_roll" sRoll f fd) (T : TxtD mg) : FnOk P w K mg base CX0 1 f fd ["_law_dice_here", "_law_total"] spRoll := by
  refine F.ok scR (fun vs H Q E h => ?_) (fun cdv A outer s H vs Q E hr h => ?_)
  · obtain ⟨d, n, rfl, _⟩ := h
    rfl
  · obtain ⟨d, n, rfl, ⟨l, m, c, hd⟩, n0, n1, k⟩ := h
    have big : ∀ {x : Int}, 0 ≤ x → x < 2305843009213693952 → (-(2 ^ 64) < x ∧ x < 2 ^ 64) := fun h1 h2 => ⟨by omega, by omega⟩
    refine ⟨_, pss_cons (ps_set (i := 2) scR.nd rfl (Or.inl rfl) (pe_callTy call_int1 (by rfl) T.int (by decide +kernel) (pa_cons (pv 1) pa_nil)))
      (pss_cons (ps_if (pt_cmpR op_gt (pe_ix ix_list (pv 0) pe_int (fun _ _ => rfl)) pe_int (nomark _))
        (pss_cons (ps_set (i := 3) scR.nd rfl (Or.inl rfl) (pe_op op_mod (pe_ix ix_list (pv 0) pe_int (fun _ _ => rfl)) (pv 2)))
        (pss_cons (ps_asg (pe_op op_fdiv (pe_ix ix_list (pv 0) pe_int (fun _ _ => rfl)) (pv 2)) (pg_sub (pv 0) pe_int set_list))
        (pss_one (ps_ret (pe_callTy call_int1 (by rfl) T.int (by decide +kernel) (pa_cons (pv 3) pa_nil))))))
        pss_nil)
      (pss_cons (ps_asg (pe_op op_add (pe_ix ix_list (pv 0) pe_int (fun _ _ => rfl)) pe_int) (pg_sub (pv 0) pe_int set_list))
      (pss_cons (ps_set (i := 4) scR.nd rfl (Or.inl rfl) (pe_op op_mod (pe_op op_add (pe_ix ix_list (pv 0) pe_int (fun _ _ => rfl)) (pe_op op_mul pe_int (pe_ix ix_list (pv 0) pe_int (fun _ _ => rfl)))) pe_int))
      (pss_cons (ps_set (i := 5) scR.nd rfl (Or.inl rfl) (pe_op op_add (pe_op op_mul (pe_op op_mod (pe_op op_mul (pv 4) (pv 4)) pe_int) (pv 4)) (pe_op op_mul pe_int (pe_ix ix_list (pv 0) pe_int (fun _ _ => rfl)))))
      (pss_cons (ps_set (i := 5) scR.nd rfl (Or.inl rfl) (pe_op op_mod (pv 5) pe_int))
      (pss_one (ps_ret (pe_callTy call_int1 (by rfl) T.int (by decide +kernel) (pa_cons (pe_op op_mod (pe_op op_fdiv (pv 5) pe_int) (pv 2)) pa_nil))))))))), ?_⟩
    refine ⟨_, rfl, .inl ⟨_, rfl, ?_⟩⟩
    refine ⟨_, rfl, d, _, _, _, rfl, rfl, SqL.of hd, rfl, _, _, rfl, rfl, _, rfl, ite2 (fun h0 => ?_) (fun h0 => ?_)⟩
    · refine ⟨_, rfl, d, _, _, _, rfl, rfl, SqL.of hd, rfl, _, rfl, _, _, rfl, rfl, n0, ?_⟩
      refine ⟨_, rfl, d, _, _, _, rfl, rfl, SqL.of hd, rfl, _, rfl, _, _, rfl, rfl, ⟨n0, n1⟩, _, rfl, d, _, _, 0, rfl, rfl, hd, rfl, ?_⟩
      refine ⟨_, rfl, .inl ⟨_, rfl, ?_⟩⟩
      refine k _ _ (Int.emod_nonneg _ (by omega)) (Int.emod_lt_of_pos _ n0) (fun b o nb e => by rw [upd_ne nb]; exact e) ⟨_, _, _, upd_same⟩
    · refine ⟨_, rfl, d, _, _, _, rfl, rfl, SqL.of hd, rfl, _, _, rfl, rfl, _, rfl, d, _, _, 2, rfl, rfl, hd, rfl, ?_⟩
      have hd2 : upd H d (.lst [.int l, .int m, .int (c + 1)]) d = some (.lst [.int l, .int m, .int (c + 1)]) := upd_same
      refine ⟨_, rfl, d, _, _, _, rfl, rfl, SqL.of hd2, rfl, _, rfl, d, _, _, _, rfl, rfl, SqL.of hd2, rfl, _, _, rfl, rfl, .inl (by decide), _, _, rfl, rfl, _, _, rfl, rfl, (by show (0 : Int) < 2305843009213693951; decide), ?_⟩
      have o0 : 0 ≤ (m + 1000099 * (c + 1)) % 2305843009213693951 := Int.emod_nonneg _ (by decide)
      have o1 : (m + 1000099 * (c + 1)) % 2305843009213693951 < 2305843009213693951 := Int.emod_lt_of_pos _ (by decide)
      refine ⟨_, rfl, _, rfl, _, _, rfl, rfl, .inl (big o0 (by omega)), _, _, rfl, rfl, (by show (0 : Int) < 2305843009213693921; decide), _, rfl, _, _, rfl, rfl, .inr (big o0 (by omega)), _, rfl, d, _, _, _, rfl, rfl, SqL.of hd2, rfl, _, _, rfl, rfl, .inl (by decide), _, _, rfl, rfl, ?_⟩
      refine ⟨_, rfl, _, _, rfl, rfl, (by show (0 : Int) < 2305843009213693907; decide), ?_⟩
      refine ⟨_, rfl, _, _, rfl, rfl, ⟨by decide, by decide⟩, _, rfl, _, _, rfl, rfl, n0, .inl ⟨_, rfl, ?_⟩⟩
      exact k _ _ (Int.emod_nonneg _ (by omega)) (Int.emod_lt_of_pos _ n0) (fun b o nb e => by rw [upd_ne nb]; exact e) ⟨_, _, _, upd_same⟩
theorem scO : FnScope ["_law_dice_here", "_law_items"] ["_law_dice_here", "_law_items"] (defScope sOneOf) := ⟨rfl, rfl, rfl, by decide +kernel, rfl, by decide +kernel, by decide +kernel⟩
theorem But.seq {K : PySem.W.Frag} {H H' : Hp} {d a : Addr} {xs : List V} (e : But d H H') (n : H d ≠ none → a ≠ d) (dn : H d ≠ none) (h : SqL K H a xs) : SqL K H' a xs := by
  rcases h with (h | ⟨o, h⟩) | h
  · exact .inl (.inl (e _ _ (n dn) h))
  · exact .inl (.inr ⟨o, e _ _ (n dn) h⟩)
  · exact .inr h
theorem Dice.ne {H : Hp} {d : Addr} (h : Dice H d) : H d ≠ none := by
  obtain ⟨_, _, _, e⟩ := h
  rw [e]
  exact fun z => nomatch z
theorem ok_oneof {f fR : Addr} {fd fdR : FuncData} (F : Fun K "_law_one_of" "_law_one_of" sOneOf f fd) (T : TxtD mg) (FR : Fun K "_law_roll" "_law_roll" sRoll fR fdR) (gR : mg "_law_roll" = some (.ref fR)) (bR : Binds K fdR ["_law_dice_here", "_law_total"] []) :
    FnOk P w K mg base CX0 2 f fd ["_law_dice_here", "_law_items"] (spOneOf K) := by
  have GR : FnOk P w K mg base CX0 1 fR fdR ["_law_dice_here", "_law_total"] spRoll := ok_roll FR T
  refine F.ok scO (fun vs H Q E h => ?_) (fun cdv A outer s H vs Q E hr h => ?_)
  · obtain ⟨d, a, xs, rfl, _⟩ := h
    rfl
  · obtain ⟨d, a, xs, rfl, hd, hx, ne, l0, l1, k⟩ := h
    refine ⟨_, pss_one (ps_ret (pe_ix ix_list (pv 1) (pe_call GR hr rfl gR FR.kp bR .nil pass0 (pa_cons (pv 0) (pa_cons (pe_callB call_len_seq (by rfl) T.len PySem.boot_len (pa_cons (pv 1) pa_nil)) pa_nil))) (fun _ _ => rfl))), ?_⟩
    refine ⟨_, rfl, _, rfl, _, rfl, a, _, rfl, .inl hx, d, _, rfl, hd, by omega, by omega, fun H' r r0 r1 hb hd' => ?_⟩
    obtain ⟨i, rfl⟩ : ∃ i : Nat, r = (i : Int) := ⟨r.toNat, by omega⟩
    have hi : i < xs.length := by omega
    have hv : xs[i]? = some xs[i] := List.getElem?_eq_getElem hi
    exact ⟨a, xs, _, _, rfl, rfl, hb.seq ne hd.ne hx, atI_nat hv, k _ i _ hv hb hd'⟩
theorem scD : FnScope ["_law_script", "_law_at", "_law_cell", "_law_great", "_law_left", "_law_mixed"] ["_law_script", "_law_at"] (defScope sDice) := ⟨rfl, rfl, rfl, by decide +kernel, rfl, by decide +kernel, by decide +kernel⟩
/-- a power of a greater base -/
theorem op_powB {X : Cx} : OpR X (binaryOp .Pow) (rI (fun i j => 0 ≤ j ∧ (PySem.Builtin.Int.intBits i : Int) * j ≤ 2 ^ 27) fun i j => .int (i ^ j.toNat)) := opI fun _ _ _ _ _ _ _ hc q => PyProof.Rows.pow_int hc.1 hc.2 q
theorem ok_dice {f : Addr} {fd : FuncData} (F : Fun K "_law_dice" "_law_dice" sDice f fd) (T : TxtD mg) : FnOk P w K mg base CX0 1 f fd ["_law_script", "_law_at"] (spDice K) := by
  refine F.ok scD (fun vs H Q E h => ?_) (fun cdv A outer s H vs Q E hr h => ?_)
  · obtain ⟨a, ns, k, rfl, _⟩ := h
    rfl
  · obtain ⟨a, ns, k, rfl, hS, q⟩ := h
    refine ⟨_, pss_cons (ps_set (i := 2) scD.nd rfl (Or.inl rfl) (pe_op op_add (pe_op op_mul pe_int (pv 1)) pe_int))
      (pss_cons (ps_if (pt_cmpR op_lt (pv 1) (pe_callB call_len_seq (by rfl) T.len PySem.boot_len (pa_cons (pv 0) pa_nil)) (nomark _))
        (pss_one (ps_set (i := 2) scD.nd rfl (Or.inl rfl) (pe_ix ix_list (pv 0) (pv 1) (fun _ _ => rfl)))) pss_nil)
      (pss_cons (ps_set (i := 3) scD.nd rfl (Or.inl rfl) (pe_op op_mod (pe_callTy call_int1 (by rfl) T.int (by decide +kernel) (pa_cons (pe_callB call_abs (by rfl) T.abs (by decide +kernel) (pa_cons (pv 2) pa_nil)) pa_nil)) (pe_op op_powB (pe_op op_pow pe_int pe_int) pe_int)))
      (pss_cons (ps_set (i := 4) scD.nd rfl (Or.inl rfl) (pe_op op_fdivW (pv 3) (pe_op op_pow pe_int pe_int)))
      (pss_cons (ps_set (i := 5) scD.nd rfl (Or.inl rfl) (pe_op op_add (pe_op op_add (pe_op op_add (pe_op op_mul (pe_op op_mod (pv 3) pe_int) pe_int) (pe_op op_mul pe_int (pv 1))) (pe_op op_mul pe_int (pe_callTy call_int1 (by rfl) T.int (by decide +kernel) (pa_cons (pe_cmpR op_lt (pv 2) pe_int (nomark _)) pa_nil)))) pe_int))
      (pss_one (ps_ret (pe_lst (pa_cons (pv 4) (pa_cons (pe_op op_mod (pv 5) pe_int) (pa_cons pe_int pa_nil)))))))))), ?_⟩
    refine ⟨_, rfl, _, _, rfl, rfl, .inl (by decide), _, _, rfl, rfl, ?_⟩
    refine ⟨_, rfl, _, rfl, a, _, rfl, .inl hS, _, _, rfl, rfl, _, rfl, ite2 (fun h0 => ?_) (fun h0 => ?_)⟩
    · have h1 : k < ns.length := by
        rw [List.length_map] at h0
        have h2 := of_decide_eq_true h0
        omega
      have hv : (ns.map V.int)[k]? = some (V.int ns[k]) := by
        rw [List.getElem?_map, List.getElem?_eq_getElem h1]
        rfl
      refine ⟨_, rfl, _, rfl, a, _, _, _, rfl, rfl, hS, atI_nat hv, ?_⟩
      refine ⟨_, rfl, _, rfl, .inl ⟨_, rfl, ?_⟩⟩
      refine ⟨_, _, rfl, rfl, ⟨by decide, by decide, by decide⟩, _, _, rfl, rfl, ⟨by decide, by decide +kernel⟩, _, _, rfl, rfl, (by show (0 : Int) < (10 ^ (60 : Int).toNat) ^ (10 : Int).toNat; decide +kernel), ?_⟩
      refine ⟨_, rfl, _, _, rfl, rfl, ⟨by decide, by decide, by decide⟩, _, _, rfl, rfl, wide_div (b := 64) (by show (0 : Int) < 10 ^ (18 : Int).toNat; decide +kernel) (by show (10 ^ (18 : Int).toNat : Int).natAbs < 2 ^ 64; decide +kernel) (by decide) (by decide), ?_⟩
      refine ⟨_, rfl, _, _, rfl, rfl, (by show (0 : Int) < 2147483423; decide), _, _, rfl, rfl, .inr (by decide), _, rfl, _, _, rfl, rfl, .inl (by decide), _, _, rfl, rfl, _, rfl, _, _, rfl, rfl, .inr ⟨_, rfl, ?_⟩⟩
      refine ⟨_, _, rfl, rfl, .inl (by decide), _, _, rfl, rfl, _, _, rfl, rfl, ?_⟩
      refine ⟨_, rfl, _, rfl, _, _, rfl, rfl, (by show (0 : Int) < 2147483399; decide), (by show 3 ≤ sizeLine; decide), fun p hp => ?_⟩
      exact q _ p (fun b o e => by rw [upd_ne (ne_of_none e hp)]; exact e) hp ⟨_, _, _, upd_same⟩
    · refine ⟨_, rfl, _, rfl, .inl ⟨_, rfl, ?_⟩⟩
      refine ⟨_, _, rfl, rfl, ⟨by decide, by decide, by decide⟩, _, _, rfl, rfl, ⟨by decide, by decide +kernel⟩, _, _, rfl, rfl, (by show (0 : Int) < (10 ^ (60 : Int).toNat) ^ (10 : Int).toNat; decide +kernel), ?_⟩
      refine ⟨_, rfl, _, _, rfl, rfl, ⟨by decide, by decide, by decide⟩, _, _, rfl, rfl, wide_div (b := 64) (by show (0 : Int) < 10 ^ (18 : Int).toNat; decide +kernel) (by show (10 ^ (18 : Int).toNat : Int).natAbs < 2 ^ 64; decide +kernel) (by decide) (by decide), ?_⟩
      refine ⟨_, rfl, _, _, rfl, rfl, (by show (0 : Int) < 2147483423; decide), _, _, rfl, rfl, .inr (by decide), _, rfl, _, _, rfl, rfl, .inl (by decide), _, _, rfl, rfl, _, rfl, _, _, rfl, rfl, .inr ⟨_, rfl, ?_⟩⟩
      refine ⟨_, _, rfl, rfl, .inl (by decide), _, _, rfl, rfl, _, _, rfl, rfl, ?_⟩
      refine ⟨_, rfl, _, rfl, _, _, rfl, rfl, (by show (0 : Int) < 2147483399; decide), (by show 3 ≤ sizeLine; decide), fun p hp => ?_⟩
      exact q _ p (fun b o e => by rw [upd_ne (ne_of_none e hp)]; exact e) hp ⟨_, _, _, upd_same⟩
end
end OM

namespace OM
open PySem PySem.Spec PyProof.Rows L2
abbrev sCop : Stmt := top 13
/-- a key as a datum -/
def kD : Key → PyData
  | .inl i => .int i
  | .inr x => .str x
/-- values that are no objects -/
inductive At : V → PyData → Prop where
  | non : At .non .none
  | bl (b : Bool) : At (.bl b) (.bool b)
  | int (i : Int) : At (.int i) (.int i)
  | str (x : Str) : At (.str x) (.str x)
mutual
/-- v stands for the datum d, by objects of S alone -/
inductive Dt (S : Addr → Prop) (H : Hp) : V → PyData → Prop where
  | at {v : V} {d : PyData} (h : At v d) : Dt S H v d
  | lst {a : Addr} {xs : List V} {ds : List PyData} (s : S a) (e : H a = some (.lst xs)) (hl : xs.length ≤ 1000) (h : DtAll S H xs ds) : Dt S H (.ref a) (.list ds)
  | tup {a : Addr} {xs : List V} {ds : List PyData} (s : S a) (e : H a = some (.tup xs)) (hl : xs.length ≤ 1000) (h : DtAll S H xs ds) : Dt S H (.ref a) (.tuple ds)
  | dic0 {a : Addr} (s : S a) (e : H a = some (.dK [])) : Dt S H (.ref a) (.dict [])
  | dic1 {a : Addr} {k : Key} {v : V} {d : PyData} (s : S a) (e : H a = some (.dK [(k, v)])) (h : At v d) : Dt S H (.ref a) (.dict [(kD k, d)])
inductive DtAll (S : Addr → Prop) (H : Hp) : List V → List PyData → Prop where
  | nil : DtAll S H [] []
  | cons {v : V} {d : PyData} {vs : List V} {ds : List PyData} (h : Dt S H v d) (r : DtAll S H vs ds) : DtAll S H (v :: vs) (d :: ds)
end
section
variable {S S' : Addr → Prop} {H H' : Hp}
mutual
theorem Dt.mv (hS : ∀ a, S a → S' a) (hH : ∀ a o, S a → H a = some o → H' a = some o) : ∀ {v : V} {d : PyData}, Dt S H v d → Dt S' H' v d
  | _, _, .at h => .at h
  | _, _, .lst s e hl h => .lst (hS _ s) (hH _ _ s e) hl (DtAll.mv hS hH h)
  | _, _, .tup s e hl h => .tup (hS _ s) (hH _ _ s e) hl (DtAll.mv hS hH h)
  | _, _, .dic0 s e => .dic0 (hS _ s) (hH _ _ s e)
  | _, _, .dic1 s e h => .dic1 (hS _ s) (hH _ _ s e) h
theorem DtAll.mv (hS : ∀ a, S a → S' a) (hH : ∀ a o, S a → H a = some o → H' a = some o) : ∀ {vs : List V} {ds : List PyData}, DtAll S H vs ds → DtAll S' H' vs ds
  | _, _, .nil => .nil
  | _, _, .cons h r => .cons (Dt.mv hS hH h) (DtAll.mv hS hH r)
end
mutual
theorem Dt.strong (hS : ∀ a o, S a → H a = some o → S' a ∧ H' a = some o) : ∀ {v : V} {d : PyData}, Dt S H v d → Dt S' H' v d
  | _, _, .at h => .at h
  | _, _, .lst s e hl h => .lst (hS _ _ s e).1 (hS _ _ s e).2 hl (DtAll.strong hS h)
  | _, _, .tup s e hl h => .tup (hS _ _ s e).1 (hS _ _ s e).2 hl (DtAll.strong hS h)
  | _, _, .dic0 s e => .dic0 (hS _ _ s e).1 (hS _ _ s e).2
  | _, _, .dic1 s e h => .dic1 (hS _ _ s e).1 (hS _ _ s e).2 h
theorem DtAll.strong (hS : ∀ a o, S a → H a = some o → S' a ∧ H' a = some o) : ∀ {vs : List V} {ds : List PyData}, DtAll S H vs ds → DtAll S' H' vs ds
  | _, _, .nil => .nil
  | _, _, .cons h r => .cons (Dt.strong hS h) (DtAll.strong hS r)
end
theorem DtAll.snoc : ∀ {vs : List V} {ds : List PyData} {v : V} {d : PyData}, DtAll S H vs ds → Dt S H v d → DtAll S H (vs ++ [v]) (ds ++ [d])
  | _, _, _, _, .nil, h => .cons h .nil
  | _, _, _, _, .cons a r, h => .cons a (DtAll.snoc r h)
theorem DtAll.length : ∀ {vs : List V} {ds : List PyData}, DtAll S H vs ds → vs.length = ds.length
  | _, _, .nil => rfl
  | _, _, .cons _ r => congrArg (· + 1) (DtAll.length r)
theorem DtAll.get : ∀ {vs : List V} {ds : List PyData} {i : Nat} {v : V}, DtAll S H vs ds → vs[i]? = some v → ∃ d, ds[i]? = some d ∧ Dt S H v d
  | _, _, _, _, .nil, e => by simp at e
  | _, _, 0, _, .cons h _, e => by
    simp at e
    subst e
    exact ⟨_, rfl, h⟩
  | _, _, i + 1, _, .cons _ r, e => by
    obtain ⟨d, e2, h⟩ := DtAll.get (i := i) r (by simpa using e)
    exact ⟨d, by simpa using e2, h⟩
theorem depth_get : ∀ {ds : List PyData} {i : Nat} {d : PyData}, ds[i]? = some d → d.depth ≤ PyData.depthAll ds
  | [], _, _, e => by simp at e
  | x :: r, 0, d, e => by
    simp at e
    subst e
    unfold PyData.depthAll
    omega
  | x :: r, i + 1, d, e => by
    have q := depth_get (ds := r) (i := i) (d := d) (by simpa using e)
    unfold PyData.depthAll
    omega
/-- the type that isinstance sees -/
theorem At.ty {K : PySem.W.Frag} {v : V} {d : PyData} (h : At v d) : ∃ n, (n = "NoneType" ∨ n = "bool" ∨ n = "int" ∨ n = "str") ∧ TyX K H v (.type n) := by
  cases h with
  | non => exact ⟨_, .inl rfl, .base .non⟩
  | bl b => exact ⟨_, .inr (.inl rfl), .base (.bl b)⟩
  | int i => exact ⟨_, .inr (.inr (.inl rfl)), .base (.int i)⟩
  | str x => exact ⟨_, .inr (.inr (.inr rfl)), .base (.str x)⟩
end
/-- what _copied answers: the same datum, of objects that were not there -/
def spCop : Nat → Sp
  | 0 => fun _ _ _ _ => False
  | n + 1 => fun vs H Q _ => ∃ (S : Addr → Prop) (v : V) (d : PyData), vs = [v] ∧ Dt S H v d ∧ d.depth ≤ n ∧ ∀ H' v', Same H H' → Dt (fun a => H a = none) H' v' d → Q v' H'
structure TxtC (mg : Str → Option Value) : Prop where
  isi : mg "isinstance" = none
  lst : mg "list" = none
  tup : mg "tuple" = none
  dct : mg "dict" = none
/-- over the keys of a dict that is held -/
theorem dc_keys {d : Addr} {o : Obj} {kws : List (Key × V)} {g : TG} {tt : TT} {tk tv : TE} {vs : List Nat} {σ : L2.St} {H1 : Hp} {D : Addr} {Qd : Hp → Prop} (Pv : Nat → Hp → Prop) (h0 : Pv 0 (upd H1 D (.dK []))) (hl : ∀ i H, Pv i H → H d = some (.frz o (.dK kws)))
    (hs : ∀ i k v H, kws[i]? = some (k, v) → Pv i H → g (kV k) (wipe σ vs) H fun σ2 H2 => wipe σ2 vs = wipe σ vs ∧ tt σ2 H2 fun b H3 =>
      if b = true then tk σ2 H3 fun y H4 => tv σ2 H4 fun z H5 => ∃ kvs k, y = kV k ∧ H5 D = some (.dK kvs) ∧ kvs.length < sizeLine ∧ Pv (i + 1) (upd H5 D (.dK (putK kvs k z))) else Pv (i + 1) H3) (hd : ∀ H, Pv kws.length H → Qd H) :
    ∃ W : Nat → Nat → Hp → Prop, (∃ m, W 0 m (upd H1 D (.dK []))) ∧ ∀ i m H, W i m H →
      ((Itk d o kws).stop i H ∧ Qd H) ∨ ((Itk d o kws).go i H ∧ ∃ Nx : Hp → Prop, (∀ H', Nx H' → ∃ m', m' < m ∧ W (i + 1) m' H') ∧ ∀ x H', (Itk d o kws).yld i H x H' → g x (wipe σ vs) H' fun σ2 H2 => wipe σ2 vs = wipe σ vs ∧ tt σ2 H2 fun b H3 =>
        if b = true then tk σ2 H3 fun y H4 => tv σ2 H4 fun z H5 => ∃ kvs k, y = kV k ∧ H5 D = some (.dK kvs) ∧ kvs.length < sizeLine ∧ Nx (upd H5 D (.dK (putK kvs k z))) else Nx H3) := by
  refine ⟨fun i m H => i ≤ kws.length ∧ m = kws.length - i ∧ Pv i H, ⟨_, Nat.zero_le _, rfl, h0⟩, ?_⟩
  rintro i m H ⟨hi, rfl, p⟩
  have q := hl i H p
  rcases Nat.lt_or_ge i kws.length with hlt | hge
  · refine .inr ⟨⟨q, hlt⟩, Pv (i + 1), fun H' p' => ⟨kws.length - (i + 1), by omega, hlt, rfl, p'⟩, fun x H' y => ?_⟩
    obtain ⟨rfl, k, v, e, rfl⟩ := y
    exact hs i k v _ e p
  · obtain rfl : i = kws.length := by omega
    exact .inl ⟨⟨q, hge⟩, hd H p⟩
section
variable {P : Program} {w : World} {K : PySem.W.Frag} {mg : Str → Option Value} {base : Heap}
theorem scC : FnScope ["value", "part", "key"] ["value"] (defScope sCop) := ⟨rfl, rfl, rfl, by decide +kernel, rfl, by decide +kernel, by decide +kernel⟩
theorem isi_b {H : Hp} {x : V} {n m : String} {r : Bool} {Q : VK} (ty : TyX K H x (.type n)) (h : kitB n m = some r) (q : Q (.bl r) H) : rIsi K [x, .ty m] H Q := ⟨x, .ty m, _, _, r, rfl, .ty m, ty, kit_ty h, q⟩
/-- if isinstance(x, T): , x the name in the i-th slot -/
theorem isi_if {σ : L2.St} {i : Nat} {H : Hp} {x : V} {n m : String} {r : Bool} {Q : Bool → Hp → Prop} (hv : σ[i]? = some (some x)) (ty : TyX K H x (.type n)) (h : kitB n m = some r) (q : Q r H) : tB (tCB (rIsi K) (tCons (tVar i) (tCons (tC (.ty m)) tNil))) σ H Q :=
  ⟨x, hv, isi_b (Q := fun y H1 => ∃ c, y = V.bl c ∧ Q c H1) ty h ⟨r, rfl, q⟩⟩
end
end OM

namespace OM
open PySem PySem.Spec PyProof.Rows L2
section
variable {P : Program} {w : World} {K : PySem.W.Frag} {mg : Str → Option Value} {base : Heap}
theorem same_upd {H : Hp} {D : Addr} {o : HO} (h : H D = none) : Same H (upd H D o) := fun b u e => by rw [upd_ne (ne_of_none e h)]; exact e
theorem same_put {H H' : Hp} {D : Addr} {o : HO} (h : H D = none) (s : Same H H') : Same H (upd H' D o) := fun b u e => by rw [upd_ne (ne_of_none e h)]; exact s b u e
/-- what holds of the parts that were copied so far -/
def PvC (H : Hp) (D : Addr) (ds : List PyData) (i : Nat) (H' : Hp) : Prop := Same H H' ∧ ∃ acc : List V, H' D = some (.lst acc) ∧ DtAll (fun a => H a = none ∧ a ≠ D) H' acc (ds.take i)
theorem PvC.one {S : Addr → Prop} {H H3 : Hp} {D : Addr} {xs : List V} {ds : List PyData} {i m : Nat} {x : V} (hD : H D = none) (hl : xs.length ≤ 1000) (h : DtAll S H xs ds) (hdep : PyData.depthAll ds ≤ m) (hx : xs[i]? = some x) (p : PvC H D ds i H3) :
    spCop (m + 1) [x] H3 (fun y H4 => ∃ acc, H4 D = some (.lst acc) ∧ acc.length < sizeLine ∧ PvC H D ds (i + 1) (upd H4 D (.lst (acc ++ [y])))) E0 := by
  obtain ⟨sm, acc, hD3, da⟩ := p
  obtain ⟨d, hdi, hdt⟩ := h.get hx
  refine ⟨S, x, d, rfl, hdt.mv (fun _ z => z) (fun a o _ e => sm a o e), Nat.le_trans (depth_get hdi) hdep, fun H4 v' sm4 dt4 => ⟨acc, sm4 _ _ hD3, ?_, ?_⟩⟩
  · have e1 := da.length
    rw [List.length_take] at e1
    have e2 : (1000 : Nat) < sizeLine := by decide
    have e3 := h.length
    omega
  · refine ⟨same_put hD (sm.trans sm4), acc ++ [v'], upd_same, ?_⟩
    have et : ds.take (i + 1) = ds.take i ++ [d] := by
      rw [List.take_add_one, hdi] <;> rfl
    rw [et]
    refine DtAll.snoc (da.mv (fun _ z => z) fun a o s e => by rw [upd_ne s.2]; exact sm4 _ _ e) (dt4.mv (fun a (s : H3 a = none) => ⟨sm.free s, fun z => by rw [z, hD3] at s; cases s⟩) fun a o s e => ?_)
    have s' : H3 a = none := s
    rw [upd_ne (fun z => by rw [z, hD3] at s'; cases s')]
    exact e
theorem PvC.all {S : Addr → Prop} {H H5 : Hp} {D : Addr} {xs : List V} {ds : List PyData} (h : DtAll S H xs ds) (p : PvC H D ds xs.length H5) : Same H H5 ∧ ∃ acc : List V, H5 D = some (.lst acc) ∧ acc.length = xs.length ∧ DtAll (fun a => H a = none ∧ a ≠ D) H5 acc ds := by
  obtain ⟨sm, acc, hD5, da⟩ := p
  rw [h.length, List.take_length] at da
  exact ⟨sm, acc, hD5, da.length.trans h.length.symm, da⟩
theorem PvC.zero {H : Hp} {D : Addr} {ds : List PyData} (hD : H D = none) : PvC H D ds 0 (upd H D (.lst [])) := ⟨same_upd hD, [], upd_same, .nil⟩
theorem unlock_same {H H' : Hp} {a : Addr} {od : Obj} {u : HO} (e : H a = some u) (sm : Same (upd H a (.frz od u)) H') : Same H (upd H' a u) := fun b o z => by
  by_cases hb : b = a
  · rw [hb] at z ⊢
    rw [upd_same, ← z, e]
  · rw [upd_ne hb]
    exact sm b o (by rw [upd_ne hb]; exact z)
theorem At.of {S : Addr → Prop} {H : Hp} {v v' : V} {d : PyData} (h : At v d) (x : Dt S H v' d) : At v' d := by
  cases h <;> (cases x; assumption)
theorem cop_step {f : Addr} {fd : FuncData} {n : Nat} (F : Fun K "_copied" "_copied" sCop f fd) (T : TxtC mg) (gC : mg "_copied" = some (.ref f)) (bC : Binds K fd ["value"] []) (G : FnOk P w K mg base CX0 n f fd ["value"] (spCop n)) :
    FnOk P w K mg base CX0 (n + 1) f fd ["value"] (spCop (n + 1)) := by
  refine F.ok scC (fun vs H Q E h => ?_) (fun cdv A outer s H vs Q E hr h => ?_)
  · obtain ⟨S, v, d, rfl, _⟩ := h
    rfl
  · obtain ⟨S, v, d, rfl, hd, hdep, q⟩ := h
    have un : (A.deeper (envOfC "_copied" (defScope sCop) s.heap.objs.size f cdv)).units + 1 < cLine := by
      have := hr.un
      omega
    refine ⟨_, pss_cons (ps_if (pt_val (pe_callB call_isi (by rfl) T.isi (by decide +kernel) (pa_cons (pv 0) (pa_cons (pe_bltn (v := .ty "list") (u := .type "list") (by rfl) T.lst (by decide +kernel) rfl) pa_nil))))
        (pss_one (ps_ret (pe_lc (own := [("part", 1)]) rfl scC.nd (pi_list (pv 0)) (blkOk_by (N := ["value", "part", "key"]) (sc := defScope sCop) (by decide +kernel)) (fun _ _ _ _ _ => pg_name (i := 1) scC.nd rfl (Or.inl rfl)) (fun _ _ _ _ _ => pts_nil)
          (fun _ _ _ _ _ => pe_call G hr rfl gC F.kp bC .nil pass0 (pa_cons (pv 1) pa_nil))))) pss_nil)
      (pss_cons (ps_if (pt_val (pe_callB call_isi (by rfl) T.isi (by decide +kernel) (pa_cons (pv 0) (pa_cons (pe_bltn (v := .ty "tuple") (u := .type "tuple") (by rfl) T.tup (by decide +kernel) rfl) pa_nil))))
        (pss_one (ps_ret (pe_callTy call_tuple_of (by rfl) T.tup (by decide +kernel) (pa_cons (pe_lc (own := [("part", 1)]) rfl scC.nd (pi_tup (pv 0)) (blkOk_by (N := ["value", "part", "key"]) (sc := defScope sCop) (by decide +kernel)) (fun _ _ _ _ _ => pg_name (i := 1) scC.nd rfl (Or.inl rfl)) (fun _ _ _ _ _ => pts_nil)
          (fun _ _ _ _ _ => pe_call G hr rfl gC F.kp bC .nil pass0 (pa_cons (pv 1) pa_nil))) pa_nil)))) pss_nil)
      (pss_cons (ps_if (pt_val (pe_callB call_isi (by rfl) T.isi (by decide +kernel) (pa_cons (pv 0) (pa_cons (pe_bltn (v := .ty "dict") (u := .type "dict") (by rfl) T.dct (by decide +kernel) rfl) pa_nil))))
        (pss_one (ps_ret (pe_lock (pe_dc (own := [("key", 2)]) rfl scC.nd (pi_keys (pv 0)) (blkOk_by (N := ["value", "part", "key"]) (sc := defScope sCop) (by decide +kernel)) (fun _ _ _ _ _ => pg_name (i := 2) scC.nd rfl (Or.inl rfl)) (fun _ _ _ _ _ => pts_nil)
          (fun _ _ _ _ _ => pv 2) (fun _ _ _ _ _ => pe_call G hr rfl gC F.kp bC .nil pass0 (pa_cons (pe_dget un (pv 0) (pv 2) (fun _ _ => rfl)) pa_nil)))))) pss_nil)
      (pss_one (ps_ret (pv 0))))), ?_⟩
    cases hd with
    | «at» h =>
      obtain ⟨t, ht, ty⟩ := h.ty (K := K) (H := H)
      have k1 : kitB t "list" = some false := by rcases ht with rfl | rfl | rfl | rfl <;> decide +kernel
      have k2 : kitB t "tuple" = some false := by rcases ht with rfl | rfl | rfl | rfl <;> decide +kernel
      have k3 : kitB t "dict" = some false := by rcases ht with rfl | rfl | rfl | rfl <;> decide +kernel
      refine isi_if (x := v) rfl ty k1 (iteF ?_)
      refine isi_if (x := v) rfl ty k2 (iteF ?_)
      refine isi_if (x := v) rfl ty k3 (iteF ?_)
      exact ⟨_, rfl, q _ _ (Same.refl _) (.at h)⟩
    | @lst a xs ds sa e hl h =>
      unfold PyData.depth at hdep
      obtain ⟨m, rfl⟩ : ∃ m, n = m + 1 := ⟨n - 1, by omega⟩
      refine isi_if (x := .ref a) (n := "list") (r := true) rfl (.base (.lst e)) (by decide +kernel) (iteT ?_)
      refine ⟨_, rfl, a, rfl, ⟨xs, SqL.of e⟩, fun D hD => lc_list (PvC H D ds) (PvC.zero hD) (fun i H' _ p => SqL.of (p.1 _ _ e)) (fun i x H3 hx p => ?_) (fun H5 p => ?_)⟩
      · exact ⟨rfl, _, rfl, PvC.one hD hl h (by omega) hx p⟩
      · obtain ⟨sm, acc, hD5, hlen, da⟩ := p.all h
        exact q _ _ sm (.lst hD hD5 (by omega) (da.mv (fun _ z => z.1) fun _ _ _ z => z))
    | @tup a xs ds sa e hl h =>
      unfold PyData.depth at hdep
      obtain ⟨m, rfl⟩ : ∃ m, n = m + 1 := ⟨n - 1, by omega⟩
      refine isi_if (x := .ref a) (n := "tuple") (r := false) rfl (.base (.tup e)) (by decide +kernel) (iteF ?_)
      refine isi_if (x := .ref a) (n := "tuple") (r := true) rfl (.base (.tup e)) (by decide +kernel) (iteT ?_)
      refine ⟨_, rfl, a, rfl, ⟨xs, SqT.of e⟩, fun D hD => lc_tup (PvC H D ds) (PvC.zero hD) (fun i H' _ p => SqT.of (p.1 _ _ e)) (fun i x H3 hx p => ?_) (fun H5 p => ?_)⟩
      · exact ⟨rfl, _, rfl, PvC.one hD hl h (by omega) hx p⟩
      · obtain ⟨sm, acc, hD5, hlen, da⟩ := p.all h
        refine ⟨D, acc, rfl, .inl ⟨SqL.of hD5, fun l hn => q _ _ (same_put (sm.free hn) sm) (.tup (sm.free hn) upd_same (by omega) (da.mv (fun _ z => z.1) fun b o s z => ?_))⟩⟩
        rw [upd_ne (ne_of_none z hn)]
        exact z
    | @dic0 a sa e =>
      refine isi_if (x := .ref a) (n := "dict") (r := false) rfl (.base (.dK e)) (by decide +kernel) (iteF ?_)
      refine isi_if (x := .ref a) (n := "dict") (r := false) rfl (.base (.dK e)) (by decide +kernel) (iteF ?_)
      refine isi_if (x := .ref a) (n := "dict") (r := true) rfl (.base (.dK e)) (by decide +kernel) (iteT ?_)
      refine ⟨a, .dK [], e, True.intro, fun od => ⟨_, rfl, a, od, rfl, .inl ⟨[], upd_same, fun D hD => dc_keys (fun _ H' => Same (upd H a (.frz od (.dK []))) H' ∧ H' D = some (.dK [])) ⟨same_upd hD, upd_same⟩ (fun i H' p => p.1 _ _ upd_same) (fun i k v H3 hx p => by simp at hx) (fun H5 p => ?_)⟩⟩⟩
      have hDa : D ≠ a := fun z => by rw [z, upd_same] at hD; cases hD
      rw [upd_ne hDa] at hD
      exact ⟨p.1 _ _ upd_same, q _ _ (unlock_same e p.1) (.dic0 hD (by rw [upd_ne hDa]; exact p.2))⟩
    | @dic1 a k v d sa e h =>
      have hdk : At v d → d.depth = 0 := fun z => by cases z <;> rfl
      obtain ⟨m, rfl⟩ : ∃ m, n = m + 1 := ⟨n - 1, by
        have z : 1 ≤ PyData.depth (.dict [(kD k, d)]) := by
          unfold PyData.depth
          omega
        omega⟩
      refine isi_if (x := .ref a) (n := "dict") (r := false) rfl (.base (.dK e)) (by decide +kernel) (iteF ?_)
      refine isi_if (x := .ref a) (n := "dict") (r := false) rfl (.base (.dK e)) (by decide +kernel) (iteF ?_)
      refine isi_if (x := .ref a) (n := "dict") (r := true) rfl (.base (.dK e)) (by decide +kernel) (iteT ?_)
      refine ⟨a, .dK [(k, v)], e, True.intro, fun od => ⟨_, rfl, a, od, rfl, .inl ⟨[(k, v)], upd_same, fun D hD => dc_keys (fun i H' => Same (upd H a (.frz od (.dK [(k, v)]))) H' ∧ ((i = 0 ∧ H' D = some (.dK [])) ∨ (i = 1 ∧ ∃ v', H' D = some (.dK [(k, v')]) ∧ At v' d)))
        ⟨same_upd hD, .inl ⟨rfl, upd_same⟩⟩ (fun i H' p => p.1 _ _ upd_same) (fun i k' v0 H3 hx p => ?_) (fun H5 p => ?_)⟩⟩⟩
      · cases i with
        | succ i => simp at hx
        | zero =>
          obtain ⟨rfl, rfl⟩ : k = k' ∧ v = v0 := by simpa using hx
          obtain ⟨sm, ⟨_, hD3⟩ | ⟨z, _⟩⟩ := p
          · refine ⟨rfl, _, rfl, _, rfl, _, rfl, a, v, rfl, .inl ⟨[(k, v)], k, .inr ⟨od, sm _ _ upd_same⟩, rfl, ?_⟩, fun _ => True, v, d, rfl, .at h, by rw [hdk h]; exact Nat.zero_le _, fun H4 v' sm4 dt4 => ⟨[], k, rfl, sm4 _ _ hD3, by decide, same_put hD (sm.trans sm4), .inr ⟨rfl, v', ?_, h.of dt4⟩⟩⟩
            · unfold valV
              simp
            · exact upd_same
          · cases z
      · have hDa : D ≠ a := fun z => by rw [z, upd_same] at hD; cases hD
        rw [upd_ne hDa] at hD
        obtain ⟨sm, ⟨z, _⟩ | ⟨_, v', hD5, h5⟩⟩ := p
        · cases z
        · exact ⟨sm _ _ upd_same, q _ _ (unlock_same e sm) (.dic1 hD (by rw [upd_ne hDa]; exact hD5) h5)⟩
end
end OM

namespace OM
open PySem PySem.Spec PyProof.Rows L2
/-- the type of a datum, by name -/
def tyN : PyData → String
  | .none => "NoneType"
  | .bool _ => "bool"
  | .int _ => "int"
  | .str _ => "str"
  | .list _ => "list"
  | .tuple _ => "tuple"
  | .dict _ => "dict"
theorem Dt.tyx {K : PySem.W.Frag} {S : Addr → Prop} {H : Hp} {v : V} {d : PyData} (h : Dt S H v d) : TyX K H v (.type (tyN d)) := by
  cases h with
  | «at» a =>
    cases a with
    | non => exact .base .non
    | bl b => exact .base (.bl b)
    | int i => exact .base (.int i)
    | str x => exact .base (.str x)
  | lst s e hl h => exact .base (.lst e)
  | tup s e hl h => exact .base (.tup e)
  | dic0 s e => exact .base (.dK e)
  | dic1 s e h => exact .base (.dK e)
def isStrD : PyData → Bool
  | .str _ => true
  | _ => false
def isTupD : PyData → Bool
  | .tuple _ => true
  | _ => false
theorem kit_str (d : PyData) : kitB (tyN d) "str" = some (isStrD d) := by
  have k0 : kitB "NoneType" "str" = some false := by decide +kernel
  have k1 : kitB "bool" "str" = some false := by decide +kernel
  have k2 : kitB "int" "str" = some false := by decide +kernel
  have k3 : kitB "str" "str" = some true := by decide +kernel
  have k4 : kitB "list" "str" = some false := by decide +kernel
  have k5 : kitB "tuple" "str" = some false := by decide +kernel
  have k6 : kitB "dict" "str" = some false := by decide +kernel
  cases d <;> assumption
theorem kit_tup (d : PyData) : kitB (tyN d) "tuple" = some (isTupD d) := by
  have k0 : kitB "NoneType" "tuple" = some false := by decide +kernel
  have k1 : kitB "bool" "tuple" = some false := by decide +kernel
  have k2 : kitB "int" "tuple" = some false := by decide +kernel
  have k3 : kitB "str" "tuple" = some false := by decide +kernel
  have k4 : kitB "list" "tuple" = some false := by decide +kernel
  have k5 : kitB "tuple" "tuple" = some true := by decide +kernel
  have k6 : kitB "dict" "tuple" = some false := by decide +kernel
  cases d <;> assumption
/-- if isinstance(x, T): .. as a value -/
theorem isi_te {K : PySem.W.Frag} {σ : L2.St} {i : Nat} {H : Hp} {x : V} {n m : String} {r : Bool} {Q : VK} (hv : σ[i]? = some (some x)) (ty : TyX K H x (.type n)) (h : kitB n m = some r) (q : Q (.bl r) H) : tCB (rIsi K) (tCons (tVar i) (tCons (tC (.ty m)) tNil)) σ H Q := by
  refine ⟨x, hv, ?_⟩
  exact (show rIsi K [x, .ty m] H Q from isi_b ty h q)
/-! ### names -/
def letS (x : Str) : Bool := x.cps.toList.all fun c => decide (97 ≤ c) && decide (c ≤ 122)
def words6 : List Str := ["else", "end", "get", "if", "put", "show"]
def nameS (x : Str) : Bool := decide (1 ≤ x.length) && (decide (x.length ≤ 8) && (letS x && !words6.contains x))
def isNameD : PyData → Bool
  | .str x => nameS x
  | _ => false

mutual
def smlD : PyData → Bool
  | .str x => decide (x.length ≤ 1000) && PyData.strOk x
  | .list xs => smlAll xs
  | .tuple xs => smlAll xs
  | _ => true
def smlAll : List PyData → Bool
  | [] => true
  | x :: r => smlD x && smlAll r
end
theorem sml_get : ∀ {ds : List PyData} {i : Nat} {d : PyData}, smlAll ds = true → ds[i]? = some d → smlD d = true
  | [], _, _, _, e => by simp at e
  | x :: r, 0, d, h, e => by
    simp at e
    subst e
    unfold smlAll at h
    exact (Bool.and_eq_true_iff.mp h).1
  | x :: r, i + 1, d, h, e => by
    unfold smlAll at h
    exact sml_get (Bool.and_eq_true_iff.mp h).2 (by simpa using e)
/-- over a text's signs -/
theorem lc_its {x : Str} {g : TG} {tt : TT} {te : TE} {vs : List Nat} {σ : L2.St} {H1 : Hp} {D : Addr} {Qd : Hp → Prop} (Pv : Nat → Hp → Prop) (h0 : Pv 0 (upd H1 D (.lst [])))
    (hs : ∀ i c H, x.cps.toList[i]? = some c → Pv i H → g (.str ⟨#[c]⟩) (wipe σ vs) H fun σ2 H2 => wipe σ2 vs = wipe σ vs ∧ tt σ2 H2 fun b H3 =>
      if b = true then te σ2 H3 fun y H4 => ∃ acc, H4 D = some (.lst acc) ∧ acc.length < sizeLine ∧ Pv (i + 1) (upd H4 D (.lst (acc ++ [y]))) else Pv (i + 1) H3) (hd : ∀ H, Pv x.cps.toList.length H → Qd H) :
    ∃ W : Nat → Nat → Hp → Prop, (∃ m, W 0 m (upd H1 D (.lst []))) ∧ ∀ i m H, W i m H →
      ((Its x).stop i H ∧ Qd H) ∨ ((Its x).go i H ∧ ∃ Nx : Hp → Prop, (∀ H', Nx H' → ∃ m', m' < m ∧ W (i + 1) m' H') ∧ ∀ v H', (Its x).yld i H v H' → g v (wipe σ vs) H' fun σ2 H2 => wipe σ2 vs = wipe σ vs ∧ tt σ2 H2 fun b H3 =>
        if b = true then te σ2 H3 fun y H4 => ∃ acc, H4 D = some (.lst acc) ∧ acc.length < sizeLine ∧ Nx (upd H4 D (.lst (acc ++ [y]))) else Nx H3) := by
  have hsz : x.cps.toList.length = x.cps.size := Array.length_toList
  refine ⟨fun i m H => i ≤ x.cps.size ∧ m = x.cps.size - i ∧ Pv i H, ⟨_, Nat.zero_le _, rfl, h0⟩, ?_⟩
  rintro i m H ⟨hi, rfl, p⟩
  rcases Nat.lt_or_ge i x.cps.size with hlt | hge
  · refine .inr ⟨hlt, Pv (i + 1), fun H' p' => ⟨x.cps.size - (i + 1), by omega, hlt, rfl, p'⟩, ?_⟩
    rintro v H' ⟨rfl, c, hc, rfl⟩
    exact hs i c _ (by rw [Array.getElem?_toList]; exact hc) p
  · obtain rfl : i = x.cps.size := by omega
    exact .inl ⟨Nat.le_refl _, hd H (by rw [hsz]; exact p)⟩
end OM

namespace OM
open PySem PySem.Spec PyProof.Rows L2
abbrev sIsName : Stmt := top 24
def alphabet : Str := "abcdefghijklmnopqrstuvwxyz"
theorem alpha_tl : alphabet.cps.toList = [97, 98, 99, 100, 101, 102, 103, 104, 105, 106, 107, 108, 109, 110, 111, 112, 113, 114, 115, 116, 117, 118, 119, 120, 121, 122] := by decide +kernel
theorem in_alpha (c : Nat) : (!(Builtin.Str.occurrences alphabet ⟨#[c]⟩ 0 alphabet.length 1).isEmpty) = (decide (97 ≤ c) && decide (c ≤ 122)) := by
  rw [StrLaws.found_one, alpha_tl, Bool.eq_iff_iff]
  simp only [decide_eq_true_eq, Bool.and_eq_true, List.mem_cons, List.not_mem_nil, or_false]
  omega
/-- a word among the six -/
theorem inV_words (x : Str) : inV (.str x) (words6.map V.str) = words6.contains x := by
  have h : ∀ y : Str, (y == x) = (x == y) := fun y => by rw [Bool.eq_iff_iff, beq_iff_eq, beq_iff_eq, eq_comm]
  unfold inV words6
  simp only [List.map_cons, List.map_nil, List.any_cons, List.any_nil, List.contains_cons, List.contains_nil, eqV, h]
/-- constants of the module, as values -/
structure TxtN (K : PySem.W.Frag) (mg : Str → Option Value) : Prop where
  isi : mg "isinstance" = none
  str : mg "str" = none
  len : mg "len" = none
  all : mg "all" = none
  most : ∃ t, mg "MAX_LETTERS" = some (.int 8 t)
  lets : ∃ t, mg "LETTERS" = some (.str alphabet t)
  words : ∃ a, mg "WORDS" = some (.ref a) ∧ ∀ H, SqT K H a (words6.map V.str)
def spName : Sp := fun vs H Q _ => ∃ (S : Addr → Prop) (v : V) (d : PyData), vs = [v] ∧ Dt S H v d ∧ smlD d = true ∧ ∀ H', Same H H' → Q (.bl (isNameD d)) H'
def let1 (c : Nat) : Bool := decide (97 ≤ c) && decide (c ≤ 122)
theorem letS_map (x : Str) : ((x.cps.toList.map let1).all id) = letS x := by
  unfold letS
  rw [List.all_map]
  rfl
theorem name_yes {x : Str} (h1 : decide ((1 : Int) ≤ (x.length : Int)) = true) (h2 : decide ((x.length : Int) ≤ 8) = true) (h3 : (x.cps.toList.map let1).all id = true) : isNameD (.str x) = !inV (.str x) (words6.map V.str) := by
  have e1 := of_decide_eq_true h1
  have e2 := of_decide_eq_true h2
  rw [letS_map] at h3
  show nameS x = _
  unfold nameS
  rw [h3, decide_eq_true (show 1 ≤ x.length by omega), decide_eq_true (show x.length ≤ 8 by omega), inV_words]
  rfl
theorem name_no {x : Str} (h : ¬ decide ((1 : Int) ≤ (x.length : Int)) = true ∨ ¬ decide ((x.length : Int) ≤ 8) = true ∨ ¬ (x.cps.toList.map let1).all id = true) : isNameD (.str x) = false := by
  show nameS x = _
  unfold nameS
  rcases h with h | h | h
  · have : ¬ 1 ≤ x.length := fun z => h (decide_eq_true (by omega))
    rw [decide_eq_false this]
    rfl
  · have : ¬ x.length ≤ 8 := fun z => h (decide_eq_true (by omega))
    rw [decide_eq_false this, Bool.false_and, Bool.and_false]
  · rw [letS_map] at h
    have : letS x = false := by
      cases y : letS x with
      | false => rfl
      | true => exact absurd y h
    rw [this, Bool.false_and, Bool.and_false, Bool.and_false]
def PvN (H : Hp) (D : Addr) (x : Str) (i : Nat) (H' : Hp) : Prop := Same H H' ∧ H' D = some (.lst (((x.cps.toList.take i).map let1).map V.bl))
theorem PvN.step {H H4 : Hp} {D : Addr} {x : Str} {i c : Nat} {b : Bool} (hD : H D = none) (hl : x.length ≤ 1000) (hc : x.cps.toList[i]? = some c) (p : PvN H D x i H4) (hb : b = let1 c) : ∃ acc, H4 D = some (.lst acc) ∧ acc.length < sizeLine ∧ PvN H D x (i + 1) (upd H4 D (.lst (acc ++ [V.bl b]))) := by
  refine ⟨_, p.2, ?_, same_put hD p.1, ?_⟩
  · have hz : x.cps.toList.length = x.length := Array.length_toList
    rw [List.length_map, List.length_map, List.length_take]
    have : (1000 : Nat) < sizeLine := by decide
    omega
  · rw [upd_same, hb, List.take_add_one, hc, List.map_append, List.map_append]
    rfl
theorem PvN.all {H H5 : Hp} {D : Addr} {x : Str} (p : PvN H D x x.cps.toList.length H5) : Same H H5 ∧ H5 D = some (.lst ((x.cps.toList.map let1).map V.bl)) := by
  have e := p.2
  rw [List.take_length] at e
  exact ⟨p.1, e⟩
section
variable {P : Program} {w : World} {K : PySem.W.Frag} {mg : Str → Option Value} {base : Heap} {f : Addr} {fd : FuncData}
theorem scN : FnScope ["value", "letter"] ["value"] (defScope sIsName) := ⟨rfl, rfl, rfl, by decide +kernel, rfl, by decide +kernel, by decide +kernel⟩
theorem ok_isname (F : Fun K "is_name" "is_name" sIsName f fd) (T : TxtN K mg) : FnOk P w K mg base CX0 1 f fd ["value"] spName := by
  refine F.ok scN (fun vs H Q E h => ?_) (fun cdv A outer s H vs Q E hr h => ?_)
  · obtain ⟨S, v, d, rfl, _⟩ := h
    rfl
  · obtain ⟨S, v, d, rfl, hd, sm, q⟩ := h
    obtain ⟨t1, g1⟩ := T.most
    obtain ⟨t2, g2⟩ := T.lets
    obtain ⟨aw, g3, hw⟩ := T.words
    refine ⟨_, pss_one (ps_ret (pe_and (pe_callB call_isi (by rfl) T.isi (by decide +kernel) (pa_cons (pv 0) (pa_cons (pe_bltn (v := .ty "str") (u := .type "str") (by rfl) T.str (by decide +kernel) rfl) pa_nil)))
      (pe_and (pe_chain op_le op_le pe_int (pe_callB call_len_str (by rfl) T.len PySem.boot_len (pa_cons (pv 0) pa_nil)) (pe_glob (v := .int 8) (by rfl) g1 ⟨t1, rfl⟩))
      (pe_and (pe_callB (cr_all rfl) (by rfl) T.all (by decide +kernel) (pa_cons (pe_lc (own := [("letter", 1)]) rfl scN.nd (pi_str (pv 0)) (blkOk_by (N := ["value", "letter"]) (sc := defScope sIsName) (by decide +kernel))
          (fun _ _ _ _ _ => pg_name (i := 1) scN.nd rfl (Or.inl rfl)) (fun _ _ _ _ _ => pts_nil) (fun _ _ _ _ _ => pe_cmpR op_in_str (pv 1) (pe_glob (v := .str alphabet) (by rfl) g2 ⟨t2, rfl⟩) (by rfl))) pa_nil))
      (pe_one (pe_cmpR op_notIn_seq (pv 0) (pe_glob (v := .ref aw) (by rfl) g3 rfl) (by rfl))))))), ?_⟩
    cases hs : isStrD d with
    | false =>
      have e : isNameD d = false := by cases d <;> first | rfl | cases hs
      refine isi_te (x := v) rfl hd.tyx ((kit_str d).trans (congrArg some hs)) ⟨_, rfl, iteF ?_⟩
      have z := q H (Same.refl _)
      rw [e] at z
      exact z
    | true =>
      cases d with
      | str x =>
        have ev : v = .str x := by
          cases hd with
          | «at» a => cases a <;> rfl
        subst ev
        have hl : x.length ≤ 1000 := of_decide_eq_true (Bool.and_eq_true_iff.mp (show (decide (x.length ≤ 1000) && PyData.strOk x) = true by unfold smlD at sm; exact sm)).1
        refine isi_te (x := .str x) rfl hd.tyx ((kit_str (.str x)).trans rfl) ⟨_, rfl, iteT ?_⟩
        refine ⟨_, rfl, x, rfl, Nat.le_trans hl (by decide), 1, (x.length : Int), rfl, rfl, _, rfl, ite2 (fun h1 => ?_) (fun h1 => ?_)⟩
        · refine ⟨(x.length : Int), 8, rfl, rfl, _, rfl, ite2 (fun h2 => ?_) (fun h2 => ?_)⟩
          · refine ⟨_, rfl, x, rfl, fun Dl hD => lc_its (PvN H Dl x) ⟨same_upd hD, upd_same⟩ (fun i c H3 hc p => ?_) (fun H5 p => ?_)⟩
            · refine ⟨rfl, _, rfl, ⟨#[c]⟩, alphabet, rfl, rfl, p.step hD hl hc (in_alpha c)⟩
            · obtain ⟨s5, e5⟩ := p.all
              refine ⟨Dl, _, rfl, SqL.of e5, _, rfl, ite2 (fun h3 => ?_) (fun h3 => ?_)⟩
              · refine ⟨_, rfl, aw, _, rfl, .inr (hw _), rfl, by decide, ?_⟩
                have z := q _ s5
                rw [show isNameD (.str x) = !inV (.str x) (words6.map V.str) from name_yes h1 h2 h3] at z
                exact z
              · have z := q _ s5
                rw [show isNameD (.str x) = false from name_no (.inr (.inr h3))] at z
                exact z
          · have z := q H (Same.refl _)
            rw [show isNameD (.str x) = false from name_no (.inr (.inl h2))] at z
            exact z
        · refine ⟨_, rfl, iteF ?_⟩
          have z := q H (Same.refl _)
          rw [show isNameD (.str x) = false from name_no (.inl h1)] at z
          exact z
      | _ => cases hs
end
end OM

/-! Values as lists of code points: words and signs in turn and nested, and the reading from the left. -/
namespace OM.VL
def letC (c : Nat) : Bool := decide (97 ≤ c) && decide (c ≤ 122)
def digC (c : Nat) : Bool := decide (48 ≤ c) && decide (c ≤ 57)
def getL : List Nat := [103, 101, 116]
def wordsL : List (List Nat) := [[101, 108, 115, 101], [101, 110, 100], getL, [105, 102], [112, 117, 116], [115, 104, 111, 119]]
def nameL (w : List Nat) : Bool := decide (1 ≤ w.length) && (decide (w.length ≤ 8) && (w.all letC && !wordsL.contains w))
def numOk (n : List Nat) : Bool := !n.isEmpty && (n.head? != some 48 && n.all digC)
def atomL (w : List Nat) : Bool := match w.dropWhile (· != 46) with
  | [] => nameL w
  | _ :: num => (nameL (w.takeWhile (· != 46)) || w.takeWhile (· != 46) == getL) && numOk num
/-- a word ahead of the rest, if there is one -/
def fl (acc : List Nat) (l : List (List Nat)) : List (List Nat) := if acc = [] then l else acc :: l
/-- where a word ends -/
def cut : List Nat → List Nat × List Nat
  | [] => ([], [])
  | 44 :: 32 :: r => ([], 44 :: 32 :: r)
  | c :: r => if c = 40 ∨ c = 41 then ([], c :: r) else (c :: (cut r).1, (cut r).2)
def toks (acc : List Nat) : List Nat → List (List Nat)
  | [] => fl acc []
  | 44 :: 32 :: r => fl acc ([44, 32] :: toks [] r)
  | c :: r => if c = 40 ∨ c = 41 then fl acc ([c] :: toks [] r) else toks (acc ++ [c]) r
inductive Kd | fn | op | cl | cm | at | wr
deriving DecidableEq
def kindOf (p after : List Nat) : Kd :=
  if p = [40] then .op else if p = [41] then .cl else if p = [44, 32] then .cm else
    if after = [40] then (if nameL p then .fn else .wr) else if atomL p then .at else .wr
def kinds : List (List Nat) → List Kd
  | [] => []
  | p :: r => kindOf p (r.headD []) :: kinds r
/-- what may stand behind what: none is the start, and the end -/
def fol : Option Kd → Option Kd → Bool
  | none, some .fn => true
  | none, some .at => true
  | some .fn, some .op => true
  | some .op, some .fn => true
  | some .op, some .at => true
  | some .op, some .cl => true
  | some .cm, some .fn => true
  | some .cm, some .at => true
  | some .at, some .cm => true
  | some .at, some .cl => true
  | some .at, none => true
  | some .cl, some .cm => true
  | some .cl, some .cl => true
  | some .cl, none => true
  | _, _ => false
def turn (prev : Option Kd) : List Kd → Bool
  | [] => fol prev none
  | k :: r => fol prev (some k) && turn (some k) r
def nest : List Nat → List Kd → Bool
  | st, [] => st.isEmpty
  | st, .op :: r => nest (0 :: st) r
  | [], .cl :: _ => false
  | _ :: st, .cl :: r => nest st r
  | [], .cm :: _ => false
  | c :: st, .cm :: r => if c = 1 then false else nest ((c + 1) :: st) r
  | st, .fn :: r => nest st r
  | st, .at :: r => nest st r
  | st, .wr :: r => nest st r
abbrev KS (l : List Nat) : List Kd := kinds (toks [] l)
def valueL (l : List Nat) : Bool := turn none (KS l) && nest [] (KS l)
/-- the reading from the left: what stands behind the value that begins here -/
def E : Nat → List Nat → Option (List Nat)
  | 0, _ => none
  | n + 1, l =>
    let w := l.takeWhile letC
    let r := l.dropWhile letC
    if w.isEmpty || decide (8 < w.length) then none
    else if wordsL.contains w && (w != getL || r.head? != some 46) then none
    else match r with
      | 46 :: r' => if (r'.takeWhile digC).isEmpty || r'.head? == some 48 then none else some (r'.dropWhile digC)
      | 40 :: 41 :: r' => some r'
      | 40 :: r' => match E n r' with
        | some (41 :: r2) => some r2
        | some (44 :: 32 :: r2) => match E n r2 with
          | some (41 :: r3) => some r3
          | _ => none
        | _ => none
      | r => some r
/-! words -/
theorem toks_cm {acc r : List Nat} : toks acc (44 :: 32 :: r) = fl acc ([44, 32] :: toks [] r) := by rw [toks]
theorem toks_d {acc r : List Nat} {c : Nat} (h : c = 40 ∨ c = 41) : toks acc (c :: r) = fl acc ([c] :: toks [] r) := by
  rw [toks.eq_def]
  split
  · rename_i e
    cases e
  · rename_i e
    cases e
    omega
  · rename_i e
    cases e
    exact if_pos h
theorem toks_o {acc r : List Nat} {c : Nat} (h : ¬ (c = 40 ∨ c = 41)) (h2 : ∀ r', c = 44 → r ≠ 32 :: r') : toks acc (c :: r) = toks (acc ++ [c]) r := by
  rw [toks.eq_def]
  split
  · rename_i e
    cases e
  · rename_i e
    cases e
    exact absurd rfl (h2 _ rfl)
  · rename_i e
    cases e
    exact if_neg h
theorem cut_cm {r : List Nat} : cut (44 :: 32 :: r) = ([], 44 :: 32 :: r) := by rw [cut]
theorem cut_d {r : List Nat} {c : Nat} (h : c = 40 ∨ c = 41) : cut (c :: r) = ([], c :: r) := by
  rw [cut.eq_def]
  split
  · rename_i e
    cases e
  · rename_i e
    cases e
    omega
  · rename_i e
    cases e
    exact if_pos h
theorem cut_o {r : List Nat} {c : Nat} (h : ¬ (c = 40 ∨ c = 41)) (h2 : ∀ r', c = 44 → r ≠ 32 :: r') : cut (c :: r) = (c :: (cut r).1, (cut r).2) := by
  rw [cut.eq_def]
  split
  · rename_i e
    cases e
  · rename_i e
    cases e
    exact absurd rfl (h2 _ rfl)
  · rename_i e
    cases e
    exact if_neg h
/-- three ways in which a text may go on -/
theorem way (c : Nat) (r : List Nat) : (c = 40 ∨ c = 41) ∨ (∃ r', c = 44 ∧ r = 32 :: r') ∨ (¬ (c = 40 ∨ c = 41) ∧ ∀ r', c = 44 → r ≠ 32 :: r') := by
  by_cases h : c = 40 ∨ c = 41
  · exact .inl h
  · by_cases h2 : ∃ r', c = 44 ∧ r = 32 :: r'
    · exact .inr (.inl h2)
    · exact .inr (.inr ⟨h, fun r' e1 e2 => h2 ⟨r', e1, e2⟩⟩)
theorem fl_cons {acc : List Nat} {x : List Nat} {l : List (List Nat)} : fl [] l = l := rfl
theorem toks_cut : ∀ (l acc : List Nat), toks acc l = fl (acc ++ (cut l).1) (toks [] (cut l).2)
  | [], acc => by
    show fl acc [] = fl (acc ++ []) (fl [] [])
    rw [List.append_nil]
    rfl
  | c :: r, acc => by
    rcases way c r with h | ⟨r', rfl, rfl⟩ | ⟨h, h2⟩
    · rw [toks_d h, cut_d h, toks_d h, List.append_nil]
      rfl
    · rw [toks_cm, cut_cm, toks_cm, List.append_nil]
      rfl
    · rw [toks_o h h2, cut_o h h2, toks_cut r (acc ++ [c]), List.append_assoc]
      rfl
/-- nothing, or a sign -/
def dl : List Nat → Bool
  | [] => true
  | 44 :: 32 :: _ => true
  | c :: _ => decide (c = 40 ∨ c = 41)
theorem dl_o {r : List Nat} {c : Nat} (h : ¬ (c = 40 ∨ c = 41)) (h2 : ∀ r', c = 44 → r ≠ 32 :: r') : dl (c :: r) = false := by
  rw [dl.eq_def]
  split
  · rename_i e
    cases e
  · rename_i e
    cases e
    exact absurd rfl (h2 _ rfl)
  · rename_i e
    cases e
    exact decide_eq_false h
theorem dl_d {r : List Nat} {c : Nat} (h : c = 40 ∨ c = 41) : dl (c :: r) = true := by
  rcases h with rfl | rfl <;> rfl
/-- no sign in the word, whatever stands behind: no tail of it, with what follows, begins with a sign -/
def Free (u d : List Nat) : Prop := ∀ a b : List Nat, u = a ++ b → b ≠ [] → dl (b ++ d) = false
theorem cut_spec : ∀ l : List Nat, l = (cut l).1 ++ (cut l).2 ∧ dl (cut l).2 = true ∧ Free (cut l).1 (cut l).2
  | [] => ⟨rfl, rfl, fun a b e n => absurd (List.append_eq_nil_iff.mp e.symm).2 n⟩
  | c :: r => by
    rcases way c r with h | ⟨r', rfl, rfl⟩ | ⟨h, h2⟩
    · rw [cut_d h]
      exact ⟨rfl, dl_d h, fun a b e n => absurd (List.append_eq_nil_iff.mp e.symm).2 n⟩
    · rw [cut_cm]
      exact ⟨rfl, rfl, fun a b e n => absurd (List.append_eq_nil_iff.mp e.symm).2 n⟩
    · rw [cut_o h h2]
      obtain ⟨e1, e2, e3⟩ := cut_spec r
      refine ⟨congrArg (c :: ·) e1, e2, fun a b e n => ?_⟩
      cases a with
      | nil =>
        rw [List.nil_append] at e
        subst e
        show dl (c :: ((cut r).1 ++ (cut r).2)) = false
        rw [← e1]
        exact dl_o h h2
      | cons x a =>
        injection e with _ e
        exact e3 a b e n
theorem Free.head {c : Nat} {u d : List Nat} (F : Free (c :: u) d) : c ≠ 40 ∧ c ≠ 41 ∧ dl (c :: (u ++ d)) = false := by
  have h := F [] (c :: u) rfl (by simp)
  refine ⟨fun z => ?_, fun z => ?_, h⟩
  · subst z
    cases h
  · subst z
    cases h
theorem Free.tail {a b d : List Nat} (F : Free (a ++ b) d) : Free b d := fun x y e n => F (a ++ x) y (by rw [e, List.append_assoc]) n
/-- what comes of a text: its first word, and the rest -/
theorem KS_cut (l : List Nat) : KS l = if (cut l).1 = [] then KS (cut l).2 else kindOf (cut l).1 ((toks [] (cut l).2).headD []) :: KS (cut l).2 := by
  show kinds (toks [] l) = _
  rw [toks_cut l []]
  show kinds (fl (cut l).1 _) = _
  unfold fl
  split
  · rfl
  · rfl
theorem KS_nil : KS [] = [] := rfl
theorem KS_op (r : List Nat) : KS (40 :: r) = .op :: KS r := by
  show kinds (toks [] (40 :: r)) = _
  rw [toks_d (.inl rfl)]
  rfl
theorem KS_cl (r : List Nat) : KS (41 :: r) = .cl :: KS r := by
  show kinds (toks [] (41 :: r)) = _
  rw [toks_d (.inr rfl)]
  rfl
theorem KS_cm (r : List Nat) : KS (44 :: 32 :: r) = .cm :: KS r := by
  show kinds (toks [] (44 :: 32 :: r)) = _
  rw [toks_cm]
  rfl
/-- what may follow a value -/
def F (r : List Nat) : Bool := dl r && (r.head? != some 40)
/-- the kind of a word -/
def wk (u d : List Nat) : Kd := if d.head? = some 40 then (if nameL u then .fn else .wr) else if atomL u then .at else .wr
theorem head_d {d : List Nat} (h : dl d = true) : ((toks [] d).headD [] = [40]) ↔ d.head? = some 40 := by
  cases d with
  | nil => decide
  | cons c r =>
    rcases way c r with h1 | ⟨r', rfl, rfl⟩ | ⟨h1, h2⟩
    · rw [toks_d h1]
      show [c] = [40] ↔ some c = some 40
      simp
    · rw [toks_cm]
      show [44, 32] = [40] ↔ some 44 = some 40
      decide
    · rw [dl_o h1 h2] at h
      cases h
theorem kind_u {u d : List Nat} (hu : u ≠ []) (hd : dl d = true) (Fr : Free u d) : kindOf u ((toks [] d).headD []) = wk u d := by
  cases u with
  | nil => exact absurd rfl hu
  | cons c r =>
    obtain ⟨h1, h2, h3⟩ := Fr.head
    have n1 : ¬ (c :: r = [40]) := fun z => h1 (by injection z)
    have n2 : ¬ (c :: r = [41]) := fun z => h2 (by injection z)
    have n3 : ¬ (c :: r = [44, 32]) := fun z => by
      injection z with z1 z2
      rw [z1, z2] at h3
      cases h3
    unfold kindOf wk
    rw [if_neg n1, if_neg n2, if_neg n3]
    by_cases h : d.head? = some 40
    · rw [if_pos h, if_pos ((head_d hd).mpr h)]
    · rw [if_neg h, if_neg (fun z => h ((head_d hd).mp z))]
end OM.VL

namespace OM.VL
/-! the reading from the left, by its parts -/
theorem take_app {p : Nat → Bool} : ∀ {w r : List Nat}, w.all p = true → (∀ c, r.head? = some c → p c = false) → (w ++ r).takeWhile p = w ∧ (w ++ r).dropWhile p = r
  | [], [], _, _ => ⟨rfl, rfl⟩
  | [], c :: r, _, h => by
    have e := h c rfl
    constructor
    · show (c :: r).takeWhile p = []
      rw [List.takeWhile_cons, e]
      rfl
    · show (c :: r).dropWhile p = c :: r
      rw [List.dropWhile_cons, e]
      rfl
  | a :: w, r, hw, h => by
    rw [List.all_cons, Bool.and_eq_true] at hw
    obtain ⟨h1, h2⟩ := take_app (w := w) hw.2 h
    constructor
    · rw [List.cons_append, List.takeWhile_cons, hw.1]
      show a :: (w ++ r).takeWhile p = _
      rw [h1]
    · rw [List.cons_append, List.dropWhile_cons, hw.1]
      exact h2
theorem split_at {p : Nat → Bool} : ∀ u : List Nat, ∃ w r, u = w ++ r ∧ w.all p = true ∧ (∀ c, r.head? = some c → p c = false)
  | [] => ⟨[], [], rfl, rfl, fun c h => by cases h⟩
  | a :: u => by
    cases h : p a with
    | false => exact ⟨[], a :: u, rfl, rfl, fun c e => by cases e; exact h⟩
    | true =>
      obtain ⟨w, r, e, hw, hr⟩ := split_at (p := p) u
      exact ⟨a :: w, r, by rw [e]; rfl, by rw [List.all_cons, h, hw]; rfl, hr⟩
def badW (w r : List Nat) : Bool := (w.isEmpty || decide (8 < w.length)) || (wordsL.contains w && (w != getL || r.head? != some 46))
def ET (n : Nat) : List Nat → Option (List Nat)
  | 46 :: r' => if (r'.takeWhile digC).isEmpty || r'.head? == some 48 then none else some (r'.dropWhile digC)
  | 40 :: 41 :: r' => some r'
  | 40 :: r' => match E n r' with
    | some (41 :: r2) => some r2
    | some (44 :: 32 :: r2) => match E n r2 with
      | some (41 :: r3) => some r3
      | _ => none
    | _ => none
  | r => some r
theorem E_step {n : Nat} {w r : List Nat} (hw : w.all letC = true) (hr : ∀ c, r.head? = some c → letC c = false) : E (n + 1) (w ++ r) = if badW w r = true then none else ET n r := by
  obtain ⟨h1, h2⟩ := take_app hw hr
  rw [E]
  simp only [h1, h2]
  unfold badW
  by_cases b1 : (w.isEmpty || decide (8 < w.length)) = true
  · rw [if_pos b1, b1, Bool.true_or, if_pos rfl]
  · rw [if_neg b1, Bool.eq_false_iff.mpr b1, Bool.false_or]
    by_cases b2 : (wordsL.contains w && (w != getL || r.head? != some 46)) = true
    · rw [if_pos b2, if_pos b2]
    · rw [if_neg b2, if_neg b2]
      rfl
theorem ET_o {n c : Nat} {r : List Nat} (h1 : c ≠ 46) (h2 : c ≠ 40) : ET n (c :: r) = some (c :: r) := by
  unfold ET
  split
  · rename_i e
    cases e
    exact absurd rfl h1
  · rename_i e
    cases e
    exact absurd rfl h2
  · rename_i e
    cases e
    exact absurd rfl h2
  · rfl
theorem ET_nil {n : Nat} : ET n [] = some [] := rfl
theorem ET_par {n : Nat} {r : List Nat} : ET n (40 :: 41 :: r) = some r := rfl
theorem ET_op {n : Nat} {r : List Nat} (h : r.head? ≠ some 41) : ET n (40 :: r) = match E n r with
    | some (41 :: r2) => some r2
    | some (44 :: 32 :: r2) => match E n r2 with
      | some (41 :: r3) => some r3
      | _ => none
    | _ => none := by
  conv => lhs; unfold ET
  split
  · rename_i e
    cases e
  · rename_i e
    cases e
    exact absurd rfl h
  · rename_i e
    cases e
    rfl
  · rename_i h1 h2 h3
    exact absurd rfl (h3 _)
/-! words -/
theorem dl_head {d : List Nat} (h : dl d = true) : d = [] ∨ (∃ r, d = 40 :: r) ∨ (∃ r, d = 41 :: r) ∨ ∃ r, d = 44 :: 32 :: r := by
  cases d with
  | nil => exact .inl rfl
  | cons c r =>
    rcases way c r with h1 | ⟨r', rfl, rfl⟩ | ⟨h1, h2⟩
    · rcases h1 with rfl | rfl
      · exact .inr (.inl ⟨r, rfl⟩)
      · exact .inr (.inr (.inl ⟨r, rfl⟩))
    · exact .inr (.inr (.inr ⟨r', rfl⟩))
    · rw [dl_o h1 h2] at h
      cases h
theorem dl_not {d : List Nat} (h : dl d = true) {p : Nat → Bool} (h1 : p 40 = false) (h2 : p 41 = false) (h3 : p 44 = false) : ∀ c, d.head? = some c → p c = false := by
  intro c e
  rcases dl_head h with rfl | ⟨r, rfl⟩ | ⟨r, rfl⟩ | ⟨r, rfl⟩
  · cases e
  · cases e; exact h1
  · cases e; exact h2
  · cases e; exact h3
theorem bad_iff {w d : List Nat} (hw : w.all letC = true) (hd : d.head? ≠ some 46) : badW w d = !nameL w := by
  unfold badW nameL
  rw [hw]
  have e : (d.head? != some 46) = true := by simpa using hd
  rw [e, Bool.or_true, Bool.and_true, Bool.true_and]
  cases wordsL.contains w with
  | true => simp
  | false =>
    cases w with
    | nil => rfl
    | cons a w =>
      simp
      by_cases h : w.length + 1 ≤ 8
      · have h2 : ¬ (8 < w.length + 1) := by omega
        simp [h, h2]
        omega
      · have h2 : 8 < w.length + 1 := by omega
        simp [h, h2]
        omega
theorem bad_dot {w d : List Nat} (hw : w.all letC = true) (hd : d.head? = some 46) (hb : badW w d = false) : (nameL w || w == getL) = true := by
  unfold badW at hb
  have e : (d.head? != some 46) = false := by rw [hd]; rfl
  rw [e, Bool.or_false, Bool.or_eq_false_iff] at hb
  obtain ⟨h1, h2⟩ := hb
  rw [Bool.or_eq_false_iff] at h1
  obtain ⟨h3, h4⟩ := h1
  cases hg : w == getL with
  | true => rw [Bool.or_true]
  | false =>
    rw [Bool.or_false]
    have h5 : (w != getL) = true := by
      show (!(w == getL)) = true
      rw [hg]
      rfl
    rw [h5, Bool.and_true] at h2
    unfold nameL
    rw [hw, h2]
    have h6 : ¬ (8 < w.length) := of_decide_eq_false h4
    have h7 : 1 ≤ w.length := by
      cases w with
      | nil => cases h3
      | cons a w => simp
    rw [decide_eq_true h7, decide_eq_true (show w.length ≤ 8 by omega)]
    rfl
theorem bad_not {w d : List Nat} (hw : w.all letC = true) (hd : d.head? = some 46) (hb : (nameL w || w == getL) = true) : badW w d = false := by
  have e : (d.head? != some 46) = false := by rw [hd]; rfl
  unfold badW
  rw [e, Bool.or_false]
  rcases Bool.or_eq_true_iff.mp hb with h | h
  · unfold nameL at h
    simp only [Bool.and_eq_true, decide_eq_true_eq, Bool.not_eq_true'] at h
    obtain ⟨h1, h2, _, h3⟩ := h
    rw [h3, Bool.false_and, Bool.or_false, decide_eq_false (show ¬ (8 < w.length) by omega), Bool.or_false]
    cases w with
    | nil => simp at h1
    | cons a w => rfl
  · have h := eq_of_beq h
    subst h
    decide
theorem let46 : letC 46 = false := by decide
/-- no dot: the word is a name or none -/
theorem atom_plain {w : List Nat} (h : ∀ c ∈ w, c ≠ 46) : atomL w = nameL w := by
  have e : w.dropWhile (· != 46) = [] := by
    rw [← List.append_nil w]
    exact (take_app (p := (· != 46)) (w := w) (r := []) (List.all_eq_true.mpr fun c hc => by simpa using h c hc) (fun c e => by cases e)).2
  unfold atomL
  rw [e]
theorem atom_dot {w u : List Nat} (h : ∀ c ∈ w, c ≠ 46) : atomL (w ++ 46 :: u) = ((nameL w || w == getL) && numOk u) := by
  obtain ⟨e1, e2⟩ := take_app (p := (· != 46)) (w := w) (r := 46 :: u) (List.all_eq_true.mpr fun c hc => by simpa using h c hc) (fun c e => by cases e; rfl)
  unfold atomL
  rw [e2, e1]
theorem let_ne {w : List Nat} (hw : w.all letC = true) {x : Nat} (hx : letC x = false) : ∀ c ∈ w, c ≠ x := fun c hc z => by
  have := List.all_eq_true.mp hw c hc
  rw [z, hx] at this
  cases this
theorem name_let {w : List Nat} (h : nameL w = true) : w.all letC = true := by
  unfold nameL at h
  simp only [Bool.and_eq_true] at h
  exact h.2.2.1
/-- the first sign that is no letter, and no dot: no atom -/
theorem atom_bad {w u : List Nat} {c : Nat} (hw : w.all letC = true) (hc : letC c = false) (h : c ≠ 46) : atomL (w ++ c :: u) = false := by
  have nn : ∀ x : List Nat, nameL (w ++ c :: x) = false := fun x => by
    cases e : nameL (w ++ c :: x) with
    | false => rfl
    | true =>
      have := List.all_eq_true.mp (name_let e) c (by simp)
      rw [hc] at this
      cases this
  obtain ⟨a, b, e, ha, hb⟩ := split_at (p := (· != 46)) u
  have all : ∀ x ∈ w ++ c :: a, x ≠ 46 := fun x hx => by
    rcases List.mem_append.mp hx with hx | hx
    · exact let_ne hw let46 x hx
    · rcases List.mem_cons.mp hx with rfl | hx
      · exact h
      · simpa using List.all_eq_true.mp ha x hx
  cases b with
  | nil =>
    rw [List.append_nil] at e
    subst e
    rw [atom_plain all, nn]
  | cons x b =>
    have z := hb x rfl
    have z : x = 46 := by simpa using z
    subst z
    subst e
    have e2 : w ++ c :: (a ++ 46 :: b) = (w ++ c :: a) ++ 46 :: b := by simp
    rw [e2, atom_dot all, nn]
    have ng : (w ++ c :: a == getL) = false := by
      cases g : (w ++ c :: a == getL) with
      | false => rfl
      | true =>
        have g := eq_of_beq g
        have m : c ∈ getL := by rw [← g]; simp
        have : letC c = true := List.all_eq_true.mp (show getL.all letC = true by decide) c m
        rw [hc] at this
        cases this
    rw [ng]
    rfl
theorem F_free {b d : List Nat} (Fr : Free b d) (n : b ≠ []) : F (b ++ d) = false := by
  unfold F
  rw [Fr [] b rfl n]
  rfl
/-- a word that is none: what the reading leaves cannot follow a value -/
theorem E_bad {u d : List Nat} (hu : u ≠ []) (hd : dl d = true) (Fr : Free u d) (h : (d.head? = some 40 ∧ nameL u = false) ∨ (d.head? ≠ some 40 ∧ atomL u = false)) (n : Nat) (r : List Nat) (he : E (n + 1) (u ++ d) = some r) : F r = false := by
  obtain ⟨w, u2, rfl, hw, hh⟩ := split_at (p := letC) u
  have hdl := dl_not hd (p := letC) (by decide) (by decide) (by decide)
  have hdd := dl_not hd (p := digC) (by decide) (by decide) (by decide)
  cases u2 with
  | nil =>
    rw [List.append_nil] at *
    have d46 : d.head? ≠ some 46 := fun z => by
      rcases dl_head hd with rfl | ⟨r, rfl⟩ | ⟨r, rfl⟩ | ⟨r, rfl⟩ <;> cases z
    have nn : nameL w = false := by
      rcases h with h | h
      · exact h.2
      · rw [← atom_plain (let_ne hw let46)]
        exact h.2
    rw [E_step hw hdl, bad_iff hw d46, nn] at he
    cases he
  | cons c u3 =>
    have hc := hh c rfl
    have F2 : Free (c :: u3) d := Fr.tail
    have hx : ∀ x, ((c :: u3) ++ d).head? = some x → letC x = false := fun x e => by
      cases e
      exact hc
    rw [List.append_assoc, E_step hw hx] at he
    split at he
    · cases he
    · rename_i nb
      have nb := Bool.eq_false_iff.mpr nb
      by_cases h46 : c = 46
      · subst h46
        have okw := bad_dot hw rfl nb
        obtain ⟨ds, u4, rfl, hds, hu4⟩ := split_at (p := digC) u3
        cases u4 with
        | nil =>
          rw [List.append_nil] at *
          obtain ⟨t1, t2⟩ := take_app hds hdd
          have e1 : ET n (46 :: ds ++ d) = if (ds.isEmpty || (ds ++ d).head? == some 48) = true then none else some d := by
            show (if ((ds ++ d).takeWhile digC).isEmpty || (ds ++ d).head? == some 48 then none else some ((ds ++ d).dropWhile digC)) = _
            rw [t1, t2]
          rw [e1] at he
          split at he
          · cases he
          · rename_i ok
            cases he
            rcases h with h | h
            · unfold F
              rw [h.1]
              simp
            · exfalso
              have ha := h.2
              rw [atom_dot (let_ne hw let46), okw, Bool.true_and] at ha
              have ok := Bool.eq_false_iff.mpr ok
              rw [Bool.or_eq_false_iff] at ok
              cases ds with
              | nil => cases ok.1
              | cons x ds =>
                unfold numOk at ha
                rw [hds] at ha
                have o2 : (some x == some 48) = false := ok.2
                have ha : (some x != some 48 && true) = false := ha
                rw [Bool.and_true] at ha
                have : (!(some x == some 48)) = false := ha
                rw [o2] at this
                cases this
        | cons x u4 =>
          have hxx : ∀ y, ((x :: u4) ++ d).head? = some y → digC y = false := fun y e => by
            cases e
            exact hu4 x rfl
          obtain ⟨t1, t2⟩ := take_app hds hxx
          have e1 : ET n (46 :: (ds ++ x :: u4) ++ d) = if (ds.isEmpty || ((ds ++ x :: u4) ++ d).head? == some 48) = true then none else some ((x :: u4) ++ d) := by
            show (if (((ds ++ x :: u4) ++ d).takeWhile digC).isEmpty || ((ds ++ x :: u4) ++ d).head? == some 48 then none else some (((ds ++ x :: u4) ++ d).dropWhile digC)) = _
            rw [List.append_assoc, t1, t2]
          rw [e1] at he
          split at he
          · cases he
          · cases he
            refine F_free (b := x :: u4) ?_ (by simp)
            have F3 : Free ((46 :: ds) ++ (x :: u4)) d := F2
            exact F3.tail
      · have n40 : c ≠ 40 := F2.head.1
        have e1 : ET n (c :: u3 ++ d) = some (c :: u3 ++ d) := ET_o h46 n40
        rw [e1] at he
        cases he
        exact F_free F2 (by simp)
/-- an atom is read up to its end -/
theorem E_atom {u d : List Nat} (hd : dl d = true) (h40 : d.head? ≠ some 40) (ha : atomL u = true) (n : Nat) : E (n + 1) (u ++ d) = some d := by
  obtain ⟨w, u2, rfl, hw, hh⟩ := split_at (p := letC) u
  have hdl := dl_not hd (p := letC) (by decide) (by decide) (by decide)
  have hdd := dl_not hd (p := digC) (by decide) (by decide) (by decide)
  cases u2 with
  | nil =>
    rw [List.append_nil] at *
    have d46 : d.head? ≠ some 46 := fun z => by
      rcases dl_head hd with rfl | ⟨r, rfl⟩ | ⟨r, rfl⟩ | ⟨r, rfl⟩ <;> cases z
    rw [atom_plain (let_ne hw let46)] at ha
    rw [E_step hw hdl, bad_iff hw d46, ha]
    show ET n d = some d
    cases d with
    | nil => rfl
    | cons c d => exact ET_o (fun z => d46 (by rw [z]; rfl)) (fun z => h40 (by rw [z]; rfl))
  | cons c u3 =>
    have hc := hh c rfl
    by_cases h46 : c = 46
    · subst h46
      rw [atom_dot (let_ne hw let46), Bool.and_eq_true] at ha
      obtain ⟨okw, num⟩ := ha
      unfold numOk at num
      simp only [Bool.and_eq_true] at num
      obtain ⟨n1, n2, n3⟩ := num
      rw [List.append_assoc, E_step hw (fun x e => by cases e; exact hc), bad_not hw rfl okw]
      obtain ⟨t1, t2⟩ := take_app n3 hdd
      show (if ((u3 ++ d).takeWhile digC).isEmpty || (u3 ++ d).head? == some 48 then none else some ((u3 ++ d).dropWhile digC)) = _
      rw [t1, t2]
      cases u3 with
      | nil => cases n1
      | cons x u3 =>
        have n2 : (some x != some 48) = true := n2
        have e : (some x == some 48) = false := by
          cases z : (some x == some 48) with
          | false => rfl
          | true =>
            have : (!(some x == some 48)) = true := n2
            rw [z] at this
            cases this
        show (if (false || some x == some 48) = true then none else some d) = some d
        rw [e]
        rfl
    · rw [atom_bad hw hc h46] at ha
      cases ha
theorem E_fun {u d' : List Nat} (hn : nameL u = true) (n : Nat) : E (n + 1) (u ++ 40 :: d') = ET n (40 :: d') := by
  rw [E_step (name_let hn) (fun c e => by cases e; decide), bad_iff (name_let hn) (fun z => by cases z), hn]
  rfl
theorem drop_len {p : Nat → Bool} : ∀ l : List Nat, (l.dropWhile p).length ≤ l.length
  | [] => Nat.le_refl _
  | c :: l => by
    rw [List.dropWhile_cons]
    split
    · exact Nat.le_succ_of_le (drop_len l)
    · exact Nat.le_refl _
theorem E_len : ∀ (n : Nat) (l r : List Nat), E n l = some r → r.length < l.length
  | 0, _, _, h => by cases h
  | n + 1, l, r, h => by
    obtain ⟨w, d, rfl, hw, hh⟩ := split_at (p := letC) l
    rw [E_step hw hh] at h
    split at h
    · cases h
    · rename_i nb
      have lw : 0 < w.length := by
        cases w with
        | nil => exact absurd rfl nb
        | cons a w => simp
      have ld : r.length ≤ d.length := by
        clear nb hh
        cases d with
        | nil => cases h; exact Nat.le_refl _
        | cons c d =>
          by_cases h46 : c = 46
          · subst h46
            have h : (if (d.takeWhile digC).isEmpty || d.head? == some 48 then none else some (d.dropWhile digC)) = some r := h
            split at h
            · cases h
            · cases h
              exact Nat.le_succ_of_le (drop_len d)
          · by_cases h40 : c = 40
            · subst h40
              by_cases h41 : d.head? = some 41
              · obtain ⟨r', rfl⟩ : ∃ r', d = 41 :: r' := by
                  cases d with
                  | nil => cases h41
                  | cons c d => cases h41; exact ⟨d, rfl⟩
                rw [ET_par] at h
                cases h
                simp
                omega
              · rw [ET_op h41] at h
                split at h
                · rename_i r2 e
                  cases h
                  have := E_len n _ _ e
                  simp at this ⊢
                  omega
                · rename_i r2 e
                  have l1 := E_len n _ _ e
                  split at h
                  · rename_i r3 e3
                    cases h
                    have l2 := E_len n _ _ e3
                    simp at l1 l2 ⊢
                    omega
                  · cases h
                · cases h
            · rw [ET_o h46 h40] at h
              cases h
              exact Nat.le_refl _
      rw [List.length_append]
      omega
/-! the two readings agree -/
def f (prev : Option Kd) (st l : List Nat) : Bool := turn prev (KS l) && nest st (KS l)
def g (st r : List Nat) : Bool := turn (some .at) (KS r) && nest st (KS r)
theorem turn_cl : ∀ ks : List Kd, turn (some .cl) ks = turn (some .at) ks
  | [] => rfl
  | k :: r => by cases k <;> rfl
theorem g_cl (c : Nat) (st r : List Nat) : g (c :: st) (41 :: r) = g st r := by
  unfold g
  rw [KS_cl]
  show (turn (some .cl) (KS r) && nest st (KS r)) = _
  rw [turn_cl]
theorem g_cl0 (r : List Nat) : g [] (41 :: r) = false := by
  unfold g
  rw [KS_cl]
  show (_ && false) = false
  rw [Bool.and_false]
theorem g_cm0 (r : List Nat) : g [] (44 :: 32 :: r) = false := by
  unfold g
  rw [KS_cm]
  show (_ && false) = false
  rw [Bool.and_false]
theorem g_cm1 (st r : List Nat) : g (0 :: st) (44 :: 32 :: r) = f (some .cm) (1 :: st) r := by
  unfold g f
  rw [KS_cm]
  rfl
theorem g_cm2 (st r : List Nat) : g (1 :: st) (44 :: 32 :: r) = false := by
  unfold g
  rw [KS_cm]
  show (_ && false) = false
  rw [Bool.and_false]
theorem g_no {st r : List Nat} (h : F r = false) : g st r = false := by
  unfold F at h
  cases hd : dl r with
  | true =>
    rw [hd, Bool.true_and] at h
    cases r with
    | nil => cases h
    | cons c r =>
      have e : c = 40 := by simpa using h
      subst e
      unfold g
      rw [KS_op]
      rfl
  | false =>
    obtain ⟨e1, e2, e3⟩ := cut_spec r
    have hu : (cut r).1 ≠ [] := fun z => by
      rw [z, List.nil_append] at e1
      rw [e1, e2] at hd
      cases hd
    unfold g
    rw [KS_cut, if_neg hu, kind_u hu e2 e3]
    unfold wk
    split
    · split <;> rfl
    · split <;> rfl
theorem main : ∀ (n : Nat) (l : List Nat), l.length < n → ∀ (prev : Option Kd) (st : List Nat), (prev = none ∨ (prev = some .op ∧ l.head? ≠ some 41) ∨ prev = some .cm) → f prev st l = match E n l with
    | some r => g st r
    | none => false
  | 0, l, hl, _, _, _ => absurd hl (Nat.not_lt_zero _)
  | n + 1, l, hl, prev, st, hp => by
    obtain ⟨e1, e2, e3⟩ := cut_spec l
    by_cases hu : (cut l).1 = []
    · rw [hu, List.nil_append] at e1
      have hd : dl l = true := by rw [e1]; exact e2
      have eE : E (n + 1) l = none := by
        have := E_step (n := n) (w := []) (r := l) rfl (dl_not hd (p := letC) (by decide) (by decide) (by decide))
        rw [List.nil_append] at this
        rw [this]
        rfl
      rw [eE]
      show f prev st l = false
      unfold f
      rcases dl_head hd with rfl | ⟨r, rfl⟩ | ⟨r, rfl⟩ | ⟨r, rfl⟩
      · rcases hp with rfl | ⟨rfl, _⟩ | rfl <;> rfl
      · rw [KS_op]
        rcases hp with rfl | ⟨rfl, _⟩ | rfl <;> rfl
      · rw [KS_cl]
        rcases hp with rfl | ⟨rfl, h⟩ | rfl
        · rfl
        · exact absurd rfl h
        · rfl
      · rw [KS_cm]
        rcases hp with rfl | ⟨rfl, _⟩ | rfl <;> rfl
    · have eK : KS l = wk (cut l).1 (cut l).2 :: KS (cut l).2 := by
        rw [KS_cut, if_neg hu, kind_u hu e2 e3]
      have len : (cut l).2.length < l.length := by
        have := congrArg List.length e1
        rw [List.length_append] at this
        have : 0 < (cut l).1.length := List.length_pos_iff.mpr hu
        omega
      unfold f
      rw [eK]
      generalize (cut l).1 = u at *
      generalize (cut l).2 = d at *
      subst e1
      by_cases h40 : d.head? = some 40
      · obtain ⟨d', rfl⟩ : ∃ d', d = 40 :: d' := by
          cases d with
          | nil => cases h40
          | cons c d => cases h40; exact ⟨d, rfl⟩
        cases hn : nameL u with
        | false =>
          have ek : wk u (40 :: d') = .wr := by
            unfold wk
            rw [if_pos h40, hn]
            rfl
          rw [ek]
          have lf : (turn prev (.wr :: KS (40 :: d')) && nest st (.wr :: KS (40 :: d'))) = false := by
            rcases hp with rfl | ⟨rfl, _⟩ | rfl <;> rfl
          rw [lf]
          cases he : E (n + 1) (u ++ 40 :: d') with
          | none => rfl
          | some r => exact (g_no (E_bad hu e2 e3 (.inl ⟨h40, hn⟩) n r he)).symm
        | true =>
          have ek : wk u (40 :: d') = .fn := by
            unfold wk
            rw [if_pos h40, hn]
            rfl
          have lf : (turn prev (.fn :: KS (40 :: d')) && nest st (.fn :: KS (40 :: d'))) = f (some .op) (0 :: st) d' := by
            rw [KS_op]
            rcases hp with rfl | ⟨rfl, _⟩ | rfl <;> rfl
          rw [ek, lf, E_fun hn]
          have ld : d'.length < n := by
            have : (40 :: d').length = d'.length + 1 := rfl
            have := Nat.lt_of_lt_of_le hl (Nat.le_refl _)
            omega
          by_cases h41 : d'.head? = some 41
          · obtain ⟨r', rfl⟩ : ∃ r', d' = 41 :: r' := by
              cases d' with
              | nil => cases h41
              | cons c d => cases h41; exact ⟨d, rfl⟩
            rw [ET_par]
            show f (some .op) (0 :: st) (41 :: r') = g st r'
            unfold f g
            rw [KS_cl]
            show (turn (some .cl) (KS r') && nest st (KS r')) = _
            rw [turn_cl]
          · rw [ET_op h41, main n d' ld (some .op) (0 :: st) (.inr (.inl ⟨rfl, h41⟩))]
            cases he : E n d' with
            | none => rfl
            | some r2 =>
              show g (0 :: st) r2 = _
              cases hF : F r2 with
              | false =>
                rw [g_no hF]
                have n1 : ∀ x, r2 ≠ 41 :: x := fun x z => by rw [z] at hF; cases hF
                have n2 : ∀ x, r2 ≠ 44 :: 32 :: x := fun x z => by rw [z] at hF; cases hF
                split
                · rename_i r hr
                  split at hr
                  · rename_i z
                    cases z
                    exact absurd rfl (n1 _)
                  · rename_i z
                    cases z
                    exact absurd rfl (n2 _)
                  · cases hr
                · rfl
              | true =>
                unfold F at hF
                rw [Bool.and_eq_true] at hF
                rcases dl_head hF.1 with rfl | ⟨r, rfl⟩ | ⟨r, rfl⟩ | ⟨r, rfl⟩
                · rfl
                · cases hF.2
                · exact g_cl 0 st r
                · rw [g_cm1]
                  have lr : r.length < n := by
                    have := E_len n d' _ he
                    have e : (44 :: 32 :: r).length = r.length + 2 := rfl
                    omega
                  rw [main n r lr (some .cm) (1 :: st) (.inr (.inr rfl))]
                  show _ = (match (match E n r with
                    | some (41 :: r3) => some r3
                    | _ => none) with
                    | some r => g st r
                    | none => false)
                  cases he3 : E n r with
                  | none => rfl
                  | some r3 =>
                    show g (1 :: st) r3 = _
                    cases hF3 : F r3 with
                    | false =>
                      rw [g_no hF3]
                      have n1 : ∀ x, r3 ≠ 41 :: x := fun x z => by rw [z] at hF3; cases hF3
                      split
                      · rename_i r hr
                        split at hr
                        · rename_i z
                          cases z
                          exact absurd rfl (n1 _)
                        · cases hr
                      · rfl
                    | true =>
                      unfold F at hF3
                      rw [Bool.and_eq_true] at hF3
                      rcases dl_head hF3.1 with rfl | ⟨r4, rfl⟩ | ⟨r4, rfl⟩ | ⟨r4, rfl⟩
                      · rfl
                      · cases hF3.2
                      · exact g_cl 1 st r4
                      · exact g_cm2 st r4
      · cases ha : atomL u with
        | false =>
          have ek : wk u d = .wr := by
            unfold wk
            rw [if_neg h40, ha]
            rfl
          rw [ek]
          have lf : (turn prev (.wr :: KS d) && nest st (.wr :: KS d)) = false := by
            rcases hp with rfl | ⟨rfl, _⟩ | rfl <;> rfl
          rw [lf]
          cases he : E (n + 1) (u ++ d) with
          | none => rfl
          | some r => exact (g_no (E_bad hu e2 e3 (.inr ⟨h40, ha⟩) n r he)).symm
        | true =>
          have ek : wk u d = .at := by
            unfold wk
            rw [if_neg h40, ha]
            rfl
          rw [ek, E_atom e2 h40 ha]
          rcases hp with rfl | ⟨rfl, _⟩ | rfl <;> rfl
/-- what is a value, by words and signs, is read from the left up to its end -/
theorem value_E {n : Nat} {l : List Nat} (h : l.length < n) : valueL l = decide (E n l = some []) := by
  have := main n l h none [] (.inl rfl)
  unfold f at this
  unfold valueL
  rw [this]
  cases he : E n l with
  | none => rfl
  | some r =>
    show g [] r = _
    cases r with
    | nil => rfl
    | cons c r =>
      rw [decide_eq_false (fun z => by cases z)]
      cases hF : F (c :: r) with
      | false => exact g_no hF
      | true =>
        unfold F at hF
        rw [Bool.and_eq_true] at hF
        rcases dl_head hF.1 with z | ⟨r4, z⟩ | ⟨r4, z⟩ | ⟨r4, z⟩
        · cases z
        · cases z
          cases hF.2
        · cases z
          exact g_cl0 _
        · cases z
          exact g_cm0 _
end OM.VL

namespace OM.VL
open PySem PySem.Spec PyProof.Rows L2
/-! a sign set between line ends, and the text cut at them: the words and signs -/
/-- y set between line ends -/
def putIn (y l : List Nat) : List Nat := TL.joinL (10 :: (y ++ [10])) (TL.spl y 0 [] l)
/-- one sign -/
def r1 (s : Nat) : List Nat → List Nat
  | [] => []
  | c :: r => if c = s then 10 :: c :: 10 :: r1 s r else c :: r1 s r
/-- a comma with a space -/
def r2 : List Nat → List Nat
  | [] => []
  | 44 :: 32 :: r => 10 :: 44 :: 32 :: 10 :: r2 r
  | c :: r => c :: r2 r
theorem r2_o {c : Nat} {r : List Nat} (h : ∀ r', c = 44 → r ≠ 32 :: r') : r2 (c :: r) = c :: r2 r := by
  rw [r2.eq_def]
  split
  · rename_i e
    cases e
  · rename_i e
    cases e
    exact absurd rfl (h _ rfl)
  · rename_i e
    cases e
    rfl
theorem joinL_cons (S a : List Nat) : ∀ rest : List (List Nat), rest ≠ [] → TL.joinL S (a :: rest) = a ++ (S ++ TL.joinL S rest)
  | [], h => absurd rfl h
  | q :: r, _ => rfl
theorem spl_ne (S : List Nat) : ∀ (l acc : List Nat), TL.spl S 0 acc l ≠ []
  | [], acc => by rw [TL.spl_nil]; exact List.cons_ne_nil _ _
  | c :: r, acc => by
    cases h : TL.pre S (c :: r) with
    | true => rw [TL.spl_hit h]; exact List.cons_ne_nil _ _
    | false => rw [TL.spl_miss h]; exact spl_ne S r _
theorem pre1 (s c : Nat) (r : List Nat) : TL.pre [s] (c :: r) = decide (c = s) := by
  unfold TL.pre
  show (List.take 1 (c :: r) == [s]) = _
  rw [show List.take 1 (c :: r) = [c] from rfl]
  by_cases h : c = s
  · subst h
    simp
  · simp [h]
theorem put1 (s : Nat) : ∀ (l acc : List Nat), TL.joinL (10 :: ([s] ++ [10])) (TL.spl [s] 0 acc l) = acc ++ r1 s l
  | [], acc => by
    rw [TL.spl_nil]
    show acc = acc ++ []
    rw [List.append_nil]
  | c :: r, acc => by
    by_cases h : c = s
    · subst h
      rw [TL.spl_hit (by rw [pre1]; exact decide_eq_true rfl)]
      show TL.joinL _ (acc :: TL.spl [c] 0 [] r) = _
      rw [joinL_cons _ _ _ (spl_ne _ r []), put1 c r []]
      show acc ++ (10 :: ([c] ++ [10]) ++ ([] ++ r1 c r)) = acc ++ (if c = c then 10 :: c :: 10 :: r1 c r else c :: r1 c r)
      rw [if_pos rfl]
      rfl
    · rw [TL.spl_miss (by rw [pre1]; exact decide_eq_false h), put1 s r (acc ++ [c])]
      show _ = acc ++ (if c = s then 10 :: c :: 10 :: r1 s r else c :: r1 s r)
      rw [if_neg h, List.append_assoc]
      rfl
theorem pre2 (c : Nat) (r : List Nat) : TL.pre [44, 32] (c :: r) = true ↔ ∃ r', c = 44 ∧ r = 32 :: r' := by
  unfold TL.pre
  show (List.take 2 (c :: r) == [44, 32]) = true ↔ _
  rw [beq_iff_eq]
  constructor
  · intro h
    cases r with
    | nil => cases h
    | cons d r =>
      have h : [c, d] = [44, 32] := h
      injection h with h1 h2
      injection h2 with h2 _
      exact ⟨r, h1, by rw [h2]⟩
  · rintro ⟨r', rfl, rfl⟩
    rfl
theorem put2 : ∀ (n : Nat) (l acc : List Nat), l.length ≤ n → TL.joinL (10 :: ([44, 32] ++ [10])) (TL.spl [44, 32] 0 acc l) = acc ++ r2 l
  | _, [], acc, _ => by
    rw [TL.spl_nil]
    show acc = acc ++ []
    rw [List.append_nil]
  | 0, c :: r, _, h => absurd h (Nat.not_succ_le_zero _)
  | n + 1, c :: r, acc, hl => by
    by_cases h : ∃ r', c = 44 ∧ r = 32 :: r'
    · have hp := (pre2 c r).mpr h
      obtain ⟨r', rfl, rfl⟩ := h
      rw [TL.spl_hit hp]
      show TL.joinL _ (acc :: TL.spl [44, 32] 1 [] (32 :: r')) = _
      rw [TL.spl_pass]
      show TL.joinL _ (acc :: TL.spl [44, 32] 0 [] r') = _
      rw [joinL_cons _ _ _ (spl_ne _ r' []), put2 n r' [] (by simp at hl; omega)]
      show _ = acc ++ r2 (44 :: 32 :: r')
      rw [r2]
      rfl
    · have hp : TL.pre [44, 32] (c :: r) = false := Bool.eq_false_iff.mpr fun z => h ((pre2 c r).mp z)
      rw [TL.spl_miss hp, put2 n r (acc ++ [c]) (by simp at hl; omega), r2_o (fun r' e1 e2 => h ⟨r', e1, e2⟩), List.append_assoc]
      rfl
/-- all three -/
def m3 : List Nat → List Nat
  | [] => []
  | 44 :: 32 :: r => 10 :: 44 :: 32 :: 10 :: m3 r
  | c :: r => if c = 40 ∨ c = 41 then 10 :: c :: 10 :: m3 r else c :: m3 r
theorem m3_o {c : Nat} {r : List Nat} (h : ∀ r', c = 44 → r ≠ 32 :: r') : m3 (c :: r) = if c = 40 ∨ c = 41 then 10 :: c :: 10 :: m3 r else c :: m3 r := by
  rw [m3.eq_def]
  split
  · rename_i e
    cases e
  · rename_i e
    cases e
    exact absurd rfl (h _ rfl)
  · rename_i e
    cases e
    rfl
theorem head41 (r x : List Nat) (h : ∀ r', r ≠ 32 :: r') : r1 41 (r1 40 r) ≠ 32 :: x := by
  cases r with
  | nil => intro z; cases z
  | cons c r =>
    intro z
    by_cases h1 : c = 40
    · subst h1
      have e : r1 41 (r1 40 (40 :: r)) = 10 :: 40 :: 10 :: r1 41 (r1 40 r) := rfl
      rw [e] at z
      cases z
    · have e : r1 40 (c :: r) = c :: r1 40 r := if_neg h1
      rw [e] at z
      by_cases h2 : c = 41
      · subst h2
        cases z
      · have e2 : r1 41 (c :: r1 40 r) = c :: r1 41 (r1 40 r) := if_neg h2
        rw [e2] at z
        injection z with z _
        exact h r (by rw [z])
theorem r123 : ∀ (n : Nat) (l : List Nat), l.length ≤ n → r2 (r1 41 (r1 40 l)) = m3 l
  | _, [], _ => rfl
  | 0, c :: r, h => absurd h (Nat.not_succ_le_zero _)
  | n + 1, c :: r, hl => by
    have lr : r.length ≤ n := by simp at hl; omega
    by_cases h40 : c = 40
    · subst h40
      have e : r1 41 (r1 40 (40 :: r)) = 10 :: 40 :: 10 :: r1 41 (r1 40 r) := rfl
      rw [e, m3_o (fun _ z => by cases z), if_pos (.inl rfl), r2_o (fun _ z => by cases z), r2_o (fun _ z => by cases z), r2_o (fun _ z => by cases z), r123 n r lr]
    · have e : r1 40 (c :: r) = c :: r1 40 r := if_neg h40
      by_cases h41 : c = 41
      · subst h41
        have e2 : r1 41 (41 :: r1 40 r) = 10 :: 41 :: 10 :: r1 41 (r1 40 r) := rfl
        rw [e, e2, m3_o (fun _ z => by cases z), if_pos (.inr rfl), r2_o (fun _ z => by cases z), r2_o (fun _ z => by cases z), r2_o (fun _ z => by cases z), r123 n r lr]
      · have e2 : r1 41 (c :: r1 40 r) = c :: r1 41 (r1 40 r) := if_neg h41
        rw [e, e2]
        by_cases h : ∃ r', c = 44 ∧ r = 32 :: r'
        · obtain ⟨r', rfl, rfl⟩ := h
          have e3 : r1 41 (r1 40 (32 :: r')) = 32 :: r1 41 (r1 40 r') := rfl
          rw [e3, r2, r123 n r' (by simp at lr; omega), m3]
        · rw [m3_o (fun r' a b => h ⟨r', a, b⟩), if_neg (fun z => z.elim h40 h41), ← r123 n r lr]
          by_cases h44 : c = 44
          · subst h44
            exact r2_o fun x _ z => head41 r x (fun r' e => h ⟨r', rfl, e⟩) z
          · exact r2_o fun x z _ => h44 z
theorem spl10_hit (acc r : List Nat) : TL.spl [10] 0 acc (10 :: r) = acc :: TL.spl [10] 0 [] r := by
  rw [TL.spl_hit (by rw [pre1]; rfl)]
  rfl
theorem spl10_miss {c : Nat} (h : c ≠ 10) (acc r : List Nat) : TL.spl [10] 0 acc (c :: r) = TL.spl [10] 0 (acc ++ [c]) r := TL.spl_miss (by rw [pre1]; exact decide_eq_false h)
def some_ (p : List Nat) : Bool := !p.isEmpty
theorem filt (acc : List Nat) (l : List (List Nat)) : (acc :: l).filter some_ = fl acc (l.filter some_) := by
  unfold fl
  cases acc with
  | nil => rfl
  | cons a b => rfl
theorem cut_m3 : ∀ (n : Nat) (l acc : List Nat), l.length ≤ n → 10 ∉ l → (TL.spl [10] 0 acc (m3 l)).filter some_ = toks acc l
  | _, [], acc, _, _ => by
    show (TL.spl [10] 0 acc []).filter some_ = fl acc []
    rw [TL.spl_nil]
    exact filt acc []
  | 0, c :: r, _, h, _ => absurd h (Nat.not_succ_le_zero _)
  | n + 1, c :: r, acc, hl, h10 => by
    have lr : r.length ≤ n := by simp at hl; omega
    have n10 : c ≠ 10 ∧ 10 ∉ r := ⟨fun z => h10 (by rw [z]; exact List.mem_cons_self ..), fun z => h10 (List.mem_cons_of_mem _ z)⟩
    rcases way c r with h | ⟨r', rfl, rfl⟩ | ⟨h, h2⟩
    · rw [m3_o (fun r' z _ => by omega), if_pos h, toks_d h, spl10_hit, spl10_miss n10.1, spl10_hit, filt, filt, cut_m3 n r [] lr n10.2]
      rfl
    · rw [m3, toks_cm, spl10_hit, spl10_miss (by decide), spl10_miss (by decide), spl10_hit, filt, filt, cut_m3 n r' [] (by simp at lr; omega) (fun z => n10.2 (List.mem_cons_of_mem _ z))]
      rfl
    · rw [m3_o h2, if_neg h, toks_o h h2, spl10_miss n10.1, cut_m3 n r (acc ++ [c]) lr n10.2]
/-- the words and signs of a text with no line end -/
theorem pieces_toks {l : List Nat} (h : 10 ∉ l) : (TL.spl [10] 0 [] (putIn [44, 32] (putIn [41] (putIn [40] l)))).filter some_ = toks [] l := by
  have e1 : putIn [40] l = r1 40 l := put1 40 l []
  have e2 : putIn [41] (r1 40 l) = r1 41 (r1 40 l) := put1 41 _ []
  have e3 : putIn [44, 32] (r1 41 (r1 40 l)) = r2 (r1 41 (r1 40 l)) := put2 _ _ [] (Nat.le_refl _)
  rw [e1, e2, e3, r123 l.length l (Nat.le_refl _)]
  exact cut_m3 _ l [] (Nat.le_refl _) h
/-- text.replace, as a list -/
theorem repl_L (x y z : Str) (hy : TL.tl y ≠ []) (hk : y.cps.all (· < 256) = true) (hz : z.length ≠ 0) : TL.tl (Txt.replace x y z) = TL.joinL (TL.tl z) (TL.spl (TL.tl y) 0 [] (TL.tl x)) := by
  obtain ⟨f, g, hn⟩ := StrLaws.occ_tight x y (TL.len1 hy)
  have key := TL.parts_spl hy _ 0 f (Nat.zero_le _) g hn
  rw [List.drop_zero] at key
  have h0 : (y.length == 0 && z.length == 0) = false := by
    have : (z.length == 0) = false := by simpa using hz
    rw [this, Bool.and_false]
  unfold Txt.replace
  rw [h0, Bool.or_false]
  by_cases h2 : (Builtin.Str.occurrences x y 0 x.length (x.length + 1)).isEmpty = true
  · rw [if_pos h2]
    have ho := List.isEmpty_iff.mp h2
    rw [ho] at key
    rw [← key]
    show TL.tl x = TL.tl (Builtin.Str.strSub x 0 x.length)
    rw [StrLaws.sub_whole]
  · rw [if_neg h2, StrLaws.glued_eq_join, TL.tl_join, StrLaws.partsBetween_eq, key]
end OM.VL

namespace OM.VL
/-! drawn values as trees -/
inductive Tr where
  | lf (w : List Nat)
  | nd0 (f : List Nat)
  | nd1 (f : List Nat) (t : Tr)
  | nd2 (f : List Nat) (t u : Tr)
def tx : Tr → List Nat
  | .lf w => w
  | .nd0 f => f ++ [40, 41]
  | .nd1 f t => f ++ 40 :: (tx t ++ [41])
  | .nd2 f t u => f ++ 40 :: (tx t ++ 44 :: 32 :: (tx u ++ [41]))
def okT : Tr → Bool
  | .lf w => atomL w
  | .nd0 f => nameL f
  | .nd1 f t => nameL f && okT t
  | .nd2 f t u => nameL f && (okT t && okT u)
/-- the names and unknowns, from the left -/
def lv : Tr → List (List Nat)
  | .lf w => [w]
  | .nd0 _ => []
  | .nd1 _ t => lv t
  | .nd2 _ t u => lv t ++ lv u
theorem atom_split {w : List Nat} (h : atomL w = true) : nameL w = true ∨ ∃ a n, w = a ++ 46 :: n ∧ a.all letC = true ∧ a ≠ [] ∧ numOk n = true := by
  obtain ⟨a, b, rfl, ha, hb⟩ := split_at (p := letC) w
  cases b with
  | nil =>
    rw [List.append_nil] at h ⊢
    rw [atom_plain (let_ne ha let46)] at h
    exact .inl h
  | cons c b =>
    have hc := hb c rfl
    by_cases h46 : c = 46
    · subst h46
      rw [atom_dot (let_ne ha let46), Bool.and_eq_true] at h
      refine .inr ⟨a, b, rfl, ha, fun z => ?_, h.2⟩
      subst z
      exact absurd h.1 (by decide)
    · rw [atom_bad ha hc h46] at h
      cases h
/-- no sign in it -/
def clean (w : List Nat) : Bool := w.all fun c => decide (c ≠ 40) && (decide (c ≠ 41) && decide (c ≠ 44))
theorem clean_let {w : List Nat} (h : w.all letC = true) : clean w = true := List.all_eq_true.mpr fun c hc => by
  have := List.all_eq_true.mp h c hc
  unfold letC at this
  simp only [Bool.and_eq_true, decide_eq_true_eq] at this ⊢
  omega
theorem clean_dig {w : List Nat} (h : w.all digC = true) : clean w = true := List.all_eq_true.mpr fun c hc => by
  have := List.all_eq_true.mp h c hc
  unfold digC at this
  simp only [Bool.and_eq_true, decide_eq_true_eq] at this ⊢
  omega
theorem clean_atom {w : List Nat} (h : atomL w = true) : clean w = true ∧ ∃ c r, w = c :: r ∧ letC c = true := by
  rcases atom_split h with h | ⟨a, n, rfl, ha, hn, num⟩
  · refine ⟨clean_let (name_let h), ?_⟩
    cases w with
    | nil => exact absurd h (by decide)
    | cons c r => exact ⟨c, r, rfl, by have := name_let h; rw [List.all_cons, Bool.and_eq_true] at this; exact this.1⟩
  · unfold numOk at num
    simp only [Bool.and_eq_true] at num
    have h1 := clean_let ha
    have h2 := clean_dig num.2.2
    unfold clean at h1 h2 ⊢
    rw [List.all_append, List.all_cons, h1, h2]
    refine ⟨rfl, ?_⟩
    cases a with
    | nil => exact absurd rfl hn
    | cons c r => exact ⟨c, _, rfl, by rw [List.all_cons, Bool.and_eq_true] at ha; exact ha.1⟩
theorem clean_name {w : List Nat} (h : nameL w = true) : clean w = true ∧ ∃ c r, w = c :: r ∧ letC c = true := by
  refine ⟨clean_let (name_let h), ?_⟩
  cases w with
  | nil => exact absurd h (by decide)
  | cons c r => exact ⟨c, r, rfl, by have := name_let h; rw [List.all_cons, Bool.and_eq_true] at this; exact this.1⟩
theorem tx_head {t : Tr} (h : okT t = true) : ∃ c r, tx t = c :: r ∧ letC c = true := by
  cases t with
  | lf w => exact (clean_atom h).2
  | nd0 f =>
    obtain ⟨c, r, e, hc⟩ := (clean_name h).2
    exact ⟨c, _, by show f ++ _ = _; rw [e]; rfl, hc⟩
  | nd1 f t =>
    obtain ⟨c, r, e, hc⟩ := (clean_name (Bool.and_eq_true_iff.mp h).1).2
    exact ⟨c, _, by show f ++ _ = _; rw [e]; rfl, hc⟩
  | nd2 f t u =>
    obtain ⟨c, r, e, hc⟩ := (clean_name (Bool.and_eq_true_iff.mp h).1).2
    exact ⟨c, _, by show f ++ _ = _; rw [e]; rfl, hc⟩
theorem F_spec {r : List Nat} (h : F r = true) : dl r = true ∧ r.head? ≠ some 40 := by
  unfold F at h
  rw [Bool.and_eq_true] at h
  exact ⟨h.1, by simpa using h.2⟩
theorem n41 {t : Tr} (h : okT t = true) (x : List Nat) : (tx t ++ x).head? ≠ some 41 := by
  obtain ⟨c, r, e, hc⟩ := tx_head h
  rw [e]
  intro z
  cases z
  exact absurd hc (by decide)
/-- a drawn value is read up to its end -/
theorem E_tx : ∀ (t : Tr) (n : Nat) (r : List Nat), okT t = true → (tx t).length < n → F r = true → E n (tx t ++ r) = some r
  | .lf w, 0, _, _, hn, _ => absurd hn (Nat.not_lt_zero _)
  | .lf w, n + 1, r, h, _, hF => E_atom (F_spec hF).1 (F_spec hF).2 h n
  | .nd0 f, 0, _, _, hn, _ => absurd hn (Nat.not_lt_zero _)
  | .nd0 f, n + 1, r, h, _, hF => by
    show E (n + 1) ((f ++ [40, 41]) ++ r) = _
    rw [List.append_assoc]
    show E (n + 1) (f ++ 40 :: (41 :: r)) = _
    rw [E_fun h]
    rfl
  | .nd1 f t, 0, _, _, hn, _ => absurd hn (Nat.not_lt_zero _)
  | .nd1 f t, n + 1, r, h, hn, hF => by
    obtain ⟨h1, h2⟩ := Bool.and_eq_true_iff.mp h
    have e : tx (.nd1 f t) ++ r = f ++ 40 :: (tx t ++ (41 :: r)) := by
      show (f ++ 40 :: (tx t ++ [41])) ++ r = _
      simp
    have ln : (tx t).length < n := by
      have : (tx (.nd1 f t)).length = f.length + ((tx t).length + 2) := by
        show (f ++ 40 :: (tx t ++ [41])).length = _
        simp
      omega
    rw [e, E_fun h1, ET_op (n41 h2 _), E_tx t n (41 :: r) h2 ln rfl]
    rfl
  | .nd2 f t u, 0, _, _, hn, _ => absurd hn (Nat.not_lt_zero _)
  | .nd2 f t u, n + 1, r, h, hn, hF => by
    obtain ⟨h1, h2⟩ := Bool.and_eq_true_iff.mp h
    obtain ⟨h2, h3⟩ := Bool.and_eq_true_iff.mp h2
    have e : tx (.nd2 f t u) ++ r = f ++ 40 :: (tx t ++ (44 :: 32 :: (tx u ++ (41 :: r)))) := by
      show (f ++ 40 :: (tx t ++ 44 :: 32 :: (tx u ++ [41]))) ++ r = _
      simp
    have ln : (tx (.nd2 f t u)).length = f.length + ((tx t).length + ((tx u).length + 4)) := by
      show (f ++ 40 :: (tx t ++ 44 :: 32 :: (tx u ++ [41]))).length = _
      simp
      omega
    rw [e, E_fun h1, ET_op (n41 h2 _), E_tx t n (44 :: 32 :: (tx u ++ (41 :: r))) h2 (by omega) rfl]
    show (match E n (tx u ++ 41 :: r) with
      | some (41 :: r3) => some r3
      | _ => none) = some r
    rw [E_tx u n (41 :: r) h3 (by omega) rfl]
    rfl
/-- so it is a value -/
theorem tx_value {t : Tr} (h : okT t = true) : valueL (tx t) = true := by
  rw [value_E (n := (tx t).length + 1) (Nat.lt_succ_self _)]
  have := E_tx t ((tx t).length + 1) [] h (Nat.lt_succ_self _) rfl
  rw [List.append_nil] at this
  rw [this]
  rfl
/-! its names and unknowns -/
theorem cut_app : ∀ {w d : List Nat}, clean w = true → dl d = true → cut (w ++ d) = (w, d)
  | [], d, _, h => by
    show cut d = _
    rcases dl_head h with rfl | ⟨r, rfl⟩ | ⟨r, rfl⟩ | ⟨r, rfl⟩
    · rfl
    · exact cut_d (.inl rfl)
    · exact cut_d (.inr rfl)
    · exact cut_cm
  | c :: w, d, hw, h => by
    unfold clean at hw
    rw [List.all_cons, Bool.and_eq_true] at hw
    simp only [Bool.and_eq_true, decide_eq_true_eq] at hw
    obtain ⟨⟨h1, h2, h3⟩, h4⟩ := hw
    show cut (c :: (w ++ d)) = _
    rw [cut_o (by omega) (fun _ z => absurd z h3), cut_app (w := w) (by unfold clean; exact h4) h]
theorem toks_app {w d : List Nat} (hw : clean w = true) (hn : w ≠ []) (h : dl d = true) : toks [] (w ++ d) = w :: toks [] d := by
  rw [toks_cut, cut_app hw h]
  show fl ([] ++ w) _ = _
  unfold fl
  rw [List.nil_append, if_neg hn]
theorem kind_app {w d : List Nat} (hw : clean w = true) (hn : w ≠ []) (h : dl d = true) : kindOf w ((toks [] d).headD []) = wk w d := by
  have := cut_spec (w ++ d)
  rw [cut_app hw h] at this
  exact kind_u hn h this.2.2
def atomsT (l : List Nat) : List (List Nat) := (((toks [] l).zip (KS l)).filter fun p => decide (p.2 = Kd.at)).map (·.1)
theorem at_word {w d : List Nat} (hw : clean w = true) (hn : w ≠ []) (h : dl d = true) : atomsT (w ++ d) = if wk w d = .at then w :: atomsT d else atomsT d := by
  have eK : KS (w ++ d) = wk w d :: KS d := by
    show kinds (toks [] (w ++ d)) = _
    rw [toks_app hw hn h]
    show kindOf w ((toks [] d).headD []) :: kinds (toks [] d) = _
    rw [kind_app hw hn h]
  unfold atomsT
  rw [toks_app hw hn h, eK, List.zip_cons_cons, List.filter_cons]
  by_cases k : wk w d = .at
  · rw [if_pos k, if_pos (decide_eq_true k)]
    rfl
  · rw [if_neg k, if_neg (by simpa using k)]
theorem at_op (r : List Nat) : atomsT (40 :: r) = atomsT r := by
  unfold atomsT
  rw [KS_op, toks_d (.inl rfl)]
  rfl
theorem at_cl (r : List Nat) : atomsT (41 :: r) = atomsT r := by
  unfold atomsT
  rw [KS_cl, toks_d (.inr rfl)]
  rfl
theorem at_cm (r : List Nat) : atomsT (44 :: 32 :: r) = atomsT r := by
  unfold atomsT
  rw [KS_cm, toks_cm]
  rfl
theorem at_fun {f r : List Nat} (h : nameL f = true) : atomsT (f ++ 40 :: r) = atomsT r := by
  obtain ⟨hc, c, x, e, _⟩ := clean_name h
  rw [at_word hc (by rw [e]; exact List.cons_ne_nil _ _) rfl]
  have : wk f (40 :: r) = .fn := by
    unfold wk
    rw [if_pos (show (40 :: r).head? = some 40 from rfl), h]
    rfl
  rw [this, if_neg (by decide), at_op]
theorem at_tx : ∀ (t : Tr) (r : List Nat), okT t = true → F r = true → atomsT (tx t ++ r) = lv t ++ atomsT r
  | .lf w, r, h, hF => by
    obtain ⟨hd, h40⟩ := F_spec hF
    obtain ⟨hc, c, x, e, _⟩ := clean_atom h
    show atomsT (w ++ r) = [w] ++ atomsT r
    have : wk w r = .at := by
      unfold wk
      have ha : atomL w = true := h
      rw [if_neg h40, ha]
      rfl
    rw [at_word hc (by rw [e]; exact List.cons_ne_nil _ _) hd, this, if_pos rfl]
    rfl
  | .nd0 f, r, h, hF => by
    show atomsT ((f ++ [40, 41]) ++ r) = [] ++ atomsT r
    rw [List.append_assoc]
    show atomsT (f ++ 40 :: (41 :: r)) = atomsT r
    rw [at_fun h, at_cl]
  | .nd1 f t, r, h, hF => by
    obtain ⟨h1, h2⟩ := Bool.and_eq_true_iff.mp h
    have e : tx (.nd1 f t) ++ r = f ++ 40 :: (tx t ++ (41 :: r)) := by
      show (f ++ 40 :: (tx t ++ [41])) ++ r = _
      simp
    rw [e, at_fun h1, at_tx t _ h2 rfl, at_cl]
    rfl
  | .nd2 f t u, r, h, hF => by
    obtain ⟨h1, h2⟩ := Bool.and_eq_true_iff.mp h
    obtain ⟨h2, h3⟩ := Bool.and_eq_true_iff.mp h2
    have e : tx (.nd2 f t u) ++ r = f ++ 40 :: (tx t ++ (44 :: 32 :: (tx u ++ (41 :: r)))) := by
      show (f ++ 40 :: (tx t ++ 44 :: 32 :: (tx u ++ [41]))) ++ r = _
      simp
    rw [e, at_fun h1, at_tx t _ h2 rfl, at_cm, at_tx u _ h3 rfl, at_cl]
    show _ = (lv t ++ lv u) ++ atomsT r
    rw [List.append_assoc]
theorem atoms_tx {t : Tr} (h : okT t = true) : atomsT (tx t) = lv t := by
  have := at_tx t [] h rfl
  rw [List.append_nil] at this
  rw [this]
  show lv t ++ [] = _
  rw [List.append_nil]
/-! its parts -/
/-- the first comma that no parenthesis holds: what stands ahead of it, and behind its space -/
def dv (d : Int) (pre : List Nat) : List Nat → Option (List Nat × List Nat)
  | [] => none
  | c :: r => if c = 40 then dv (d + 1) (pre ++ [c]) r else if c = 41 then dv (d - 1) (pre ++ [c]) r else if c = 44 ∧ d = 0 then some (pre, r.drop 1) else dv d (pre ++ [c]) r
theorem dv_clean : ∀ {w : List Nat} (d : Int) (pre r : List Nat), clean w = true → dv d pre (w ++ r) = dv d (pre ++ w) r
  | [], d, pre, r, _ => by rw [List.append_nil]; rfl
  | c :: w, d, pre, r, hw => by
    unfold clean at hw
    rw [List.all_cons, Bool.and_eq_true] at hw
    simp only [Bool.and_eq_true, decide_eq_true_eq] at hw
    obtain ⟨⟨h1, h2, h3⟩, h4⟩ := hw
    show (if c = 40 then _ else if c = 41 then _ else if c = 44 ∧ d = 0 then _ else dv d (pre ++ [c]) (w ++ r)) = _
    rw [if_neg h1, if_neg h2, if_neg (fun z => h3 z.1), dv_clean d _ r (by unfold clean; exact h4), List.append_assoc]
    rfl
theorem dv_op (d : Int) (pre r : List Nat) : dv d pre (40 :: r) = dv (d + 1) (pre ++ [40]) r := rfl
theorem dv_cl (d : Int) (pre r : List Nat) : dv d pre (41 :: r) = dv (d - 1) (pre ++ [41]) r := rfl
theorem dv_cm {d : Int} (h : d ≠ 0) (pre r : List Nat) : dv d pre (44 :: 32 :: r) = dv d (pre ++ [44, 32]) r := by
  show (if (44 : Nat) = 40 then _ else if (44 : Nat) = 41 then _ else if (44 : Nat) = 44 ∧ d = 0 then _ else dv d (pre ++ [44]) (32 :: r)) = _
  rw [if_neg (by decide), if_neg (by decide), if_neg (fun z => h z.2)]
  show (if (32 : Nat) = 40 then _ else if (32 : Nat) = 41 then _ else if (32 : Nat) = 44 ∧ d = 0 then _ else dv d ((pre ++ [44]) ++ [32]) r) = _
  rw [if_neg (by decide), if_neg (by decide), if_neg (fun z => absurd z.1 (by decide)), List.append_assoc]
  rfl
theorem dv_tx : ∀ (t : Tr) (d : Int) (pre r : List Nat), 0 ≤ d → okT t = true → dv d pre (tx t ++ r) = dv d (pre ++ tx t) r
  | .lf w, d, pre, r, _, h => dv_clean d pre r (clean_atom h).1
  | .nd0 f, d, pre, r, _, h => by
    show dv d pre ((f ++ [40, 41]) ++ r) = dv d (pre ++ (f ++ [40, 41])) r
    rw [List.append_assoc, dv_clean d pre _ (clean_name h).1]
    show dv d (pre ++ f) (40 :: 41 :: r) = _
    rw [dv_op, dv_cl, show d + 1 - 1 = d by omega]
    simp
  | .nd1 f t, d, pre, r, hd, h => by
    obtain ⟨h1, h2⟩ := Bool.and_eq_true_iff.mp h
    have e : tx (.nd1 f t) ++ r = f ++ 40 :: (tx t ++ (41 :: r)) := by
      show (f ++ 40 :: (tx t ++ [41])) ++ r = _
      simp
    rw [e, dv_clean d pre _ (clean_name h1).1, dv_op, dv_tx t (d + 1) _ _ (by omega) h2, dv_cl, show d + 1 - 1 = d by omega]
    show _ = dv d (pre ++ (f ++ 40 :: (tx t ++ [41]))) r
    simp
  | .nd2 f t u, d, pre, r, hd, h => by
    obtain ⟨h1, h2⟩ := Bool.and_eq_true_iff.mp h
    obtain ⟨h2, h3⟩ := Bool.and_eq_true_iff.mp h2
    have e : tx (.nd2 f t u) ++ r = f ++ 40 :: (tx t ++ (44 :: 32 :: (tx u ++ (41 :: r)))) := by
      show (f ++ 40 :: (tx t ++ 44 :: 32 :: (tx u ++ [41]))) ++ r = _
      simp
    rw [e, dv_clean d pre _ (clean_name h1).1, dv_op, dv_tx t (d + 1) _ _ (by omega) h2, dv_cm (by omega), dv_tx u (d + 1) _ _ (by omega) h3, dv_cl, show d + 1 - 1 = d by omega]
    show _ = dv d (pre ++ (f ++ 40 :: (tx t ++ 44 :: 32 :: (tx u ++ [41])))) r
    simp
/-- one value: no comma; two: cut between them -/
theorem dv_one {t : Tr} (h : okT t = true) : dv 0 [] (tx t) = none := by
  have := dv_tx t 0 [] [] (Int.le_refl _) h
  rw [List.append_nil] at this
  rw [this]
  rfl
theorem dv_two {t u : Tr} (h : okT t = true) : dv 0 [] (tx t ++ 44 :: 32 :: tx u) = some (tx t, tx u) := by
  rw [dv_tx t 0 [] _ (Int.le_refl _) h]
  rfl
end OM.VL

namespace OM
open PySem PySem.Spec PyProof.Rows L2 VL
abbrev S (l : List Nat) : Str := SX.S l
abbrev sWrNum : Stmt := top 37
abbrev sAtom : Stmt := top 36
abbrev sKind : Stmt := top 35
def digits : Str := "0123456789"
theorem digits_tl : digits.cps.toList = [48, 49, 50, 51, 52, 53, 54, 55, 56, 57] := by decide +kernel
theorem in_digits (c : Nat) : (!(Builtin.Str.occurrences digits ⟨#[c]⟩ 0 digits.length 1).isEmpty) = digC c := by
  rw [StrLaws.found_one, digits_tl, Bool.eq_iff_iff]
  unfold digC
  simp only [decide_eq_true_eq, Bool.and_eq_true, List.mem_cons, List.not_mem_nil, or_false]
  omega
/-- names as lists -/
theorem name_S (l : List Nat) : isNameD (.str (S l)) = nameL l := by
  show nameS (S l) = nameL l
  unfold nameS nameL
  have e1 : (S l).length = l.length := SX.S_len l
  have e2 : letS (S l) = l.all letC := rfl
  have e3 : words6.contains (S l) = wordsL.contains l := by
    have w : words6 = wordsL.map S := by decide +kernel
    rw [w, Bool.eq_iff_iff, List.contains_iff_mem, List.contains_iff_mem]
    constructor
    · intro h
      obtain ⟨y, hy, e⟩ := List.mem_map.mp h
      rw [← SX.S_inj e]
      exact hy
    · exact fun h => List.mem_map.mpr ⟨l, h, rfl⟩
  rw [e1, e2, e3]
/-- a text of so many signs, and no wrong one -/
def okS (l : List Nat) : Prop := l.length ≤ 1000 ∧ PyData.strOk (S l) = true
theorem okS.sml {l : List Nat} (h : okS l) : smlD (.str (S l)) = true := by
  unfold smlD
  rw [Bool.and_eq_true]
  exact ⟨decide_eq_true (by rw [SX.S_len]; exact h.1), h.2⟩
def spNum : Sp := fun vs H Q _ => ∃ l : List Nat, vs = [.str (S l)] ∧ okS l ∧ ∀ H', Same H H' → Q (.bl (numOk l)) H'
def PvG (H : Hp) (D : Addr) (l : List Nat) (p : Nat → Bool) (i : Nat) (H' : Hp) : Prop := Same H H' ∧ H' D = some (.lst (((l.take i).map p).map V.bl))
theorem PvG.step {H H4 : Hp} {D : Addr} {l : List Nat} {p : Nat → Bool} {i c : Nat} {b : Bool} (hD : H D = none) (hl : l.length ≤ 1000) (hc : l[i]? = some c) (q : PvG H D l p i H4) (hb : b = p c) : ∃ acc, H4 D = some (.lst acc) ∧ acc.length < sizeLine ∧ PvG H D l p (i + 1) (upd H4 D (.lst (acc ++ [.bl b]))) := by
  refine ⟨_, q.2, ?_, same_put hD q.1, ?_⟩
  · rw [List.length_map, List.length_map, List.length_take]
    have : (1000 : Nat) < sizeLine := by decide
    omega
  · rw [upd_same, hb, List.take_add_one, hc, List.map_append, List.map_append]
    rfl
theorem PvG.all {H H5 : Hp} {D : Addr} {l : List Nat} {p : Nat → Bool} (q : PvG H D l p l.length H5) : Same H H5 ∧ H5 D = some (.lst ((l.map p).map V.bl)) := by
  have e := q.2
  rw [List.take_length] at e
  exact ⟨q.1, e⟩
theorem at0 (c : Nat) (r : List Nat) : atI (S (c :: r)).cps.toList 0 = some c := by
  show (ixN (r.length + 1) 0).bind (fun j => (c :: r)[j]?) = some c
  have e : ixN (r.length + 1) 0 = some 0 := by
    unfold ixN
    rw [if_pos (Int.le_refl _), if_pos (by omega)]
    rfl
  rw [e]
  rfl
section
variable {P : Program} {w : World} {K : PySem.W.Frag} {mg : Str → Option Value} {base : Heap} {f : Addr} {fd : FuncData}
theorem scWN : FnScope ["text", "digit"] ["text"] (defScope sWrNum) := ⟨rfl, rfl, rfl, by decide +kernel, rfl, by decide +kernel, by decide +kernel⟩
theorem ok_wrnum (F : Fun K "_is_written_number" "_is_written_number" sWrNum f fd) (al : mg "all" = none) (dg : ∃ t, mg "DIGITS" = some (.str digits t)) : FnOk P w K mg base CX0 1 f fd ["text"] spNum := by
  refine F.ok scWN (fun vs H Q E h => ?_) (fun cdv A outer s H vs Q E hr h => ?_)
  · obtain ⟨l, rfl, _⟩ := h
    rfl
  · obtain ⟨l, rfl, hl, q⟩ := h
    obtain ⟨t2, g2⟩ := dg
    refine ⟨_, pss_one (ps_ret (pe_and (pe_cmpR op_ne (pv 0) pe_str (nomark _)) (pe_and (pe_cmpR op_ne (pe_ix ix_str (pv 0) pe_int (fun _ _ => rfl)) pe_str (nomark _))
      (pe_one (pe_callB (cr_all rfl) (by rfl) al (by decide +kernel) (pa_cons (pe_lc (own := [("digit", 1)]) rfl scWN.nd (pi_str (pv 0)) (blkOk_by (N := ["text", "digit"]) (sc := defScope sWrNum) (by decide +kernel))
          (fun _ _ _ _ _ => pg_name (i := 1) scWN.nd rfl (Or.inl rfl)) (fun _ _ _ _ _ => pts_nil) (fun _ _ _ _ _ => pe_cmpR op_in_str (pv 1) (pe_glob (v := .str digits) (by rfl) g2 ⟨t2, rfl⟩) (by rfl))) pa_nil)))))), ?_⟩
    refine ⟨_, rfl, rfl, _, rfl, ?_⟩
    cases l with
    | nil => exact iteF (q H (Same.refl H))
    | cons c r =>
      have e1 : (!decide (V.str (S (c :: r)) = V.str "")) = true := by
        rw [decide_eq_false (fun z => by
          have := congrArg (fun x : Str => x.cps.toList) (V.str.inj z)
          exact absurd this (List.cons_ne_nil _ _))]
        rfl
      rw [e1]
      have lz : (S (c :: r)).length ≤ sizeLine := by
        rw [SX.S_len]
        exact Nat.le_trans hl.1 (by decide)
      refine iteT ⟨_, rfl, S (c :: r), 0, c, rfl, rfl, lz, at0 c r, rfl, _, rfl, ?_⟩
      have e2 : (!decide (V.str { cps := #[c] } = V.str "0")) = (some c != some 48) := by
        have h : (V.str { cps := #[c] } = V.str "0") ↔ c = 48 := ⟨fun z => by
          have := congrArg (fun x : Str => x.cps.toList) (V.str.inj z)
          injection this, fun z => by rw [z]; rfl⟩
        by_cases h2 : c = 48
        · rw [decide_eq_true (h.mpr h2), h2]
          rfl
        · rw [decide_eq_false (fun z => h2 (h.mp z))]
          simp [h2]
      rw [e2]
      cases e3 : (some c != some 48) with
      | false =>
        have : numOk (c :: r) = false := by
          show (true && ((some c != some 48) && _)) = false
          rw [e3]
          rfl
        rw [this] at q
        exact iteF (q H (Same.refl H))
      | true =>
        refine iteT ⟨_, rfl, S (c :: r), rfl, fun Dl hD => lc_its (PvG H Dl (c :: r) digC) ⟨same_upd hD, upd_same⟩ (fun i x H3 hc p => ?_) (fun H5 p => ?_)⟩
        · exact ⟨rfl, _, rfl, ⟨#[x]⟩, digits, rfl, rfl, p.step hD hl.1 hc (in_digits x)⟩
        · obtain ⟨s5, e5⟩ := p.all
          refine ⟨Dl, _, rfl, SqL.of e5, ?_⟩
          have : numOk (c :: r) = (c :: r).all digC := by
            show (true && ((some c != some 48) && _)) = _
            rw [e3]
            rfl
          rw [this] at q
          have e6 : (((c :: r).map digC).all id) = (c :: r).all digC := by rw [List.all_map]; rfl
          rw [e6]
          exact q _ s5
end
end OM

namespace OM
open PySem PySem.Spec PyProof.Rows L2 VL
theorem ok_all {l : List Nat} : okS l ↔ l.length ≤ 1000 ∧ l.all (fun c => decide (c < 0x110000)) = true := by
  unfold okS PyData.strOk
  rw [← Array.all_toList]
theorem okS.left {a b : List Nat} (h : okS (a ++ b)) : okS a := by
  rw [ok_all] at h ⊢
  obtain ⟨h1, h2⟩ := h
  rw [List.all_append, Bool.and_eq_true] at h2
  rw [List.length_append] at h1
  exact ⟨by omega, h2.1⟩
theorem okS.right {a b : List Nat} (h : okS (a ++ b)) : okS b := by
  rw [ok_all] at h ⊢
  obtain ⟨h1, h2⟩ := h
  rw [List.all_append, Bool.and_eq_true] at h2
  rw [List.length_append] at h1
  exact ⟨by omega, h2.2⟩
theorem okS.len {l : List Nat} (h : okS l) : (S l).length ≤ sizeLine := by
  rw [SX.S_len]
  exact Nat.le_trans h.1 (by decide)
def spAtom : Sp := fun vs H Q _ => ∃ l : List Nat, vs = [.str (S l)] ∧ okS l ∧ ∀ H', Same H H' → Q (.bl (atomL l)) H'
theorem part46 (l : List Nat) : ∃ a b, l = a ++ b ∧ (∀ c ∈ a, c ≠ 46) ∧ ((b = [] ∧ Txt.partition (S l) (S [46]) = (S l, S [], S [])) ∨ ∃ n, b = 46 :: n ∧ Txt.partition (S l) (S [46]) = (S a, S [46], S n)) := by
  obtain ⟨a, b, rfl, ha, hb⟩ := split_at (p := (· != 46)) l
  have h : ∀ c ∈ a, c ≠ 46 := fun c hc => by simpa using List.all_eq_true.mp ha c hc
  refine ⟨a, b, rfl, h, ?_⟩
  cases b with
  | nil =>
    refine .inl ⟨rfl, ?_⟩
    rw [List.append_nil]
    exact SX.partition_none (by decide) (TL.par_none1 fun z => h 46 z rfl)
  | cons c n =>
    have hc : c = 46 := by simpa using hb c rfl
    subst hc
    refine .inr ⟨n, rfl, SX.partition_some (by decide) ?_⟩
    have := TL.par_part1 (s := 46) (S := []) (p := a) (rest := n) (acc := []) (fun z => h 46 z rfl)
    rw [List.nil_append] at this
    exact this
/-- the word for a kind -/
def kdS : Kd → Str
  | .fn => "function"
  | .op => "("
  | .cl => ")"
  | .cm => ", "
  | .at => "atom"
  | .wr => "wrong"
def spKind : Sp := fun vs H Q _ => ∃ p a : List Nat, vs = [.str (S p), .str (S a)] ∧ okS p ∧ okS a ∧ ∀ H', Same H H' → Q (.str (kdS (kindOf p a))) H'
section
variable {P : Program} {w : World} {K : PySem.W.Frag} {mg : Str → Option Value} {base : Heap} {f fI fN fA : Addr} {fd dI dN dA : FuncData}
theorem scAt : FnScope ["word", "head", "dot", "number"] ["word"] (defScope sAtom) := ⟨rfl, rfl, rfl, by decide +kernel, rfl, by decide +kernel, by decide +kernel⟩
theorem ok_atom (F : Fun K "_is_atom" "_is_atom" sAtom f fd) (gI : mg "is_name" = some (.ref fI)) (kI : PySem.W.keepIn K (.ref fI) = true) (bI : Binds K dI ["value"] []) (GI : FnOk P w K mg base CX0 1 fI dI ["value"] spName)
    (gN : mg "_is_written_number" = some (.ref fN)) (kN : PySem.W.keepIn K (.ref fN) = true) (bN : Binds K dN ["text"] []) (GN : FnOk P w K mg base CX0 1 fN dN ["text"] spNum) : FnOk P w K mg base CX0 2 f fd ["word"] spAtom := by
  refine F.ok scAt (fun vs H Q E h => ?_) (fun cdv A outer s H vs Q E hr h => ?_)
  · obtain ⟨l, rfl, _⟩ := h
    rfl
  · obtain ⟨l, rfl, hl, q⟩ := h
    refine ⟨_, pss_cons (ps_asg (pe_bm PySem.F.plainAttrs_str PySem.F.slot_str_partition PySem.F.type_str_partition mt_partition (pv 0) (pa_cons pe_str pa_nil)) (pg_tup rfl (pgs_cons (pg_name (i := 1) scAt.nd rfl (Or.inl rfl)) (pgs_cons (pg_name (i := 2) scAt.nd rfl (Or.inl rfl)) (pgs_cons (pg_name (i := 3) scAt.nd rfl (Or.inl rfl)) pgs_nil)))))
      (pss_cons (ps_if (pt_not (pt_truth (pv 2) (fun _ => rfl))) (pss_one (ps_ret (pe_call GI hr (by rfl) gI kI bI .nil pass0 (pa_cons (pv 0) pa_nil)))) pss_nil)
      (pss_one (ps_ret (pe_and (pe_or (pe_call GI hr (by rfl) gI kI bI .nil pass0 (pa_cons (pv 1) pa_nil)) (pe_one (pe_cmpR op_eq (pv 1) pe_str (nomark _)))) (pe_one (pe_call GN hr (by rfl) gN kN bN .nil pass0 (pa_cons (pv 3) pa_nil))))))), ?_⟩
    refine ⟨_, rfl, rfl, S l, S [46], rfl, rfl, rfl, hl.len, fun p hp => ?_⟩
    have sp := same_upd (o := .tup [.str (Txt.partition (S l) (S [46])).1, .str (Txt.partition (S l) (S [46])).2.1, .str (Txt.partition (S l) (S [46])).2.2]) hp
    refine ⟨p, _, rfl, SqT.of upd_same, rfl, _, _, rfl, _, _, rfl, _, _, rfl, rfl, ?_⟩
    generalize upd H p _ = H1 at sp
    obtain ⟨a, b, rfl, h46, ⟨rfl, e⟩ | ⟨n, rfl, e⟩⟩ := part46 l
    · rw [e]
      refine ⟨_, rfl, false, ⟨Nat.zero_le _, rfl⟩, ⟨_, rfl, fun _ => True, _, .str (S (a ++ [])), rfl, .at (.str _), hl.sml, fun H' s' => ?_⟩⟩
      have z := q H' (sp.trans s')
      rw [List.append_nil] at z ⊢
      rw [atom_plain h46] at z
      rw [name_S]
      exact z
    · rw [e]
      have hA : okS a := hl.left
      have hN : okS n := okS.right (a := [46]) (hl.right)
      refine ⟨_, rfl, true, ⟨(by show (1 : Nat) ≤ sizeLine; decide), rfl⟩, ⟨_, rfl, fun _ => True, _, .str (S a), rfl, .at (.str _), hA.sml, fun H' s' => ?_⟩⟩
      rw [atom_dot h46] at q
      rw [name_S]
      have g : (decide (V.str (S a) = V.str "get")) = (a == getL) := by
        have h : (V.str (S a) = V.str "get") ↔ a = getL := ⟨fun z => SX.S_inj (b := getL) ((V.str.inj z).trans (by decide +kernel)), fun z => by rw [z]; exact congrArg V.str (by decide +kernel)⟩
        by_cases h2 : a = getL
        · rw [decide_eq_true (h.mpr h2), h2]
          rfl
        · rw [decide_eq_false (fun z => h2 (h.mp z))]
          simp [h2]
      have num : ∀ H2, Same H' H2 → (nameL a || a == getL) = true → tCall spNum [] E0 (tCons (tVar 3) tNil) (((List.set (L2.start ["word", "head", "dot", "number"] [V.str (S (a ++ 46 :: n))]) 1 (some (V.str (S a)))).set 2 (some (V.str (S [46])))).set 3 (some (V.str (S n)))) H2 Q := fun H2 s2 ok => by
        refine ⟨_, rfl, n, rfl, hN, fun H3 s3 => ?_⟩
        have z := q H3 (((sp.trans s').trans s2).trans s3)
        rw [ok, Bool.true_and] at z
        exact z
      refine ⟨_, rfl, ?_⟩
      cases hn : nameL a with
      | true => exact iteT ⟨_, rfl, iteT (num H' (Same.refl _) (by rw [hn]; rfl))⟩
      | false =>
        refine iteF ⟨_, rfl, rfl, _, rfl, ?_⟩
        rw [show (decide (V.str (S a, S [46], S n).1 = V.str "get")) = (a == getL) from g]
        cases hg : (a == getL) with
        | true => exact iteT (num H' (Same.refl _) (by rw [hn, hg]; rfl))
        | false =>
          have z := q H' (sp.trans s')
          rw [hn, hg] at z
          exact iteF z
theorem scKd : FnScope ["piece", "after"] ["piece", "after"] (defScope sKind) := ⟨rfl, rfl, rfl, by decide +kernel, rfl, by decide +kernel, by decide +kernel⟩
theorem ok_kindP (F : Fun K "_kind" "_kind" sKind f fd) (gI : mg "is_name" = some (.ref fI)) (kI : PySem.W.keepIn K (.ref fI) = true) (bI : Binds K dI ["value"] []) (GI : FnOk P w K mg base CX0 1 fI dI ["value"] spName)
    (gA : mg "_is_atom" = some (.ref fA)) (kA : PySem.W.keepIn K (.ref fA) = true) (bA : Binds K dA ["word"] []) (GA : FnOk P w K mg base CX0 2 fA dA ["word"] spAtom) : FnOk P w K mg base CX0 3 f fd ["piece", "after"] spKind := by
  refine F.ok scKd (fun vs H Q E h => ?_) (fun cdv A outer s H vs Q E hr h => ?_)
  · obtain ⟨p, a, rfl, _⟩ := h
    rfl
  · obtain ⟨p, a, rfl, hp, ha, q⟩ := h
    refine ⟨_, pss_cons (ps_if (pt_cmpR op_in_seq (pv 0) (pe_tup (pa_cons pe_str (pa_cons pe_str (pa_cons pe_str pa_nil)))) (by rfl)) (pss_one (ps_ret (pv 0))) pss_nil)
      (pss_cons (ps_if (pt_cmpR op_eq (pv 1) pe_str (nomark _)) (pss_one (ps_ret (pe_ifExp (pt_val (pe_call GI (hr.mono (by decide)) (by rfl) gI kI bI .nil pass0 (pa_cons (pv 0) pa_nil))) pe_str pe_str))) pss_nil)
      (pss_one (ps_ret (pe_ifExp (pt_val (pe_call GA hr (by rfl) gA kA bA .nil pass0 (pa_cons (pv 0) pa_nil))) pe_str pe_str)))), ?_⟩
    refine ⟨_, rfl, (by show 3 ≤ sizeLine; decide), fun t ht => ⟨t, _, rfl, .inr (SqT.of upd_same), rfl, by decide, _, rfl, ?_⟩⟩
    have st := same_upd (o := .tup [V.str "(", V.str ")", V.str ", "]) ht
    generalize upd H t _ = H1 at st
    have sb : ∀ a b : List Nat, (V.str (S a) = V.str (S b)) ↔ a = b := fun a b => ⟨fun z => SX.S_inj (V.str.inj z), fun z => by rw [z]⟩
    have e1 : (S [40] : Str) = "(" := by decide +kernel
    have e2 : (S [41] : Str) = ")" := by decide +kernel
    have e3 : (S [44, 32] : Str) = ", " := by decide +kernel
    have ei : inV (V.str (S p)) [V.str "(", V.str ")", V.str ", "] = (decide (p = [40]) || (decide (p = [41]) || decide (p = [44, 32]))) := by
      unfold inV
      simp only [List.any_cons, List.any_nil, Bool.or_false]
      rw [← e1, ← e2, ← e3]
      have q : ∀ b : List Nat, eqV (V.str (S b)) (V.str (S p)) = decide (p = b) := fun b => by
        show (S b == S p) = _
        rw [SX.S_beq_eq]
        exact decide_eq_decide.mpr ⟨fun z => z.symm, fun z => z.symm⟩
      rw [q, q, q]
    rw [ei]
    unfold VL.kindOf at q
    by_cases h1 : p = [40]
    · subst h1
      exact iteT ⟨_, rfl, q H1 st⟩
    rw [if_neg h1] at q
    by_cases h2 : p = [41]
    · subst h2
      exact iteT ⟨_, rfl, q H1 st⟩
    rw [if_neg h2] at q
    by_cases h3 : p = [44, 32]
    · subst h3
      exact iteT ⟨_, rfl, q H1 st⟩
    rw [if_neg h3] at q
    rw [decide_eq_false h1, decide_eq_false h2, decide_eq_false h3]
    refine iteF ⟨_, rfl, rfl, _, rfl, ?_⟩
    have ea : decide (V.str (S a) = V.str "(") = decide (a = [40]) := by
      rw [← e1]
      exact decide_eq_decide.mpr (sb a [40])
    rw [ea]
    by_cases h4 : a = [40]
    · rw [if_pos h4] at q
      rw [decide_eq_true h4]
      refine iteT ⟨_, rfl, fun _ => True, _, .str (S p), rfl, .at (.str _), hp.sml, fun H' s' => ⟨_, rfl, ?_⟩⟩
      rw [name_S]
      have z := q H' (st.trans s')
      cases hn : nameL p with
      | true =>
        rw [hn] at z
        exact iteT z
      | false =>
        rw [hn] at z
        exact iteF z
    · rw [if_neg h4] at q
      rw [decide_eq_false h4]
      refine iteF ⟨_, rfl, p, rfl, hp, fun H' s' => ⟨_, rfl, ?_⟩⟩
      have z := q H' (st.trans s')
      cases hn : atomL p with
      | true =>
        rw [hn] at z
        exact iteT z
      | false =>
        rw [hn] at z
        exact iteF z
end
end OM

namespace OM
open PySem PySem.Spec PyProof.Rows L2 VL
abbrev sKinds : Stmt := top 34
/-- over two lists side by side, the second one not longer -/
theorem lc_zipL {K : PySem.W.Frag} {a b : Addr} {xs ys : List V} {g : TG} {tt : TT} {te : TE} {vs : List Nat} {σ : L2.St} {H1 : Hp} {D : Addr} {Qd : Hp → Prop} (hlen : ys.length ≤ xs.length) (Pv : Nat → Hp → Prop) (h0 : Pv 0 (upd H1 D (.lst []))) (hl : ∀ i H, Pv i H → SqL K H a xs ∧ SqL K H b ys)
    (hs : ∀ i x y T H, xs[i]? = some x → ys[i]? = some y → Pv i H → H T = none → g (.ref T) (wipe σ vs) (upd H T (.tup [x, y])) fun σ2 H2 => wipe σ2 vs = wipe σ vs ∧ tt σ2 H2 fun b H3 =>
      if b = true then te σ2 H3 fun y H4 => ∃ acc, H4 D = some (.lst acc) ∧ acc.length < sizeLine ∧ Pv (i + 1) (upd H4 D (.lst (acc ++ [y]))) else Pv (i + 1) H3) (hd : ∀ H, Pv ys.length H → Qd H) :
    ∃ W : Nat → Nat → Hp → Prop, (∃ m, W 0 m (upd H1 D (.lst []))) ∧ ∀ i m H, W i m H →
      ((Itz K a b).stop i H ∧ Qd H) ∨ ((Itz K a b).go i H ∧ ∃ Nx : Hp → Prop, (∀ H', Nx H' → ∃ m', m' < m ∧ W (i + 1) m' H') ∧ ∀ v H', (Itz K a b).yld i H v H' → g v (wipe σ vs) H' fun σ2 H2 => wipe σ2 vs = wipe σ vs ∧ tt σ2 H2 fun b H3 =>
        if b = true then te σ2 H3 fun y H4 => ∃ acc, H4 D = some (.lst acc) ∧ acc.length < sizeLine ∧ Nx (upd H4 D (.lst (acc ++ [y]))) else Nx H3) := by
  refine ⟨fun i m H => i ≤ ys.length ∧ m = ys.length - i ∧ Pv i H, ⟨_, Nat.zero_le _, rfl, h0⟩, ?_⟩
  rintro i m H ⟨hi, rfl, p⟩
  obtain ⟨qx, qy⟩ := hl i H p
  rcases Nat.lt_or_ge i ys.length with hlt | hge
  · have hx : xs[i]? = some (xs[i]'(by omega)) := List.getElem?_eq_getElem (by omega)
    have hy : ys[i]? = some ys[i] := List.getElem?_eq_getElem hlt
    refine .inr ⟨⟨xs, ys, _, _, qx, qy, hx, hy⟩, Pv (i + 1), fun H' p' => ⟨ys.length - (i + 1), by omega, hlt, rfl, p'⟩, ?_⟩
    rintro v H' ⟨T, x', y', rfl, hT, rfl, f1, f2⟩
    exact hs i x' y' T H (f1 xs qx) (f2 ys qy) p hT
  · obtain rfl : i = ys.length := by omega
    exact .inl ⟨⟨xs, ys, qx, qy, .inr (Nat.le_refl _)⟩, hd H p⟩
/-- a list that grows into zs -/
def PvV (H : Hp) (D : Addr) (zs : List V) (i : Nat) (G : Hp) : Prop := Same H G ∧ G D = some (.lst (zs.take i))
theorem PvV.zero {H : Hp} {D : Addr} {zs : List V} (hD : H D = none) : PvV H D zs 0 (upd H D (.lst [])) := ⟨same_upd hD, by rw [upd_same, List.take_zero]⟩
theorem PvV.step {H G G2 : Hp} {D : Addr} {zs : List V} {i : Nat} {z : V} (p : PvV H D zs i G) (hD : H D = none) (s : Same G G2) (hz : zs[i]? = some z) (hl : zs.length ≤ 1000) : ∃ acc, G2 D = some (.lst acc) ∧ acc.length < sizeLine ∧ PvV H D zs (i + 1) (upd G2 D (.lst (acc ++ [z]))) := by
  refine ⟨_, s _ _ p.2, ?_, same_put hD (p.1.trans s), ?_⟩
  · rw [List.length_take]
    have li := (List.getElem?_eq_some_iff.mp hz).1
    have : (1000 : Nat) < sizeLine := by decide
    omega
  · rw [upd_same, List.take_add_one, hz]
    rfl
theorem PvV.all {H G : Hp} {D : Addr} {zs : List V} {i : Nat} (p : PvV H D zs i G) (h : zs.length ≤ i) : Same H G ∧ G D = some (.lst zs) := by
  have e := p.2
  rw [List.take_of_length_le h] at e
  exact ⟨p.1, e⟩
abbrev vS (l : List Nat) : V := .str (S l)
abbrev vK (k : Kd) : V := .str (kdS k)
theorem kinds_zip : ∀ ps : List (List Nat), kinds ps = List.zipWith kindOf ps (ps.tail ++ [[]])
  | [] => rfl
  | p :: r => by
    show kindOf p (r.headD []) :: kinds r = List.zipWith kindOf (p :: r) (r ++ [[]])
    rw [kinds_zip r]
    cases r with
    | nil => rfl
    | cons q r => rfl
theorem kinds_len (ps : List (List Nat)) : (kinds ps).length = ps.length := by
  induction ps with
  | nil => rfl
  | cons p r ih =>
    show (kindOf p (r.headD []) :: kinds r).length = _
    rw [List.length_cons, List.length_cons, ih]
theorem kinds_at {ps : List (List Nat)} {i : Nat} {p a : List Nat} (h1 : ps[i]? = some p) (h2 : (ps.tail ++ [[]])[i]? = some a) : (kinds ps)[i]? = some (kindOf p a) := by
  rw [kinds_zip, List.getElem?_zipWith, h1, h2]
def spKinds : Sp := fun vs H Q _ => ∃ (a : Addr) (ps : List (List Nat)), vs = [.ref a] ∧ H a = some (.lst (ps.map vS)) ∧ (∀ p ∈ ps, okS p) ∧ ps.length ≤ 900 ∧ ∀ H' b, Same H H' → H b = none → H' b = some (.lst ((kinds ps).map vK)) → Q (.ref b) H'
theorem cutT {x : V} {r : List V} : cutV (x :: r) (some 1) none = r := by
  unfold cutV
  rw [show HT.sIx (x :: r).length 0 (some 1) = 1 from by
    rw [show (some (1 : Int)) = some ((1 : Nat) : Int) from rfl, HT.sIx_nat]
    show min 1 (r.length + 1) = 1
    omega, HT.sIx_none]
  show (r.take (r.length + 1 - 1)) = r
  rw [Nat.add_sub_cancel, List.take_length]
/-- the first list is empty -/
theorem lc_zip0 {K : PySem.W.Frag} {a b : Addr} {ys : List V} {g : TG} {tt : TT} {te : TE} {vs : List Nat} {σ : L2.St} {H1 : Hp} {D : Addr} {Qd : Hp → Prop} (ha : SqL K (upd H1 D (.lst [])) a []) (hb : SqL K (upd H1 D (.lst [])) b ys) (hd : Qd (upd H1 D (.lst []))) :
    ∃ W : Nat → Nat → Hp → Prop, (∃ m, W 0 m (upd H1 D (.lst []))) ∧ ∀ i m H, W i m H →
      ((Itz K a b).stop i H ∧ Qd H) ∨ ((Itz K a b).go i H ∧ ∃ Nx : Hp → Prop, (∀ H', Nx H' → ∃ m', m' < m ∧ W (i + 1) m' H') ∧ ∀ v H', (Itz K a b).yld i H v H' → g v (wipe σ vs) H' fun σ2 H2 => wipe σ2 vs = wipe σ vs ∧ tt σ2 H2 fun b H3 =>
        if b = true then te σ2 H3 fun y H4 => ∃ acc, H4 D = some (.lst acc) ∧ acc.length < sizeLine ∧ Nx (upd H4 D (.lst (acc ++ [y]))) else Nx H3) := by
  refine ⟨fun i m H => H = upd H1 D (.lst []), ⟨0, rfl⟩, ?_⟩
  rintro i m H rfl
  exact .inl ⟨⟨[], ys, ha, hb, .inl (Nat.zero_le _)⟩, hd⟩
section
variable {P : Program} {w : World} {K : PySem.W.Frag} {mg : Str → Option Value} {base : Heap} {f fK : Addr} {fd dK : FuncData}
theorem scKs : FnScope ["pieces", "piece", "after"] ["pieces"] (defScope sKinds) := ⟨rfl, rfl, rfl, by decide +kernel, rfl, by decide +kernel, by decide +kernel⟩
theorem ok_kinds (F : Fun K "_kinds" "_kinds" sKinds f fd) (zp : mg "zip" = none) (gK : mg "_kind" = some (.ref fK)) (kK : PySem.W.keepIn K (.ref fK) = true) (bK : Binds K dK ["piece", "after"] []) (GK : FnOk P w K mg base CX0 3 fK dK ["piece", "after"] spKind) : FnOk P w K mg base CX0 4 f fd ["pieces"] spKinds := by
  refine F.ok scKs (fun vs H Q E h => ?_) (fun cdv A outer s H vs Q E hr h => ?_)
  · obtain ⟨a, ps, rfl, _⟩ := h
    rfl
  · obtain ⟨a, ps, rfl, ea, hp, hl, q⟩ := h
    refine ⟨_, pss_one (ps_ret (pe_lc (g := gTup K 2 (gCons (gName 1) (gCons (gName 2) gNil))) (own := [("piece", 1), ("after", 2)]) rfl scKs.nd (pi_zip (by rfl) zp (pa_cons (pv 0) (pa_cons (pe_op op_cat (pe_slice sl_list (pv 0) (po_some pe_int) po_none) (pe_lst (pa_cons pe_str pa_nil))) pa_nil))) (blkOk_by (N := ["pieces", "piece", "after"]) (sc := defScope sKinds) (by decide +kernel))
          (fun _ _ _ _ _ => pg_tup rfl (pgs_cons (pg_name (i := 1) scKs.nd rfl (Or.inl rfl)) (pgs_cons (pg_name (i := 2) scKs.nd rfl (Or.inl rfl)) pgs_nil))) (fun _ _ _ _ _ => pts_nil) (fun _ _ _ _ _ => pe_call GK hr (by rfl) gK kK bK .nil pass0 (pa_cons (pv 1) (pa_cons (pv 2) pa_nil))))), ?_⟩
    refine ⟨_, rfl, _, rfl, 1, rfl, a, _, rfl, SqL.of ea, fun p1 hp1 => ?_⟩
    have ect : cutV (ps.map vS) (some 1) none = ps.tail.map vS := by
      cases ps with
      | nil => rfl
      | cons p r => exact cutT
    rw [ect]
    refine ⟨(by show 1 ≤ sizeLine; decide), fun p2 hp2 => ?_⟩
    have s1 := same_upd (o := .lst (ps.tail.map vS)) hp1
    have s2 := same_upd (o := .lst [V.str ""]) hp2
    refine ⟨p1, p2, _, _, rfl, rfl, s2 _ _ upd_same, upd_same, ?_, fun p3 hp3 => ?_⟩
    · rw [List.length_map, List.length_tail]
      have : (1000 : Nat) < sizeLine := by decide
      show ps.length - 1 + 1 ≤ _
      omega
    have s3 := same_upd (o := .lst (ps.tail.map vS ++ [V.str ""])) hp3
    have ey : ps.tail.map vS ++ [V.str ""] = (ps.tail ++ [[]]).map vS := by
      rw [List.map_append]
      rfl
    have e3 : (upd (upd (upd H p1 (.lst (ps.tail.map vS))) p2 (.lst [V.str ""])) p3 (.lst (ps.tail.map vS ++ [V.str ""]))) p3 = some (.lst ((ps.tail ++ [[]]).map vS)) := by
      rw [← ey]
      exact upd_same
    have s13 := (s1.trans s2).trans s3
    generalize upd _ p3 _ = H3 at s13 e3
    cases ps with
    | nil =>
      refine ⟨a, p3, [], _, rfl, SqL.of (s13 _ _ ea), SqL.of e3, fun D hD => lc_zip0 (SqL.of (same_upd hD _ _ (s13 _ _ ea))) (SqL.of (same_upd hD _ _ e3)) ?_⟩
      exact q _ D (s13.trans (same_upd hD)) (s13.free hD) upd_same
    | cons p0 r =>
      refine ⟨a, p3, _, _, rfl, SqL.of (s13 _ _ ea), SqL.of e3, fun D hD => lc_zipL (by simp) (PvV H3 D ((kinds (p0 :: r)).map vK)) (PvV.zero hD) (fun i G p => ⟨SqL.of (p.1 _ _ (s13 _ _ ea)), SqL.of (p.1 _ _ e3)⟩) (fun i x y T G hi hj p hT => ?_) (fun G p => ?_)⟩
      · rw [List.getElem?_map] at hi hj
        obtain ⟨pp, g1, rfl⟩ := Option.map_eq_some_iff.mp hi
        obtain ⟨aa, g2, rfl⟩ := Option.map_eq_some_iff.mp hj
        have oa : okS aa := by
          rcases List.mem_append.mp (List.mem_of_getElem? g2) with z | z
          · exact hp aa (List.mem_of_mem_tail z)
          · rw [List.mem_singleton.mp z]
            exact ⟨Nat.zero_le _, by decide +kernel⟩
        refine ⟨T, _, rfl, SqT.of upd_same, rfl, _, _, rfl, _, _, rfl, rfl, rfl, _, rfl, _, rfl, pp, aa, rfl, hp pp (List.mem_of_getElem? g1), oa, fun G2 s => ?_⟩
        exact p.step hD ((same_upd hT).trans s) (by rw [List.getElem?_map, kinds_at g1 g2]; rfl) (by rw [List.length_map, kinds_len]; omega)
      · obtain ⟨sD, eD⟩ := p.all (by rw [List.length_map, kinds_len, List.length_map]; simp)
        exact q G D (s13.trans sD) (s13.free hD) eD
end
end OM

namespace OM
open PySem PySem.Spec PyProof.Rows L2
def PvM (H : Hp) (D : Addr) (bs : List Bool) (i : Nat) (H' : Hp) : Prop := Same H H' ∧ H' D = some (.lst ((bs.take i).map V.bl))
theorem PvM.zero {H : Hp} {D : Addr} {bs : List Bool} (hD : H D = none) : PvM H D bs 0 (upd H D (.lst [])) := ⟨same_upd hD, upd_same⟩
theorem PvM.step {H H3 H4 : Hp} {D : Addr} {bs : List Bool} {i : Nat} {b : Bool} (hD : H D = none) (hl : bs.length ≤ 1000) (hb : bs[i]? = some b) (p : PvM H D bs i H3) (s : Same H3 H4) : ∃ acc, H4 D = some (.lst acc) ∧ acc.length < sizeLine ∧ PvM H D bs (i + 1) (upd H4 D (.lst (acc ++ [V.bl b]))) := by
  refine ⟨_, s _ _ p.2, ?_, same_put hD (p.1.trans s), ?_⟩
  · rw [List.length_map, List.length_take]
    have : (1000 : Nat) < sizeLine := by decide
    omega
  · rw [upd_same, List.take_add_one, hb, List.map_append]
    rfl
theorem PvM.all {H H5 : Hp} {D : Addr} {bs : List Bool} {n : Nat} (p : PvM H D bs n H5) (hn : n = bs.length) : Same H H5 ∧ H5 D = some (.lst (bs.map V.bl)) := by
  have e := p.2
  rw [hn, List.take_length] at e
  exact ⟨p.1, e⟩
theorem all_map_id {α : Type} (f : α → Bool) (l : List α) : (l.map f).all id = l.all f := by
  rw [List.all_map]
  rfl
theorem Dt.tup_of {S : Addr → Prop} {H : Hp} {v : V} {ds : List PyData} (h : Dt S H v (.tuple ds)) : ∃ a xs, v = .ref a ∧ H a = some (.tup xs) ∧ xs.length ≤ 1000 ∧ DtAll S H xs ds := by
  cases h with
  | «at» a => cases a
  | @tup a xs _ s e hl h => exact ⟨a, xs, rfl, e, hl, h⟩
theorem cut_tail {x : V} {r : List V} : cutV (x :: r) (some 1) none = r := by
  unfold cutV
  rw [show HT.sIx (x :: r).length 0 (some 1) = 1 from by
    rw [show (some (1 : Int)) = some ((1 : Nat) : Int) from rfl, HT.sIx_nat]
    show min 1 (r.length + 1) = 1
    omega, HT.sIx_none]
  show (r.take (r.length + 1 - 1)) = r
  rw [Nat.add_sub_cancel, List.take_length]
theorem cut_part {x : V} {r : List V} : ¬ (HT.sIx (x :: r).length 0 (some 1) = 0 ∧ HT.sIx (x :: r).length (x :: r).length none = (x :: r).length) := fun h => by
  have e : HT.sIx (x :: r).length 0 (some 1) = 1 := by
    rw [show (some (1 : Int)) = some ((1 : Nat) : Int) from rfl, HT.sIx_nat]
    show min 1 (r.length + 1) = 1
    omega
  rw [e] at h
  exact absurd h.1 (by decide)
def strD : PyData → Str
  | .str x => x
  | _ => ""
theorem dt_names {S : Addr → Prop} {H : Hp} : ∀ {xs : List V} {ds : List PyData}, DtAll S H xs ds → ds.all isNameD = true → xs = (ds.map strD).map V.str
  | _, _, .nil, _ => rfl
  | _, _, .cons h r, e => by
    rw [List.all_cons, Bool.and_eq_true] at e
    have q := dt_names r e.2
    cases h with
    | «at» a =>
      cases a with
      | str x =>
        rw [q]
        rfl
      | _ => cases e.1
    | _ => cases e.1
abbrev sIsSet : Stmt := top 25
def ltS (a b : Str) : Bool := decide (a.cps.toList < b.cps.toList)
def setD : PyData → Bool
  | .tuple ds => ds.all isNameD && (List.zipWith ltS (ds.map strD) (ds.map strD).tail).all id
  | _ => false
def spSet : Sp := fun vs H Q _ => ∃ (S : Addr → Prop) (v : V) (d : PyData), vs = [v] ∧ Dt S H v d ∧ smlD d = true ∧ ∀ H', Same H H' → Q (.bl (setD d)) H'
theorem lc_zipS {K : PySem.W.Frag} {a b : Addr} {xs ys : List V} {g : TG} {tt : TT} {te : TE} {vs : List Nat} {σ : L2.St} {H1 : Hp} {D : Addr} {Qd : Hp → Prop} (hlen : ys.length ≤ xs.length) (Pv : Nat → Hp → Prop) (h0 : Pv 0 (upd H1 D (.lst []))) (hl : ∀ i H, Pv i H → SqT K H a xs ∧ SqT K H b ys)
    (hs : ∀ i x y T H, xs[i]? = some x → ys[i]? = some y → Pv i H → H T = none → g (.ref T) (wipe σ vs) (upd H T (.tup [x, y])) fun σ2 H2 => wipe σ2 vs = wipe σ vs ∧ tt σ2 H2 fun b H3 =>
      if b = true then te σ2 H3 fun y H4 => ∃ acc, H4 D = some (.lst acc) ∧ acc.length < sizeLine ∧ Pv (i + 1) (upd H4 D (.lst (acc ++ [y]))) else Pv (i + 1) H3) (hd : ∀ H, Pv ys.length H → Qd H) :
    ∃ W : Nat → Nat → Hp → Prop, (∃ m, W 0 m (upd H1 D (.lst []))) ∧ ∀ i m H, W i m H →
      ((RZ.ItzT K a b).stop i H ∧ Qd H) ∨ ((RZ.ItzT K a b).go i H ∧ ∃ Nx : Hp → Prop, (∀ H', Nx H' → ∃ m', m' < m ∧ W (i + 1) m' H') ∧ ∀ v H', (RZ.ItzT K a b).yld i H v H' → g v (wipe σ vs) H' fun σ2 H2 => wipe σ2 vs = wipe σ vs ∧ tt σ2 H2 fun b H3 =>
        if b = true then te σ2 H3 fun y H4 => ∃ acc, H4 D = some (.lst acc) ∧ acc.length < sizeLine ∧ Nx (upd H4 D (.lst (acc ++ [y]))) else Nx H3) := by
  refine ⟨fun i m H => i ≤ ys.length ∧ m = ys.length - i ∧ Pv i H, ⟨_, Nat.zero_le _, rfl, h0⟩, ?_⟩
  rintro i m H ⟨hi, rfl, p⟩
  obtain ⟨qx, qy⟩ := hl i H p
  rcases Nat.lt_or_ge i ys.length with hlt | hge
  · have hx : xs[i]? = some (xs[i]'(by omega)) := List.getElem?_eq_getElem (by omega)
    have hy : ys[i]? = some ys[i] := List.getElem?_eq_getElem hlt
    refine .inr ⟨⟨xs, ys, _, _, qx, qy, hx, hy⟩, Pv (i + 1), fun H' p' => ⟨ys.length - (i + 1), by omega, hlt, rfl, p'⟩, ?_⟩
    rintro v H' ⟨T, x', y', rfl, hT, rfl, f1, f2⟩
    exact hs i x' y' T H (f1 xs qx) (f2 ys qy) p hT
  · obtain rfl : i = ys.length := by omega
    exact .inl ⟨⟨xs, ys, qx, qy, .inr (Nat.le_refl _)⟩, hd H p⟩
theorem zipWith_idx {α β γ : Type} {f : α → β → γ} {l : List α} {r : List β} {i : Nat} {x : α} {y : β} (h1 : l[i]? = some x) (h2 : r[i]? = some y) : (List.zipWith f l r)[i]? = some (f x y) := by
  rw [List.getElem?_zipWith, h1, h2]
theorem tail_strs (ls : List Str) : (ls.map V.str).tail = ls.tail.map V.str := by cases ls <;> rfl
section
variable {P : Program} {w : World} {K : PySem.W.Frag} {mg : Str → Option Value} {base : Heap} {f fI : Addr} {fd dI : FuncData}
theorem scSet : FnScope ["value", "name", "after"] ["value"] (defScope sIsSet) := ⟨rfl, rfl, rfl, by decide +kernel, rfl, by decide +kernel, by decide +kernel⟩
theorem ok_isset (F : Fun K "is_set" "is_set" sIsSet f fd) (T : TxtN K mg) (TFt : mg "tuple" = none) (TFz : mg "zip" = none) (gI : mg "is_name" = some (.ref fI)) (FI : Fun K "is_name" "is_name" sIsName fI dI) (bI : Binds K dI ["value"] []) : FnOk P w K mg base CX0 2 f fd ["value"] spSet := by
  have GI : FnOk P w K mg base CX0 1 fI dI ["value"] spName := ok_isname FI T
  refine F.ok scSet (fun vs H Q E h => ?_) (fun cdv A outer s H vs Q E hr h => ?_)
  · obtain ⟨S, v, d, rfl, _⟩ := h
    rfl
  · obtain ⟨S, v, d, rfl, hd, sm, q⟩ := h
    refine ⟨_, pss_one (ps_ret (pe_and (pe_callB call_isi (by rfl) T.isi (by decide +kernel) (pa_cons (pv 0) (pa_cons (pe_bltn (v := .ty "tuple") (u := .type "tuple") (by rfl) TFt (by decide +kernel) rfl) pa_nil)))
      (pe_and (pe_callB (cr_all rfl) (by rfl) T.all (by decide +kernel) (pa_cons (pe_lc (own := [("name", 1)]) rfl scSet.nd (pi_tup (pv 0)) (blkOk_by (N := ["value", "name", "after"]) (sc := defScope sIsSet) (by decide +kernel))
            (fun _ _ _ _ _ => pg_name (i := 1) scSet.nd rfl (Or.inl rfl)) (fun _ _ _ _ _ => pts_nil) (fun _ _ _ _ _ => pe_call GI hr (by rfl) gI FI.kp bI .nil pass0 (pa_cons (pv 1) pa_nil))) pa_nil))
      (pe_one (pe_callB (cr_all rfl) (by rfl) T.all (by decide +kernel) (pa_cons (pe_lc (g := gTup K 2 (gCons (gName 1) (gCons (gName 2) gNil))) (own := [("name", 1), ("after", 2)]) rfl scSet.nd (RZ.pi_zipA (by rfl) TFz (pa_cons (pv 0) (pa_cons (pe_slice sl_tupA (pv 0) (po_some pe_int) po_none) pa_nil))) (blkOk_by (N := ["value", "name", "after"]) (sc := defScope sIsSet) (by decide +kernel))
            (fun _ _ _ _ _ => pg_tup rfl (pgs_cons (pg_name (i := 1) scSet.nd rfl (Or.inl rfl)) (pgs_cons (pg_name (i := 2) scSet.nd rfl (Or.inl rfl)) pgs_nil))) (fun _ _ _ _ _ => pts_nil) (fun _ _ _ _ _ => pe_cmpR op_lt_str (pv 1) (pv 2) (nomark _))) pa_nil)))))), ?_⟩
    cases ht : isTupD d with
    | false =>
      have e : setD d = false := by cases d <;> first | rfl | cases ht
      refine isi_te (x := v) rfl hd.tyx ((kit_tup d).trans (congrArg some ht)) ⟨_, rfl, iteF ?_⟩
      have z := q H (Same.refl _)
      rw [e] at z
      exact z
    | true =>
      cases d with
      | tuple ds =>
        obtain ⟨a, xs, rfl, ea, hl, hx⟩ := hd.tup_of
        have sa : smlAll ds = true := by
          unfold smlD at sm
          exact sm
        have xl := hx.length
        refine isi_te (x := .ref a) rfl (.base (.tup ea)) (kit_tup (.tuple ds)) ⟨_, rfl, iteT ?_⟩
        refine ⟨_, rfl, a, rfl, ⟨xs, SqT.of ea⟩, fun Dl hD => lc_tup (PvM H Dl (ds.map isNameD)) (PvM.zero hD) (fun i H' _ p => SqT.of (p.1 _ _ ea)) (fun i x H3 hi p => ?_) (fun H5 p => ?_)⟩
        · obtain ⟨e, he, hde⟩ := hx.get hi
          exact ⟨rfl, _, rfl, S, x, e, rfl, hde.mv (fun _ z => z) (fun b o _ eb => p.1 b o eb), sml_get sa he, fun H4 s4 => p.step hD (by rw [List.length_map]; omega) (by rw [List.getElem?_map, he]; rfl) s4⟩
        · obtain ⟨s5, e5⟩ := p.all (by rw [List.length_map]; exact xl)
          refine ⟨Dl, _, rfl, SqL.of e5, _, rfl, ite2 (fun h1 => ?_) (fun h1 => ?_)⟩
          · rw [all_map_id] at h1
            have exs := dt_names hx h1
            have ll : (ds.map strD).length = ds.length := List.length_map _
            have q' : ∀ H', Same H5 H' → Q (.bl ((List.zipWith ltS (ds.map strD) (ds.map strD).tail).all id)) H' := fun H' s' => by
              have z := q H' (s5.trans s')
              rw [show setD (.tuple ds) = (ds.all isNameD && (List.zipWith ltS (ds.map strD) (ds.map strD).tail).all id) from rfl, h1, Bool.true_and] at z
              exact z
            generalize ds.map strD = ls at exs ll q'
            have ea5 := s5 _ _ ea
            subst exs
            cases ls with
            | nil =>
              refine ⟨_, rfl, _, rfl, 1, rfl, a, _, rfl, SqT.of ea5, fun hw => ?_, fun hn => absurd (And.intro rfl rfl) hn⟩
              refine ⟨a, a, [], [], rfl, .inr ⟨SqT.of ea5, SqT.of ea5, fun D2 hD2 => lc_zipS (Nat.le_refl _) (PvM H5 D2 []) (PvM.zero hD2) (fun i H' p => ⟨SqT.of (p.1 _ _ ea5), SqT.of (p.1 _ _ ea5)⟩) (fun i x y T H3 hi _ _ _ => by simp at hi) (fun H6 p => ?_)⟩⟩
              exact ⟨D2, [], rfl, SqL.of p.2, q' _ p.1⟩
            | cons z0 r =>
              refine ⟨_, rfl, _, rfl, 1, rfl, a, _, rfl, SqT.of ea5, fun hw => absurd hw cut_part, fun _ pc hpc => ?_⟩
              rw [show cutV ((z0 :: r).map V.str) (some 1) none = r.map V.str from cut_tail]
              have sc := same_upd (o := .tup (r.map V.str)) hpc
              refine ⟨a, pc, (z0 :: r).map V.str, r.map V.str, rfl, .inr ⟨SqT.of (sc _ _ ea5), SqT.of upd_same, fun D2 hD2 => lc_zipS (by simp) (PvM _ D2 (List.zipWith ltS (z0 :: r) r)) (PvM.zero hD2) (fun i H' p => ⟨SqT.of (p.1 _ _ (sc _ _ ea5)), SqT.of (p.1 _ _ upd_same)⟩) (fun i x y T H3 hi hj p hT => ?_) (fun H6 p => ?_)⟩⟩
              · rw [List.getElem?_map] at hi hj
                obtain ⟨s1, g1, rfl⟩ := Option.map_eq_some_iff.mp hi
                obtain ⟨s2, g2, rfl⟩ := Option.map_eq_some_iff.mp hj
                refine ⟨T, _, rfl, SqT.of upd_same, rfl, _, _, rfl, _, _, rfl, rfl, rfl, _, rfl, _, rfl, s1, s2, rfl, rfl, ?_⟩
                refine p.step (b := ltS s1 s2) hD2 ?_ (zipWith_idx g1 g2) (same_upd hT)
                rw [List.length_zipWith]
                simp only [List.length_map, List.length_cons] at hl xl ⊢
                omega
              · obtain ⟨s7, e7⟩ := p.all (by rw [List.length_zipWith]; simp)
                exact ⟨D2, _, rfl, SqL.of e7, q' _ (sc.trans s7)⟩
          · have z := q _ s5
            rw [all_map_id] at h1
            have e0 : ds.all isNameD = false := by
              cases y : ds.all isNameD with
              | false => rfl
              | true => exact absurd y h1
            rw [show setD (.tuple ds) = (ds.all isNameD && (List.zipWith ltS (ds.map strD) (ds.map strD).tail).all id) from rfl, e0, Bool.false_and] at z
            exact z
      | _ => cases ht
end
end OM

namespace OM
open PySem PySem.Spec PyProof.Rows L2 VL
abbrev sNest : Stmt := top 39
/-- xs[-1], as a value that is changed -/
def rLast (K : PySem.W.Frag) : V → V → Hp → VK → Prop := fun x y H Q => ∃ p xs v, x = .ref p ∧ y = .int (-1) ∧ SqL K H p xs ∧ xs[xs.length - 1]? = some v ∧ Q v H
theorem pget_last {X : Cx} : PGet X (rLast X.K) := by
  intro pins s σ H x y v u Q I rx ry h
  obtain ⟨p, xs, z, rfl, rfl, hq, he, q⟩ := h
  cases rx
  obtain ⟨t, rfl⟩ := ry
  obtain ⟨its, r, pl, hz⟩ := I.list hq
  obtain ⟨w, ew, rw'⟩ := r.get he
  have hl := r.length
  have li := (List.getElem?_eq_some_iff.mp he).1
  have hn := line63
  have e : ((-1 : Int) + (its.toArray.size : Int)).toNat = xs.length - 1 := by
    rw [List.size_toArray]
    omega
  exact wpAny_getItem_list_neg pl.isList (by decide) (by rw [List.size_toArray]; omega) (by omega) (by rw [e]; simpa using ew) ⟨z, H, I, rw', q⟩
theorem isK (k : Kd) : decide (vK k = V.str "(") = decide (k = .op) ∧ decide (vK k = V.str ")") = decide (k = .cl) ∧ decide (vK k = V.str ", ") = decide (k = .cm) := by cases k <;> decide +kernel
abbrev vI (n : Nat) : V := .int (n : Int)
def spNest : Sp := fun vs H Q _ => ∃ (a : Addr) (ks : List Kd), vs = [.ref a] ∧ H a = some (.lst (ks.map vK)) ∧ ks.length ≤ 900 ∧ ∀ H', Same H H' → Q (.bl (nest [] ks)) H'
/-- the stack of commas, as the list at c has it -/
def NS (H : Hp) (c : Addr) (ks : List Kd) (i : Nat) (G : Hp) : Prop := Same H G ∧ ∃ st : List Nat, G c = some (.lst (st.reverse.map vI)) ∧ nest [] ks = nest st (ks.drop i) ∧ st.length ≤ i ∧ ∀ n ∈ st, n ≤ 1
section
variable {P : Program} {w : World} {K : PySem.W.Frag} {mg : Str → Option Value} {base : Heap} {f : Addr} {fd : FuncData}
theorem scNs : FnScope ["kinds", "commas", "kind"] ["kinds"] (defScope sNest) := ⟨rfl, rfl, rfl, by decide +kernel, rfl, by decide +kernel, by decide +kernel⟩
theorem ok_nestP (F : Fun K "_is_nested" "_is_nested" sNest f fd) (mA : ∃ t, mg "MAX_ARGUMENTS" = some (.int 2 t)) : FnOk P w K mg base CX0 1 f fd ["kinds"] spNest := by
  obtain ⟨t2, g2⟩ := mA
  refine F.ok scNs (fun vs H Q E h => ?_) (fun cdv A outer s H vs Q E hr h => ?_)
  · obtain ⟨a, ks, rfl, _⟩ := h
    rfl
  · obtain ⟨a, ks, rfl, ea, hl, q⟩ := h
    refine ⟨_, pss_cons (ps_set (i := 1) scNs.nd rfl (Or.inl rfl) (pe_lst pa_nil))
      (pss_cons (ps_for PassesOwn.never rfl (pi_list (pv 0)) (pg_name (i := 2) scNs.nd rfl (Or.inl rfl))
        (pss_one (ps_if (pt_cmpR op_eq (pv 2) pe_str (nomark _)) (pss_one (ps_expr (pe_bm PySem.F.plainAttrs_list PySem.F.slot_list_append PySem.F.type_list_append mt_append (pv 1) (pa_cons pe_int pa_nil))))
          (pss_one (ps_if (pt_cmpR op_eq (pv 2) pe_str (nomark _)) (pss_cons (ps_if (pt_not (pt_truth (pv 1) (fun _ => rfl))) (pss_one (ps_ret pe_bl)) pss_nil) (pss_one (ps_expr (pe_bm0 PySem.F.plainAttrs_list PySem.F.slot_list_pop PySem.F.type_list_pop mt_pop (pv 1)))))
            (pss_one (ps_if (pt_cmpR op_eq (pv 2) pe_str (nomark _))
              (pss_cons (ps_if (PW.pt (pw_or (pt_not (pt_truth (pv 1) (fun _ => rfl))) (pw_or1 (pt_cmpR op_eq (pe_ix ix_list (pv 1) (pe_un un_neg pe_int) (fun _ _ => rfl)) (pe_op op_sub (pe_glob (v := .int 2) (by rfl) g2 ⟨t2, rfl⟩) pe_int) (nomark _))))) (pss_one (ps_ret pe_bl)) pss_nil)
                (pss_one (ps_augS (pv 1) (pe_un un_neg pe_int) pget_last pe_int ip_add set_list))) pss_nil)))))))
      (pss_one (ps_ret (pe_notT (pv 1))))), ?_⟩
    have line : (1000 : Nat) < sizeLine := by decide
    refine ⟨(by show 0 ≤ sizeLine; decide), fun c hc => ?_⟩
    have sc := same_upd (o := .lst []) hc
    refine ⟨_, rfl, _, rfl, ⟨_, SqL.of (sc _ _ ea)⟩, for_list (xs := ks.map vK) (fun i σ G => (∃ x2, σ = [some (.ref a), some (.ref c), x2]) ∧ NS H c ks i G) ⟨⟨_, rfl⟩, sc, [], upd_same, rfl, Nat.zero_le _, fun n hn => by cases hn⟩ (fun i σ G _ h => SqL.of (h.2.1 _ _ ea)) (fun i x σ G hx h => ?_) (fun σ G h => ?_)⟩
    · obtain ⟨⟨x2, rfl⟩, sG, st, ec, en, ll, bd⟩ := h
      rw [List.getElem?_map] at hx
      obtain ⟨k, hk, rfl⟩ := Option.map_eq_some_iff.mp hx
      have ik := (List.getElem?_eq_some_iff.mp hk).1
      have ed : ks.drop i = k :: ks.drop (i + 1) := by
        rw [List.drop_eq_getElem_cons ik]
        congr 1
        have := List.getElem?_eq_getElem ik
        rw [hk] at this
        exact (Option.some.inj this).symm
      rw [ed] at en
      have sq : SqL K G c (st.reverse.map vI) := SqL.of ec
      have lr : (st.reverse.map vI).length = st.length := by rw [List.length_map, List.length_reverse]
      have put : ∀ st' : List Nat, Same H (upd G c (.lst (st'.reverse.map vI))) := fun _ => same_put hc sG
      obtain ⟨i1, i2, i3⟩ := isK k
      refine ⟨_, rfl, rfl, _, rfl, ?_⟩
      rw [i1]
      cases k with
      | op =>
        refine iteT ⟨_, rfl, .inl ⟨rfl, _, sq⟩, c, _, _, rfl, rfl, ec, by rw [lr]; omega, ⟨_, rfl⟩, ?_⟩
        have e : st.reverse.map vI ++ [.int 0] = (0 :: st).reverse.map vI := by
          rw [List.reverse_cons, List.map_append]
          rfl
        rw [e]
        refine ⟨put _, 0 :: st, upd_same, en, by rw [List.length_cons]; omega, fun n hn => ?_⟩
        rcases List.mem_cons.mp hn with rfl | hn
        · omega
        · exact bd n hn
      | cl =>
        refine iteF ⟨_, rfl, rfl, _, rfl, ?_⟩
        rw [i2]
        refine iteT ?_
        cases st with
        | nil =>
          have z := q G sG
          rw [en] at z
          exact ⟨_, rfl, false, .inl ⟨_, sq, rfl⟩, z⟩
        | cons n st =>
          have e : (n :: st).reverse.map vI = st.reverse.map vI ++ [vI n] := by
            rw [List.reverse_cons, List.map_append]
            rfl
          rw [e] at sq ec
          refine ⟨_, rfl, true, .inl ⟨_, sq, by simp⟩, ?_⟩
          refine ⟨_, rfl, .inl ⟨rfl, _, sq⟩, c, _, vI n, rfl, rfl, ec, by simp, ⟨_, rfl⟩, ?_⟩
          rw [List.dropLast_concat]
          exact ⟨put _, st, upd_same, en, by rw [List.length_cons] at ll; omega, fun m hm => bd m (List.mem_cons_of_mem _ hm)⟩
      | cm =>
        refine iteF ⟨_, rfl, rfl, _, rfl, ?_⟩
        rw [i2]
        refine iteF ⟨_, rfl, rfl, _, rfl, ?_⟩
        rw [i3]
        refine iteT ?_
        cases st with
        | nil =>
          have z := q G sG
          rw [en] at z
          exact ⟨_, rfl, false, .inl ⟨_, sq, rfl⟩, z⟩
        | cons n st =>
          have e : (n :: st).reverse.map vI = st.reverse.map vI ++ [vI n] := by
            rw [List.reverse_cons, List.map_append]
            rfl
          rw [e] at sq ec
          refine ⟨_, rfl, true, .inl ⟨_, sq, by simp⟩, ?_⟩
          have nb := bd n (List.mem_cons_self ..)
          refine ⟨_, rfl, 1, rfl, ⟨c, _, _, vI n, rfl, rfl, sq, atI_last _ _, 2, 1, rfl, rfl, rfl, _, rfl, ?_⟩⟩
          by_cases h1 : n = 1
          · subst h1
            have z := q G sG
            rw [en] at z
            exact z
          · have h0 : n = 0 := by omega
            subst h0
            refine ⟨_, rfl, 1, rfl, c, _, vI 0, rfl, rfl, sq, by simp, 0, 1, rfl, rfl, c, _, _, st.reverse.length, rfl, rfl, ec, ?_, ⟨_, rfl⟩, ?_⟩
            · unfold ixN
              rw [List.length_append, List.length_map, if_neg (by decide), if_pos (by simp; omega)]
              congr 1
              simp
              omega
            · have es : (st.reverse.map vI ++ [vI 0]).set st.reverse.length (.int (0 + 1)) = (1 :: st).reverse.map vI := by
                rw [List.set_append_right _ _ (by simp), List.reverse_cons, List.map_append]
                simp
              rw [es]
              refine ⟨put _, 1 :: st, upd_same, en, Nat.le_succ_of_le ll, fun m hm => ?_⟩
              rcases List.mem_cons.mp hm with rfl | hm
              · exact Nat.le_refl _
              · exact bd m (List.mem_cons_of_mem _ hm)
      | fn =>
        refine iteF ⟨_, rfl, rfl, _, rfl, ?_⟩
        rw [i2]
        refine iteF ⟨_, rfl, rfl, _, rfl, ?_⟩
        rw [i3]
        exact iteF ⟨⟨_, rfl⟩, sG, st, ec, en, by omega, bd⟩
      | «at» =>
        refine iteF ⟨_, rfl, rfl, _, rfl, ?_⟩
        rw [i2]
        refine iteF ⟨_, rfl, rfl, _, rfl, ?_⟩
        rw [i3]
        exact iteF ⟨⟨_, rfl⟩, sG, st, ec, en, by omega, bd⟩
      | wr =>
        refine iteF ⟨_, rfl, rfl, _, rfl, ?_⟩
        rw [i2]
        refine iteF ⟨_, rfl, rfl, _, rfl, ?_⟩
        rw [i3]
        exact iteF ⟨⟨_, rfl⟩, sG, st, ec, en, by omega, bd⟩
    · obtain ⟨⟨x2, rfl⟩, sG, st, ec, en, ll, bd⟩ := h
      have le : (ks.map vK).length = ks.length := List.length_map _
      rw [le, List.drop_length] at en
      refine ⟨_, rfl, _, .inl ⟨_, SqL.of ec, rfl⟩, ?_⟩
      have z := q G sG
      rw [en] at z
      have e : (!(!(st.reverse.map vI).isEmpty)) = st.isEmpty := by
        rw [Bool.not_not]
        cases st with
        | nil => rfl
        | cons n st => simp
      rw [e]
      exact z
end
end OM

namespace OM
open PySem PySem.Spec PyProof.Rows L2 VL
section
variable {X : Cx} {d : Addr} {es : Array DictEntry} {n : Nat}
/-- a written dict's get with a default -/
def tKGet (d : Addr) (K : PySem.W.Frag) (td ty tx : TE) : TE := fun σ H Q => td σ H fun x H1 => x = .ref d ∧ ty σ H1 fun y H2 => tx σ H2 fun z H3 => ∃ (k : Str) (r : Option Value), y = .str k ∧ PySem.W.nsIn K d k = some r ∧ (∀ u0, r = some u0 → ∃ v0, RelV v0 u0 ∧ Q v0 H3) ∧ (r = none → Q z H3)
theorem pe_kget {o e f : Expr} {apos cpos : Pos} {td ty tx : TE} (D : KDict X.K X.w d es n) (ho : PE X o td) (he : PE X e ty) (hf : PE X f tx) (m : M2 X o "get" apos e f cpos) : PE X (.Call (.Attribute o "get" apos) [e, f] [] cpos) (tKGet d X.K td ty tx) := by
  refine ⟨fun pins s σ H Q I h => ?_⟩
  refine wpAny_Call_method m.base m.few m.line PySem.F.plainAttrs_dict PySem.F.slot_dict_get PySem.F.type_dict_get (thn (ho.run pins s σ H _ I h) fun u s1 ⟨x, H1, I1, rx, ex, q1⟩ => ?_)
  subst ex
  obtain rfl : u = Value.ref d := rx
  refine ⟨kd_type D I1, fun b q => ?_, ?_⟩
  · cases q
    exact ⟨_, I1.kIn d _ D.at_, rfl⟩
  rw [m.trees]
  refine Calls.callWith_builtin rfl (Calls.evalArgs_plain (Calls.spliced_cons (thn (he.run pins s1 σ H1 _ I1 q1) fun iv s2 ⟨y, H2, I2, ry, q2⟩ =>
    Calls.spliced_cons (thn (hf.run pins s2 σ H2 _ I2 q2) fun fv s3 ⟨z, H3, I3, rz, k, r, ek, hk, q3, q4⟩ => Calls.spliced_nil ?_))))
  subst ek
  obtain ⟨t, rfl⟩ := ry
  refine call_meetsIn PySem.F.slot_dict_get (kd_type D I3) PySem.F.entry_dict_get (PySem.F.args_dict_get_3 _ _ _) (meets_dict_get_default (PySem.strKind X.prog X.w) d (PySem.strKind_is X.prog X.w k t) D.low fv) ⟨_, PySem.W.mapOf_K (prog := X.prog) I3.kIn D.at_ D.lit, ?_⟩
  rw [PySem.W.find_K D.at_ hk]
  cases r with
  | none => exact ⟨z, H3, I3.tok _, rz, q4 rfl⟩
  | some u0 =>
    obtain ⟨v0, r0, q0⟩ := q3 u0 rfl
    exact ⟨v0, H3, I3.tok _, r0, q0⟩
theorem pe_kgetK {K : PySem.W.Frag} {w : World} {o e f : Expr} {apos cpos : Pos} {td ty tx : TE} (D : KDict K w d es n) (ho : PE X o td) (he : PE X e ty) (hf : PE X f tx) (hK : X.K = K) (hw : X.w = w) (m : M2 X o "get" apos e f cpos) : PE X (.Call (.Attribute o "get" apos) [e, f] [] cpos) (tKGet d K td ty tx) := by
  subst hK hw
  exact pe_kget D ho he hf m
end
theorem op_in_seqK {X : Cx} {K : PySem.W.Frag} (hK : X.K = K) : OpR X (compareOp .In) (rIn K false) := by
  subst hK
  exact op_in_seq
abbrev sTurn : Stmt := top 38
/-- FOLLOWERS -/
def folL : Option Kd → List Str
  | none => ["function", "atom"]
  | some .fn => ["("]
  | some .op => ["function", "atom", ")"]
  | some .cm => ["function", "atom"]
  | some .at => [", ", ")", "end"]
  | some .cl => [", ", ")", "end"]
  | some .wr => []
def prS : Option Kd → Str
  | none => "start"
  | some k => kdS k
def nxS : Option Kd → Str
  | none => "end"
  | some k => kdS k
theorem fol_in (a b : Option Kd) : inV (.str (nxS b)) ((folL a).map V.str) = fol a b := by
  cases a with
  | none =>
    cases b with
    | none => decide +kernel
    | some k => cases k <;> decide +kernel
  | some j =>
    cases b with
    | none => cases j <;> decide +kernel
    | some k => cases j <;> cases k <;> decide +kernel
structure FollF (K : PySem.W.Frag) (w : World) (mg : Str → Option Value) : Prop where
  ex : ∃ d es n, mg "FOLLOWERS" = some (.ref d) ∧ KDict K w d es n ∧ (∀ a, a ≠ some .wr → ∃ t, PySem.W.nsIn K d (prS a) = some (some (.ref t)) ∧ ∀ H, SqT K H t ((folL a).map V.str)) ∧ PySem.W.nsIn K d "wrong" = some none
theorem turn_zip : ∀ (ks : List Kd) (prev : Option Kd), turn prev ks = (List.zipWith fol (prev :: ks.map some) (ks.map some ++ [none])).all id
  | [], prev => by
    show fol prev none = (fol prev none && true)
    rw [Bool.and_true]
  | k :: r, prev => by
    show (fol prev (some k) && turn (some k) r) = (fol prev (some k) && (List.zipWith fol (some k :: r.map some) (r.map some ++ [none])).all id)
    rw [turn_zip r (some k)]
def spTurn : Sp := fun vs H Q _ => ∃ (a : Addr) (ks : List Kd), vs = [.ref a] ∧ H a = some (.lst (ks.map vK)) ∧ ks.length ≤ 900 ∧ ∀ H', Same H H' → Q (.bl (turn none ks)) H'
section
variable {P : Program} {w : World} {K : PySem.W.Frag} {mg : Str → Option Value} {base : Heap} {f : Addr} {fd : FuncData}
theorem scTu : FnScope ["kinds", "kind", "after"] ["kinds"] (defScope sTurn) := ⟨rfl, rfl, rfl, by decide +kernel, rfl, by decide +kernel, by decide +kernel⟩
theorem ok_turn (F : Fun K "_is_in_turn" "_is_in_turn" sTurn f fd) (zp : mg "zip" = none) (al : mg "all" = none) (FF : FollF K w mg) : FnOk P w K mg base CX0 1 f fd ["kinds"] spTurn := by
  obtain ⟨d, es, n, gF, D, six, wr⟩ := FF.ex
  refine F.ok scTu (fun vs H Q E h => ?_) (fun cdv A outer s H vs Q E hr h => ?_)
  · obtain ⟨a, ks, rfl, _⟩ := h
    rfl
  · obtain ⟨a, ks, rfl, ea, hl, q⟩ := h
    refine ⟨_, pss_one (ps_ret (pe_callB (cr_all rfl) (by rfl) al (by decide +kernel) (pa_cons (pe_lc (g := gTup K 2 (gCons (gName 1) (gCons (gName 2) gNil))) (own := [("kind", 1), ("after", 2)]) rfl scTu.nd (pi_zip (by rfl) zp (pa_cons (pe_op op_cat (pe_lst (pa_cons pe_str pa_nil)) (pv 0)) (pa_cons (pe_op op_cat (pv 0) (pe_lst (pa_cons pe_str pa_nil))) pa_nil))) (blkOk_by (N := ["kinds", "kind", "after"]) (sc := defScope sTurn) (by decide +kernel))
          (fun _ _ _ _ _ => pg_tup rfl (pgs_cons (pg_name (i := 1) scTu.nd rfl (Or.inl rfl)) (pgs_cons (pg_name (i := 2) scTu.nd rfl (Or.inl rfl)) pgs_nil))) (fun _ _ _ _ _ => pts_nil) (fun _ _ _ _ _ => pe_cmpR (op_in_seqK (K := K) rfl) (pv 2) (pe_kgetK (K := K) (w := w) D (pe_glob (v := .ref d) (by rfl) gF rfl) (pv 1) (pe_tup pa_nil) rfl rfl ⟨rfl, rfl, rfl, rfl⟩) (by rfl))) pa_nil))), ?_⟩
    have line : (1000 : Nat) < sizeLine := by decide
    refine ⟨(by show 1 ≤ sizeLine; decide), fun p1 h1 => ?_⟩
    have s1 := same_upd (o := .lst [V.str "start"]) h1
    refine ⟨_, rfl, p1, a, _, _, rfl, rfl, upd_same, s1 _ _ ea, (by show 1 + (ks.map vK).length ≤ _; rw [List.length_map]; omega), fun p2 h2 => ?_⟩
    have ex : [V.str "start"] ++ ks.map vK = (none :: ks.map some).map (fun b => V.str (prS b)) := by
      rw [List.map_cons, List.map_map]
      rfl
    rw [ex]
    have s2 := same_upd (o := .lst ((none :: ks.map some).map (fun b => V.str (prS b)))) h2
    refine ⟨_, rfl, (by show 1 ≤ sizeLine; decide), fun p3 h3 => ?_⟩
    have s3 := same_upd (o := .lst [V.str "end"]) h3
    refine ⟨a, p3, _, _, rfl, rfl, s3 _ _ (s2 _ _ (s1 _ _ ea)), upd_same, (by show (ks.map vK).length + 1 ≤ _; rw [List.length_map]; omega), fun p4 h4 => ?_⟩
    have ey : ks.map vK ++ [V.str "end"] = (ks.map some ++ [none]).map (fun b => V.str (nxS b)) := by
      rw [List.map_append, List.map_map]
      rfl
    rw [ey]
    have s4 := same_upd (o := .lst ((ks.map some ++ [none]).map (fun b => V.str (nxS b)))) h4
    have e2 := s4 _ _ (s3 _ _ (upd_same (H := upd H p1 (.lst [V.str "start"])) (a := p2) (o := .lst ((none :: ks.map some).map (fun b => V.str (prS b))))))
    have e4 := upd_same (H := upd (upd (upd H p1 (.lst [V.str "start"])) p2 (.lst ((none :: ks.map some).map (fun b => V.str (prS b))))) p3 (.lst [V.str "end"])) (a := p4) (o := .lst ((ks.map some ++ [none]).map (fun b => V.str (nxS b))))
    have s14 := ((s1.trans s2).trans s3).trans s4
    generalize upd _ p4 _ = H4 at s14 e2 e4
    have lz : (List.zipWith fol (none :: ks.map some) (ks.map some ++ [none])).length = ks.length + 1 := by
      rw [List.length_zipWith]
      simp
    refine ⟨p2, p4, _, _, rfl, SqL.of e2, SqL.of e4, fun D0 hD => lc_zipL (by simp) (PvV H4 D0 ((List.zipWith fol (none :: ks.map some) (ks.map some ++ [none])).map V.bl)) (PvV.zero hD) (fun i G p => ⟨SqL.of (p.1 _ _ e2), SqL.of (p.1 _ _ e4)⟩) (fun i x y T G hi hj p hT => ?_) (fun G p => ?_)⟩
    · rw [List.getElem?_map] at hi hj
      obtain ⟨pa, g1, rfl⟩ := Option.map_eq_some_iff.mp hi
      obtain ⟨nb, g2, rfl⟩ := Option.map_eq_some_iff.mp hj
      have fin : ∀ G2, Same G G2 → ∃ acc, G2 D0 = some (.lst acc) ∧ acc.length < sizeLine ∧ PvV H4 D0 ((List.zipWith fol (none :: ks.map some) (ks.map some ++ [none])).map V.bl) (i + 1) (upd G2 D0 (.lst (acc ++ [.bl (fol pa nb)]))) := fun G2 s => p.step hD s (by
        rw [List.getElem?_map, List.getElem?_zipWith, g1, g2]
        rfl) (by rw [List.length_map, lz]; omega)
      have sT := same_upd (o := .tup [V.str (prS pa), V.str (nxS nb)]) hT
      refine ⟨T, _, rfl, SqT.of upd_same, rfl, _, _, rfl, _, _, rfl, rfl, rfl, _, rfl, rfl, _, rfl, (by show 0 ≤ sizeLine; decide), fun T2 hT2 => ?_⟩
      have sT2 := same_upd (o := .tup []) hT2
      by_cases hw : pa = some .wr
      · subst hw
        refine ⟨"wrong", none, rfl, wr, (fun u0 z => by cases z), fun _ => ⟨T2, [], rfl, .inr (SqT.of upd_same), rfl, by decide, ?_⟩⟩
        have e : inV (V.str (nxS nb)) [] = fol (some .wr) nb := fol_in (some .wr) nb
        rw [e]
        exact fin _ (sT.trans sT2)
      · obtain ⟨t, ht, sq⟩ := six pa hw
        refine ⟨prS pa, _, rfl, ht, fun u0 z => ?_, fun z => by cases z⟩
        cases z
        refine ⟨.ref t, rfl, t, _, rfl, .inr (sq _), rfl, ?_, ?_⟩
        · cases pa with
          | none => decide
          | some k => cases k <;> decide
        · rw [fol_in]
          exact fin _ (sT.trans sT2)
    · obtain ⟨sD, eD⟩ := p.all (by rw [List.length_map, lz]; simp)
      refine ⟨D0, _, rfl, SqL.of eD, ?_⟩
      rw [← turn_zip ks none]
      exact q G (s14.trans sD)
end
end OM

namespace OM
open PySem PySem.Spec PyProof.Rows L2 VL
abbrev sIsVal : Stmt := top 26
abbrev sCheck : Stmt := top 32
/-- words and signs: what they are made of -/
theorem toks_of : ∀ (n : Nat) (l acc : List Nat), l.length ≤ n → ∀ p ∈ toks acc l, (∀ c ∈ p, c ∈ acc ++ l) ∧ p.length ≤ acc.length + l.length
  | _, [], acc, _, p, hp => by
    have hp : p ∈ fl acc [] := hp
    unfold fl at hp
    split at hp
    · cases hp
    · rw [List.mem_singleton.mp hp, List.append_nil]
      exact ⟨fun c hc => hc, Nat.le_refl _⟩
  | 0, c :: r, _, h, _, _ => absurd h (Nat.not_succ_le_zero _)
  | n + 1, c :: r, acc, hl, p, hp => by
    have lr : r.length ≤ n := by simp at hl; omega
    have flm : ∀ {t : List Nat} {L : List (List Nat)}, p ∈ fl acc (t :: L) → p = acc ∨ p = t ∨ p ∈ L := fun {t L} h => by
      unfold fl at h
      split at h
      · rcases List.mem_cons.mp h with z | z
        · exact .inr (.inl z)
        · exact .inr (.inr z)
      · rcases List.mem_cons.mp h with z | h
        · exact .inl z
        · rcases List.mem_cons.mp h with z | z
          · exact .inr (.inl z)
          · exact .inr (.inr z)
    rcases way c r with h | ⟨r', rfl, rfl⟩ | ⟨h, h2⟩
    · rw [toks_d h] at hp
      rcases flm hp with rfl | rfl | hp
      · exact ⟨fun x hx => List.mem_append_left _ hx, by omega⟩
      · exact ⟨fun x hx => by rw [List.mem_singleton.mp hx]; simp, by simp; omega⟩
      · obtain ⟨a, b⟩ := toks_of n r [] lr p hp
        exact ⟨fun x hx => List.mem_append_right _ (List.mem_cons_of_mem _ (a x hx)), by simp at b ⊢; omega⟩
    · rw [toks_cm] at hp
      rcases flm hp with rfl | rfl | hp
      · exact ⟨fun x hx => List.mem_append_left _ hx, by omega⟩
      · exact ⟨fun x hx => by
          rcases List.mem_cons.mp hx with rfl | hx
          · simp
          · rw [List.mem_singleton.mp hx]; simp, by simp; omega⟩
      · obtain ⟨a, b⟩ := toks_of n r' [] (by simp at lr; omega) p hp
        exact ⟨fun x hx => List.mem_append_right _ (List.mem_cons_of_mem _ (List.mem_cons_of_mem _ (a x hx))), by simp at b ⊢; omega⟩
    · rw [toks_o h h2] at hp
      obtain ⟨a, b⟩ := toks_of n r (acc ++ [c]) lr p hp
      refine ⟨fun x hx => ?_, by simp at b ⊢; omega⟩
      have := a x hx
      simp at this ⊢
      rcases this with h | h | h
      · exact .inl h
      · exact .inr (.inl h)
      · exact .inr (.inr h)
theorem toks_many : ∀ (n : Nat) (l acc : List Nat), l.length ≤ n → (toks acc l).length ≤ l.length + 1 ∧ (acc = [] → (toks acc l).length ≤ l.length)
  | _, [], acc, _ => by
    show (fl acc []).length ≤ 1 ∧ (acc = [] → (fl acc []).length ≤ 0)
    unfold fl
    split
    · exact ⟨Nat.zero_le _, fun _ => Nat.le_refl _⟩
    · rename_i h
      exact ⟨Nat.le_refl _, fun z => absurd z h⟩
  | 0, c :: r, _, h => absurd h (Nat.not_succ_le_zero _)
  | n + 1, c :: r, acc, hl => by
    have lr : r.length ≤ n := by simp at hl; omega
    have fll : ∀ {t : List Nat} {L : List (List Nat)}, (fl acc (t :: L)).length ≤ L.length + 2 ∧ (acc = [] → (fl acc (t :: L)).length ≤ L.length + 1) := fun {t L} => by
      unfold fl
      split
      · exact ⟨by simp, fun _ => by simp⟩
      · rename_i h
        exact ⟨by simp, fun z => absurd z h⟩
    rcases way c r with h | ⟨r', rfl, rfl⟩ | ⟨h, h2⟩
    · rw [toks_d h]
      have a := (toks_many n r [] lr).2 rfl
      have b := fll (t := [c]) (L := toks [] r)
      exact ⟨by simp; omega, fun z => by have := b.2 z; simp; omega⟩
    · rw [toks_cm]
      have a := (toks_many n r' [] (by simp at lr; omega)).2 rfl
      have b := fll (t := [44, 32]) (L := toks [] r')
      exact ⟨by simp; omega, fun z => by have := b.2 z; simp; omega⟩
    · rw [toks_o h h2]
      have a := (toks_many n r (acc ++ [c]) lr).1
      exact ⟨by simp; omega, fun _ => by simp; omega⟩
theorem toks_ok {l p : List Nat} (h : okS l) (hp : p ∈ toks [] l) : okS p := by
  rw [ok_all] at h ⊢
  obtain ⟨h1, h2⟩ := h
  obtain ⟨a, b⟩ := toks_of l.length l [] (Nat.le_refl _) p hp
  refine ⟨by simp at b; omega, List.all_eq_true.mpr fun c hc => ?_⟩
  have := a c hc
  rw [List.nil_append] at this
  exact List.all_eq_true.mp h2 c this
def spPieces : Sp := fun vs H Q _ => ∃ l : List Nat, vs = [.str (S l)] ∧ okS l ∧ l.length ≤ 900 ∧ 10 ∉ l ∧ ∀ H' b, Same H H' → H b = none → H' b = some (.lst ((toks [] l).map vS)) → Q (.ref b) H'
/-- whether a datum is a value -/
def isValL (l : List Nat) : Bool := !l.contains 10 && valueL l
def isValD : PyData → Bool
  | .str x => isValL x.cps.toList
  | _ => false
def shortD : PyData → Bool
  | .str x => decide (x.length ≤ 900)
  | _ => true
def spVal : Sp := fun vs H Q _ => ∃ (S : Addr → Prop) (v : V) (d : PyData), vs = [v] ∧ Dt S H v d ∧ smlD d = true ∧ shortD d = true ∧ ∀ H', Same H H' → Q (.bl (isValD d)) H'
theorem in_nl (x : Str) : (!(Builtin.Str.occurrences x ⟨#[10]⟩ 0 x.length 1).isEmpty) = x.cps.toList.contains 10 := by
  rw [StrLaws.found_one, Bool.eq_iff_iff, decide_eq_true_eq, List.contains_iff_mem]
section
variable {P : Program} {w : World} {K : PySem.W.Frag} {mg : Str → Option Value} {base : Heap} {f fP fK fT fN : Addr} {fd dP dK dT dN : FuncData}
theorem scIV : FnScope ["value", "kinds"] ["value"] (defScope sIsVal) := ⟨rfl, rfl, rfl, by decide +kernel, rfl, by decide +kernel, by decide +kernel⟩
theorem ok_isval (F : Fun K "is_value" "is_value" sIsVal f fd) (isi : mg "isinstance" = none) (st : mg "str" = none) (gP : mg "_pieces" = some (.ref fP)) (kP : PySem.W.keepIn K (.ref fP) = true) (bP : Binds K dP ["text"] []) (GP : FnOk P w K mg base CX0 1 fP dP ["text"] spPieces)
    (gK : mg "_kinds" = some (.ref fK)) (kK : PySem.W.keepIn K (.ref fK) = true) (bK : Binds K dK ["pieces"] []) (GK : FnOk P w K mg base CX0 4 fK dK ["pieces"] spKinds)
    (gT : mg "_is_in_turn" = some (.ref fT)) (kT : PySem.W.keepIn K (.ref fT) = true) (bT : Binds K dT ["kinds"] []) (GT : FnOk P w K mg base CX0 1 fT dT ["kinds"] spTurn)
    (gN : mg "_is_nested" = some (.ref fN)) (kN : PySem.W.keepIn K (.ref fN) = true) (bN : Binds K dN ["kinds"] []) (GN : FnOk P w K mg base CX0 1 fN dN ["kinds"] spNest) : FnOk P w K mg base CX0 5 f fd ["value"] spVal := by
  refine F.ok scIV (fun vs H Q E h => ?_) (fun cdv A outer s H vs Q E hr h => ?_)
  · obtain ⟨_, v, d, rfl, _⟩ := h
    rfl
  · obtain ⟨S0, v, d, rfl, hd, sm, sh, q⟩ := h
    refine ⟨_, pss_cons (ps_if (PW.pt (pw_or (pt_not (pt_val (pe_callB call_isi (by rfl) isi (by decide +kernel) (pa_cons (pv 0) (pa_cons (pe_bltn (v := .ty "str") (u := .type "str") (by rfl) st (by decide +kernel) rfl) pa_nil))))) (pw_or1 (pt_cmpR op_in_str pe_str (pv 0) (by rfl))))) (pss_one (ps_ret pe_bl)) pss_nil)
      (pss_cons (ps_set (i := 1) scIV.nd rfl (Or.inl rfl) (pe_call GK hr (by rfl) gK kK bK .nil pass0 (pa_cons (pe_call GP (hr.mono (by decide)) (by rfl) gP kP bP .nil pass0 (pa_cons (pv 0) pa_nil)) pa_nil)))
      (pss_one (ps_ret (pe_and (pe_call GT (hr.mono (by decide)) (by rfl) gT kT bT .nil pass0 (pa_cons (pv 1) pa_nil)) (pe_one (pe_call GN (hr.mono (by decide)) (by rfl) gN kN bN .nil pass0 (pa_cons (pv 1) pa_nil))))))), ?_⟩
    cases hs : isStrD d with
    | false =>
      have e : isValD d = false := by cases d <;> first | rfl | cases hs
      refine isi_te (x := v) rfl hd.tyx ((kit_str d).trans (congrArg some hs)) ⟨_, rfl, ?_⟩
      have z := q H (Same.refl _)
      rw [e] at z
      exact z
    | true =>
      cases d with
      | str x =>
        have ev : v = .str x := by
          cases hd with
          | «at» a => cases a <;> rfl
        subst ev
        obtain ⟨l, rfl⟩ : ∃ l : List Nat, x = S l := ⟨x.cps.toList, (SX.S_tl x).symm⟩
        have sm2 : (decide ((S l).length ≤ 1000) && PyData.strOk (S l)) = true := by unfold smlD at sm; exact sm
        rw [Bool.and_eq_true, decide_eq_true_eq, SX.S_len] at sm2
        have ok : okS l := ⟨sm2.1, sm2.2⟩
        have l9 : l.length ≤ 900 := by
          have : decide ((S l).length ≤ 900) = true := sh
          rw [decide_eq_true_eq, SX.S_len] at this
          exact this
        refine isi_te (x := .str (S l)) rfl hd.tyx ((kit_str (.str (S l))).trans rfl) ⟨_, rfl, ?_⟩
        have en : ("\n" : Str) = ⟨#[10]⟩ := by decide +kernel
        refine ⟨_, rfl, "\n", S l, rfl, rfl, _, rfl, ?_⟩
        have eo : (!(Builtin.Str.occurrences (S l) ("\n" : Str) 0 (S l).length 1).isEmpty) = l.contains 10 := by
          rw [en]
          exact in_nl (S l)
        rw [eo]
        cases h10 : l.contains 10 with
        | true =>
          have e : isValD (.str (S l)) = false := by
            show (!l.contains 10 && valueL l) = false
            rw [h10]
            rfl
          have z := q H (Same.refl _)
          rw [e] at z
          exact iteT z
        | false =>
          have n10 : 10 ∉ l := fun z => by
            have := List.contains_iff_mem.mpr z
            rw [h10] at this
            cases this
          have e : isValD (.str (S l)) = valueL l := by
            show (!l.contains 10 && valueL l) = valueL l
            rw [h10]
            rfl
          rw [e] at q
          have many := (toks_many l.length l [] (Nat.le_refl _)).2 rfl
          refine iteF ⟨_, rfl, l, rfl, ok, l9, n10, fun H1 b s1 _ eb => ⟨b, toks [] l, rfl, eb, fun p hp => toks_ok ok hp, by omega, fun H2 k s2 _ ek => ?_⟩⟩
          have kl : (KS l).length ≤ 900 := by
            rw [show (KS l).length = (toks [] l).length from kinds_len _]
            omega
          refine ⟨_, rfl, k, KS l, rfl, ek, kl, fun H3 s3 => ⟨_, rfl, ?_⟩⟩
          unfold valueL at q
          cases ht : turn none (KS l) with
          | false =>
            have z := q H3 ((s1.trans s2).trans s3)
            rw [ht] at z
            exact iteF z
          | true =>
            refine iteT ⟨_, rfl, k, KS l, rfl, s3 _ _ ek, kl, fun H4 s4 => ?_⟩
            have z := q H4 (((s1.trans s2).trans s3).trans s4)
            rw [ht, Bool.true_and] at z
            exact z
      | _ => cases hs
end
end OM

namespace OM
open PySem PySem.Spec PyProof.Rows L2 VL
/-- two texts, none of them empty: the sum is a new object -/
theorem add_fresh {prog : Program} {w : World} {A : Around} {E : Value → Shared → Prop} {s : Shared} {x y : Str} {t u : Tok} {Q : Value → Shared → Prop} (hx : (x.length == 0) = false) (hy : (y.length == 0) = false) (hz : x.length + y.length ≤ sizeLine)
    (h : Q (.str (x ++ y) s.toks) { s with toks := s.toks + 1 }) : wpAny (model prog w) A (binaryOp .Add (.str x t) (.str y u)) Q E s := by
  refine binaryOp_concat (typeIs_str s x t) (typeIs_str s y u) PyProof.Rows.noFill_str_add PyProof.Rows.seq_str_add ?_
  refine call_gives slot_str_add (typeIs_str _ _ _) entry_str_add (args_str_add _ _) (gives_str_add x y t u) ?_
  rw [hx, hy]
  exact ⟨by rw [strLen_append]; exact hz, h⟩
section
variable {X : Cx} {pins : List (Addr × Obj)} {σ : L2.St} {H : Hp} {s : Shared}
/-- behind the store of a local name whose object is known -/
theorem inv_named {i : Nat} {x : Str} {v : V} {u : Value} {m : Str → Option Value} {h' : Heap} {t : Nat} (I : L2.Inv X pins σ H s) (nd : X.N.Nodup) (hi : X.N[i]? = some x) (hk : X.env.kindOf x = some .local) (r : L2.RelV v u)
    (hm : ∀ (j : Nat) (y : Str) (b : V), X.N[j]? = some y → σ[j]? = some (some b) → Vis X.env.scope y → ∃ c, L2.RelV b c ∧ Look X.env s.heap m y c)
    (hn : h'.Ns X.env.locals fun y => if y = x then some u else m y) (sb : Heap.SameBut X.env.locals s.heap h') : L2.Inv X pins (σ.set i (some v)) H { s with heap := h', toks := t } := by
  have cne := I.cne
  have old : ∀ {b : Addr} {o : Obj}, X.s_0.heap.get? b = some o → h'.get? b = s.heap.get? b := fun {b o} e => sb.2 b fun z => by
    have l1 := Heap.lt_size e
    have l2 := I.ok.above
    rw [z] at l1
    exact Nat.lt_irrefl _ (Nat.lt_of_lt_of_le l1 l2)
  have si : i < σ.length := by
    rw [I.len]
    exact (List.getElem?_eq_some_iff.mp hi).1
  refine { ok := I.ok, os := I.os, bare := I.bare, base := ?b, loc := ⟨_, hn, ?l⟩, cell := ?c, free := I.free, freeC := I.freeC, pin := ?p, hok := ?h, len := by rw [List.length_set]; exact I.len }
  case b =>
    refine { I.base with keep := fun b o e n1 n2 n3 => ?_, slot := fun b o e n1 n2 n3 => ?_, there := fun b o e n3 => ?_ }
    · show h'.get? b = some o
      rw [old e]
      exact I.base.keep b o e n1 n2 n3
    · show ∃ sl, h'.get? b = _
      rw [old e]
      exact I.base.slot b o e n1 n2 n3
    · show ∃ o', h'.get? b = some o'
      rw [old e]
      exact I.base.there b o e n3
  case l =>
    intro j y b hj hb hv
    by_cases ji : j = i
    · subst ji
      rw [hi] at hj
      cases hj
      rw [List.getElem?_set_self si] at hb
      cases hb
      exact ⟨u, r, .inl ⟨hk, if_pos rfl⟩⟩
    · rw [List.getElem?_set_ne (fun z => ji z.symm)] at hb
      obtain ⟨c, rc, lk⟩ := hm j y b hj hb hv
      refine ⟨c, rc, lk.imp (fun z => ⟨z.1, ?_⟩) fun z => ⟨z.1, ?_⟩⟩
      · have ne : y ≠ x := fun z => ji (nodup_ix nd hj (z ▸ hi))
        show (if y = x then some u else m y) = _
        rw [if_neg ne]
        exact z.2
      · obtain ⟨cc, c1, c2⟩ := z.2
        exact ⟨cc, c1, c2.sameBut sb (cne y cc c1)⟩
  case c =>
    intro y cc e
    obtain ⟨b, hb⟩ := I.cell y cc e
    exact ⟨b, hb.sameBut sb (cne y cc e)⟩
  case p =>
    intro q hq
    obtain ⟨p1, p2, p3, p4⟩ := I.pin q hq
    exact ⟨(sb.2 q.1 p3).trans p1, p2, p3, p4⟩
  case h =>
    obtain ⟨oL, es, ep, eL, _⟩ := I.loc.choose_spec.1
    intro b ob e
    have fr := I.free
    refine (I.hok b ob e).stay (fun c w' hc q => (sb.2 c fun z => ?_).trans q) (fun _ q => q) fun _ _ q => q
    rcases hc with rfl | hc
    · rw [z, fr] at e
      cases e
    · rw [z, fr] at hc
      cases hc
/-- text = text.replace(sign, nl + sign + nl): sign's object is known and older than what is made -/
theorem rep_body {it : Nat} {tx sg nl c x : Str} {t : Tok} {m : Str → Option Value} {p1 p2 p3 p4 bp1 bp2 ap cp asp c3 c4 : Pos} {j3 j4 : Nat} (I : L2.Inv X pins σ H s) (nd : X.N.Nodup) (hit : X.N[it]? = some tx) (lt : X.env.scope.names.lookup tx = some .local) (hk : X.env.kindOf sg = some .local)
    (dt : (tx == ("__debug__" : Str)) = false) (dc : (tx == ("__classdict__" : Str)) = false) (ds : (sg == ("__debug__" : Str)) = false) (hx : σ[it]? = some (some (.str x))) (hn : s.heap.Ns X.env.locals m) (ms : m sg = some (.str c t)) (ht : t ≠ 0) (h1 : t < s.toks)
    (nn : (nl.length == 0) = false) (cn : (c.length == 0) = false) (hz : nl.length + c.length + nl.length ≤ 1000) (hb : x.length + (x.length + 1) * (nl ++ c ++ nl).length ≤ 16777216)
    (hst : starEach [.Name sg p3, .BinOp (.BinOp (.Constant (.str nl) j3 c3) .Add (.Name sg p4) bp1) .Add (.Constant (.str nl) j4 c4) bp2] X.env = [(false, eval (.Name sg p3) X.env), (false, eval (.BinOp (.BinOp (.Constant (.str nl) j3 c3) .Add (.Name sg p4) bp1) .Add (.Constant (.str nl) j4 c4) bp2) X.env)])
    (hbase : attributeBase (.Name tx p2) "replace" X.env (eval (.Name tx p2) X.env) = eval (.Name tx p2) X.env) (hline : (ap.endLine == cp.line) = true)
    (hsw : swapsWith (.Call (.Attribute (.Name tx p2) "replace" ap) [.Name sg p3, .BinOp (.BinOp (.Constant (.str nl) j3 c3) .Add (.Name sg p4) bp1) .Add (.Constant (.str nl) j4 c4) bp2] [] cp) (some (.Name tx p1)) asp.line X.env = pure false) :
    wpAny (model X.prog X.w) X.A (execs [.Assign [.Name tx p1] (.Call (.Attribute (.Name tx p2) "replace" ap) [.Name sg p3, .BinOp (.BinOp (.Constant (.str nl) j3 c3) .Add (.Name sg p4) bp1) .Add (.Constant (.str nl) j4 c4) bp2] [] cp) asp] X.env)
      (fun f s' => f = .next ∧ L2.Inv X pins (σ.set it (some (.str (Txt.replace x c (nl ++ c ++ nl))))) H s') X.xe s := by
  have line : (1000 : Nat) < sizeLine := by decide
  have vis : Vis X.env.scope tx := Or.inl lt
  have nc : ((nl ++ c).length == 0) = false := by
    rw [strLen_append]
    have : nl.length ≠ 0 := by simpa using nn
    simp
    omega
  refine wpAny_execs_cons (wpAny_Assign_Name ?_ hsw)
  refine PySem.Call_method2 hbase hst hline (raw_name hit vis I hx (fun v r => ?_) dt dc)
  obtain ⟨tx1, rfl⟩ := r
  refine ⟨"str", _, PySem.F.plainAttrs_str, PySem.F.slot_str_replace, PySem.F.type_str_replace, typeIs_str _ _ _, (fun _ e => nomatch e), Calls.callWith_builtin rfl (Calls.evalArgs_plain (Calls.spliced_cons ?_))⟩
  refine wpAny_Name (wpAny_loadName_local I.ok.kind hk hn ms ?_) ds
  refine Calls.spliced_cons (wpAny_BinOp (wpAny_BinOp (Calls.Constant_str (wpAny_Name (wpAny_loadName_local I.ok.kind hk hn ms ?_) ds))))
  refine add_fresh nn cn (by omega) ?_
  refine Calls.Constant_str ?_
  refine add_fresh nc nn (by rw [strLen_append]; omega) ?_
  refine Calls.spliced_nil ?_
  have ne : (c == (nl ++ c ++ nl)) = false := by
    cases z : (c == (nl ++ c ++ nl)) with
    | false => rfl
    | true =>
      have e := congrArg Str.length (eq_of_beq z)
      rw [strLen_append, strLen_append] at e
      have : nl.length ≠ 0 := by simpa using nn
      omega
  refine PySem.SC.replace ht ?_ ?_ ne hb fun t' k => ?_
  · show s.toks + 1 + 1 + 1 ≠ 0
    omega
  · exact Nat.ne_of_lt (Nat.lt_of_lt_of_le h1 (show s.toks ≤ s.toks + 1 + 1 + 1 by omega))
  · exact store_ok (v := V.str (Txt.replace x c (nl ++ c ++ nl))) (I.tok k) nd hit (.inl lt) ⟨t', rfl⟩ (fun s2 I2 => wpAny_execs_nil ⟨rfl, I2⟩) (.inr lt)
end
end OM

namespace OM
open PySem PySem.Spec PyProof.Rows L2 VL
def rp (nl x c : Str) : Str := Txt.replace x c (nl ++ c ++ nl)
def yAt (y0 y1 y2 : Str) : Nat → Str
  | 0 => y0
  | 1 => y1
  | _ => y2
/-- the text behind so many turns -/
def fT (nl y0 y1 y2 x : Str) : Nat → Str
  | 0 => x
  | i + 1 => rp nl (fT nl y0 y1 y2 x i) (yAt y0 y1 y2 i)
/-- the slots behind so many turns -/
def sQ (it is_ : Nat) (nl y0 y1 y2 x : Str) (σ : L2.St) : Nat → L2.St
  | 0 => σ
  | i + 1 => ((sQ it is_ nl y0 y1 y2 x σ i).set is_ (some (.str (yAt y0 y1 y2 i)))).set it (some (.str (fT nl y0 y1 y2 x (i + 1))))
theorem fT_len {nl y0 y1 y2 x : Str} (hz : ∀ i, (nl ++ yAt y0 y1 y2 i ++ nl).length ≤ 4) : ∀ i, (fT nl y0 y1 y2 x i).length + 1 ≤ (x.length + 1) * 5 ^ i
  | 0 => by
    show x.length + 1 ≤ (x.length + 1) * 1
    omega
  | i + 1 => by
    have ih := fT_len (x := x) hz i
    have a := TK.replace_len (fT nl y0 y1 y2 x i) (yAt y0 y1 y2 i) (nl ++ yAt y0 y1 y2 i ++ nl)
    have b := Nat.mul_le_mul_left ((fT nl y0 y1 y2 x i).length + 1) (hz i)
    show (Txt.replace (fT nl y0 y1 y2 x i) (yAt y0 y1 y2 i) (nl ++ yAt y0 y1 y2 i ++ nl)).length + 1 ≤ _
    rw [Nat.pow_succ]
    have c : (x.length + 1) * (5 ^ i * 5) = ((x.length + 1) * 5 ^ i) * 5 := by rw [Nat.mul_assoc]
    rw [c]
    omega
theorem sQ_len (it is_ : Nat) (nl y0 y1 y2 x : Str) (σ : L2.St) : ∀ i, (sQ it is_ nl y0 y1 y2 x σ i).length = σ.length
  | 0 => rfl
  | i + 1 => by
    show ((((sQ it is_ nl y0 y1 y2 x σ i).set _ _).set _ _)).length = _
    rw [List.length_set, List.length_set, sQ_len it is_ nl y0 y1 y2 x σ i]
theorem sQ_it {it is_ : Nat} {nl y0 y1 y2 x : Str} {σ : L2.St} (h : σ[it]? = some (some (.str x))) : ∀ i, (sQ it is_ nl y0 y1 y2 x σ i)[it]? = some (some (.str (fT nl y0 y1 y2 x i)))
  | 0 => h
  | i + 1 => by
    show (((sQ it is_ nl y0 y1 y2 x σ i).set _ _).set it _)[it]? = _
    rw [List.getElem?_set_self]
    rw [List.length_set, sQ_len]
    exact (List.getElem?_eq_some_iff.mp h).1
theorem key3 {y0 y1 y2 : Str} {T : Nat} (h0 : 1 ≤ T) : ∀ i, i < 3 → ∃ t : Nat, (#[Value.str y0 T, .str y1 (T + 1), .str y2 (T + 1 + 1)])[i]? = some (.str (yAt y0 y1 y2 i) t) ∧ t ≠ 0 ∧ t < T + 3
  | 0, _ => ⟨T, rfl, by omega, by omega⟩
  | 1, _ => ⟨T + 1, rfl, by omega, by omega⟩
  | 2, _ => ⟨T + 1 + 1, rfl, by omega, by omega⟩
  | i + 3, h => absurd h (by omega)
/-- for sign in (y0, y1, y2): text = text.replace(sign, nl + sign + nl) -/
theorem pst_rep3 {X : Cx} {it is_ : Nat} {tx sg nl y0 y1 y2 : Str} {p0 p1 p2 p3 p4 bp1 bp2 ap cp asp c3 c4 d0 d1 d2 tp fp : Pos} {j3 j4 k0 k1 k2 kk : Nat} (hp : PassesOwn (model X.prog X.w) X.A X.env X.xe) (hc : X.calm = true) (nd : X.N.Nodup) (hit : X.N[it]? = some tx) (his : X.N[is_]? = some sg) (ne : is_ ≠ it)
    (lt : X.env.scope.names.lookup tx = some .local) (hk : X.env.kindOf sg = some .local) (dt : (tx == ("__debug__" : Str)) = false) (dc : (tx == ("__classdict__" : Str)) = false) (ds : (sg == ("__debug__" : Str)) = false)
    (nn : (nl.length == 0) = false) (yn : ∀ i, ((yAt y0 y1 y2 i).length == 0) = false) (hz : ∀ i, (nl ++ yAt y0 y1 y2 i ++ nl).length ≤ 4)
    (hst : starEach [.Name sg p3, .BinOp (.BinOp (.Constant (.str nl) j3 c3) .Add (.Name sg p4) bp1) .Add (.Constant (.str nl) j4 c4) bp2] X.env = [(false, eval (.Name sg p3) X.env), (false, eval (.BinOp (.BinOp (.Constant (.str nl) j3 c3) .Add (.Name sg p4) bp1) .Add (.Constant (.str nl) j4 c4) bp2) X.env)] := by rfl)
    (hbase : attributeBase (.Name tx p2) "replace" X.env (eval (.Name tx p2) X.env) = eval (.Name tx p2) X.env := by rfl) (hline : (ap.endLine == cp.line) = true := by rfl)
    (hsw : swapsWith (.Call (.Attribute (.Name tx p2) "replace" ap) [.Name sg p3, .BinOp (.BinOp (.Constant (.str nl) j3 c3) .Add (.Name sg p4) bp1) .Add (.Constant (.str nl) j4 c4) bp2] [] cp) (some (.Name tx p1)) asp.line X.env = pure false := by rfl)
    (hfs : ∀ x, foldedSetIterable (.Tuple [.Constant (.str y0) k0 d0, .Constant (.str y1) k1 d1, .Constant (.str y2) k2 d2] kk tp) X.env x = pure x := by intro _; rfl) :
    PST X (.For (.Name sg p0) (.Tuple [.Constant (.str y0) k0 d0, .Constant (.str y1) k1 d1, .Constant (.str y2) k2 d2] kk tp) [.Assign [.Name tx p1] (.Call (.Attribute (.Name tx p2) "replace" ap) [.Name sg p3, .BinOp (.BinOp (.Constant (.str nl) j3 c3) .Add (.Name sg p4) bp1) .Add (.Constant (.str nl) j4 c4) bp2] [] cp) asp] [] fp)
      (fun D σ H => ∃ x, σ[it]? = some (some (.str x)) ∧ x.length ≤ 900 ∧ ∀ H', Same H H' → D.nx (sQ it is_ nl y0 y1 y2 x σ 3) H') := by
  intro pins s σ H D h0 I ⟨x, hx, hl, q⟩
  refine wpAny_For (wpAny_Tuple_spliced ?_) hfs
  show wpAny _ _ (spliced ((false, eval (.Constant (.str y0) k0 d0) X.env) :: backTo tp (starEach [.Constant (.str y1) k1 d1, .Constant (.str y2) k2 d2] X.env))) _ _ s
  refine Calls.spliced_cons (Calls.Constant_str ?_)
  show wpAny _ _ (spliced ((false, eval (.Constant (.str y1) k1 d1) X.env) :: backTo tp (starEach [.Constant (.str y2) k2 d2] X.env))) _ _ _
  refine Calls.spliced_cons (Calls.Constant_str ?_)
  show wpAny _ _ (spliced ((false, eval (.Constant (.str y2) k2 d2) X.env) :: backTo tp (starEach [] X.env))) _ _ _
  refine Calls.spliced_cons (Calls.Constant_str (Calls.spliced_nil ?_))
  have h3 : (3 : Nat) ≤ sizeLine := by decide
  refine ⟨h3, ?_⟩
  have hfree : H s.heap.objs.size = none := I.hok.fresh (Nat.le_refl _)
  have I1 : L2.Inv X pins σ (upd H s.heap.objs.size (.frz { cls := .type "tuple", data := .seq #[.str y0 s.toks, .str y1 (s.toks + 1), .str y2 (s.toks + 1 + 1)] } (.tup [.str y0, .str y1, .str y2]))) { s with toks := s.toks + 1 + 1 + 1, heap := s.heap.push { cls := .type "tuple", data := .seq #[.str y0 s.toks, .str y1 (s.toks + 1), .str y2 (s.toks + 1 + 1)] } } :=
    I.laid (t' := s.toks + 1 + 1 + 1) (fun b u e => Heap.get?_push_of_some _ e) (Nat.le_refl _) ⟨Heap.get?_push_size _ rfl, h3, [.str y0 s.toks, .str y1 (s.toks + 1), .str y2 (s.toks + 1 + 1)], .cons ⟨_, rfl⟩ (.cons ⟨_, rfl⟩ (.cons ⟨_, rfl⟩ .nil)), ⟨_, Heap.get?_push_size _ rfl, rfl, _, rfl⟩⟩
  have sH := same_upd (o := .frz { cls := .type "tuple", data := .seq #[.str y0 s.toks, .str y1 (s.toks + 1), .str y2 (s.toks + 1 + 1)] } (.tup [.str y0, .str y1, .str y2])) hfree
  have eF := upd_same (H := H) (a := s.heap.objs.size) (o := .frz { cls := .type "tuple", data := .seq #[.str y0 s.toks, .str y1 (s.toks + 1), .str y2 (s.toks + 1 + 1)] } (.tup [.str y0, .str y1, .str y2]))
  generalize upd H s.heap.objs.size _ = H1 at I1 sH eF
  show wpAny _ _ (pyIter (.ref s.heap.objs.size)) _ _ ({ s with toks := s.toks + 1 + 1 + 1, heap := s.heap.push { cls := .type "tuple", data := .seq #[.str y0 s.toks, .str y1 (s.toks + 1), .str y2 (s.toks + 1 + 1)] } } : Shared)
  have tk1 : s.toks + 3 ≤ ({ s with toks := s.toks + 1 + 1 + 1, heap := s.heap.push { cls := .type "tuple", data := .seq #[.str y0 s.toks, .str y1 (s.toks + 1), .str y2 (s.toks + 1 + 1)] } } : Shared).toks := Nat.le_refl _
  generalize ({ s with toks := s.toks + 1 + 1 + 1, heap := s.heap.push { cls := .type "tuple", data := .seq #[.str y0 s.toks, .str y1 (s.toks + 1), .str y2 (s.toks + 1 + 1)] } } : Shared) = s1 at I1 tk1 ⊢
  generalize s.heap.objs.size = a at *
  have isT : ∀ {σ' : L2.St} {s' : Shared} {pn : List (Addr × Obj)}, L2.Inv X pn σ' H1 s' → s'.heap.IsTuple a #[.str y0 s.toks, .str y1 (s.toks + 1), .str y2 (s.toks + 1 + 1)] := fun J => ⟨_, (J.hok a _ eF).1, rfl, _, rfl⟩
  have sqt : SqT X.K H1 a [.str y0, .str y1, .str y2] := .inl (.inr ⟨_, eF⟩)
  refine wpAny_pyIter_tuple (isT I1) ?_
  have I2 : L2.Inv X pins σ H1 { s1 with heap := s1.heap.push { cls := .type "tuple_iterator", data := .fields #[.ref a, .int 0 0] } } := I1.kept (t' := s1.toks) fun b o e => Heap.get?_push_of_some _ e
  have fpk : FpOk X pins H1 s1.heap.objs.size := I1.fpOk (Nat.le_refl _) (I1.hok.fresh (Nat.le_refl _))
  have st2 : ({ s1 with heap := s1.heap.push { cls := .type "tuple_iterator", data := .fields #[.ref a, .int 0 0] } } : Shared).heap.IsTupleIter s1.heap.objs.size a 0 := ⟨_, Heap.get?_push_size _ rfl, rfl, rfl⟩
  have tk2 : s.toks + 3 ≤ ({ s1 with heap := s1.heap.push { cls := .type "tuple_iterator", data := .fields #[.ref a, .int 0 0] } } : Shared).toks := tk1
  generalize ({ s1 with heap := s1.heap.push { cls := .type "tuple_iterator", data := .fields #[.ref a, .int 0 0] } } : Shared) = s2 at I2 st2 tk2 ⊢
  generalize s1.heap.objs.size = ia at *
  have T := turn_tuple (P := X.prog) (w := X.w) (K := X.K) (tg := .Name sg p0) a ia
  have stat : ∀ b ∈ [ia], FpOk X pins H1 b := fun b hb => by
    rw [List.mem_singleton.mp hb]
    exact fpk
  refine codeAny_forLoop_any (fun n s' => ∃ i, i ≤ 3 ∧ n = 3 - i ∧ L2.Inv X pins (sQ it is_ nl y0 y1 y2 x σ i) H1 s' ∧ s'.heap.IsTupleIter ia a i ∧ s.toks + 3 ≤ s'.toks) ?_ 3 ⟨0, Nat.zero_le _, rfl, I2, st2, tk2⟩
  rintro n s3 ⟨i, hi, rfl, I3, st3, tk3⟩
  rcases Nat.lt_or_ge i 3 with lt3 | ge3
  · obtain ⟨t, hidx, ht, htl⟩ := key3 (y0 := y0) (y1 := y1) (y2 := y2) h0 i lt3
    refine wpAny_passesOwn hp (wpAny_pyNext_tuple_item st3 (isT I3) hidx fun h' st' sb => ?_)
    obtain ⟨f0, f1, f2, f3, f4, f5⟩ := id fpk
    have I4 : L2.Inv X pins (sQ it is_ nl y0 y1 y2 x σ i) H1 { s3 with heap := h' } := I3.turned (t' := s3.toks) (fun b o hb e => (sb.2 b hb).trans e) f0 f1 f3 f4 f5
    obtain ⟨oi, ei, ci, di⟩ := id st'
    refine wpAny_passesOwn hp (go_of (s := { s3 with heap := h' }) ei ci di (by decide) ?_)
    have I5 := I4.pinned stat (T.obj _ _ st')
    obtain ⟨m, hn, hm⟩ := I5.loc
    refine wpAny_passesOwn hp (wpAny_assign_Name (wpAny_storeName_local hk hn (fun h2 hn2 hs2 => ?_) (by rw [I5.ok.kind]; rfl)))
    have I6 := inv_named (t := s3.toks + 1) (v := .str (yAt y0 y1 y2 i)) (u := .str (yAt y0 y1 y2 i) t) I5 nd his hk ⟨_, rfl⟩ hm hn2 hs2
    have hxi : ((sQ it is_ nl y0 y1 y2 x σ i).set is_ (some (.str (yAt y0 y1 y2 i))))[it]? = some (some (.str (fT nl y0 y1 y2 x i))) := by
      rw [List.getElem?_set_ne ne]
      exact sQ_it hx i
    have hzi := hz i
    have len3 : (nl ++ yAt y0 y1 y2 i ++ nl).length = nl.length + (yAt y0 y1 y2 i).length + nl.length := by rw [strLen_append, strLen_append]
    have small : (fT nl y0 y1 y2 x i).length + ((fT nl y0 y1 y2 x i).length + 1) * (nl ++ yAt y0 y1 y2 i ++ nl).length ≤ 16777216 := by
      have a1 := fT_len (x := x) hz i
      have a2 : 5 ^ i ≤ 5 ^ 2 := Nat.pow_le_pow_right (by decide) (by omega)
      have a3 : (x.length + 1) * 5 ^ i ≤ 901 * 5 ^ 2 := Nat.mul_le_mul (by omega) a2
      have a4 := Nat.mul_le_mul_left ((fT nl y0 y1 y2 x i).length + 1) hzi
      have a5 : (901 : Nat) * 5 ^ 2 = 22525 := by decide
      omega
    refine wpAny_passesOwn hp (wpAny_mono (PySem.wpAny_toks (rep_body I6 nd hit lt hk dt dc ds hxi hn2 (if_pos rfl) ht (Nat.lt_succ_of_lt (Nat.lt_of_lt_of_le htl tk3)) nn (yn i) (by omega) small hst hbase hline hsw)) (fun f s7 hq => ?_) fun _ _ z => z.2)
    obtain ⟨tk7, rfl, I7⟩ := hq
    exact ⟨3 - (i + 1), by omega, i + 1, by omega, rfl, I7.unpinned, T.keep _ _ _ st' (fun b hb o e => (I7.pin (b, o) (List.mem_append_right _ (List.mem_append_right _ (mem_pinsAt hb e)))).1), Nat.le_trans tk3 (Nat.le_trans (Nat.le_succ _) tk7)⟩
  · have e3 : i = 3 := by omega
    subst e3
    refine wpAny_passesOwn hp (wpAny_mono (T.done X rfl rfl rfl hc 3 pins s3 _ H1 X.xe I3 stat st3 ⟨_, sqt, Nat.le_refl _⟩) (fun r s4 hr => ?_) fun _ _ z => z)
    obtain ⟨rfl, I4⟩ := hr
    exact wpAny_execs_nil ⟨_, H1, I4, q H1 sH⟩
end OM

namespace OM
open PySem PySem.Spec PyProof.Rows L2 VL
abbrev sPieces : Stmt := top 33
abbrev nlS : Str := "\n"
theorem nl_tl : TL.tl nlS = [10] := by decide +kernel
theorem rp_L {x c : Str} (hc : TL.tl c ≠ []) (hk : c.cps.all (· < 256) = true) : TL.tl (rp nlS x c) = putIn (TL.tl c) (TL.tl x) := by
  have hz : (nlS ++ c ++ nlS).length ≠ 0 := by
    rw [strLen_append, strLen_append]
    have : nlS.length = 1 := by decide +kernel
    omega
  show TL.tl (Txt.replace x c (nlS ++ c ++ nlS)) = _
  rw [repl_L x c _ hc hk hz, TL.tl_append, TL.tl_append, nl_tl]
  rfl
/-- the text behind the three turns, cut at the line ends -/
theorem split_toks {l : List Nat} (h : 10 ∉ l) : ((Txt.split (fT nlS "(" ")" ", " (S l) 3) nlS).map TL.tl).filter some_ = toks [] l := by
  have t1 : TL.tl ("(" : Str) = [40] := by decide +kernel
  have t2 : TL.tl (")" : Str) = [41] := by decide +kernel
  have t3 : TL.tl (", " : Str) = [44, 32] := by decide +kernel
  have e : TL.tl (fT nlS "(" ")" ", " (S l) 3) = putIn [44, 32] (putIn [41] (putIn [40] l)) := by
    show TL.tl (rp nlS (rp nlS (rp nlS (S l) "(") ")") ", ") = _
    rw [rp_L (by rw [t3]; decide) (by decide +kernel), t3, rp_L (by rw [t2]; decide) (by decide +kernel), t2, rp_L (by rw [t1]; decide) (by decide +kernel), t1]
  rw [TL.split_spl _ nlS (by rw [nl_tl]; decide) (TL.kind_ok (by decide +kernel)), nl_tl, e]
  exact pieces_toks h
def neS (x : Str) : Bool := some_ (TL.tl x)
theorem filter_tl (ws : List Str) : (ws.map TL.tl).filter some_ = (ws.filter neS).map TL.tl := by
  rw [List.filter_map]
  rfl
theorem map_vS (ws : List Str) : (ws.map TL.tl).map vS = ws.map V.str := by
  rw [List.map_map]
  exact List.map_congr_left fun x _ => congrArg V.str (SX.S_tl x)
def PvF (H : Hp) (D : Addr) (ws : List Str) (i : Nat) (G : Hp) : Prop := Same H G ∧ G D = some (.lst (((ws.take i).filter neS).map V.str))
theorem PSsT.nox {X : Cx} {st : List Stmt} {t : TS} (h : PSsT X.nox st t) : PSsT X st t := fun pins s σ H D h0 I q =>
  wpAny_mono (h pins s σ H D h0 (I.wish _) q) (fun _ _ z => SP.unwish z) fun _ _ z => False.elim z
theorem pt_truthK {X : Cx} {K : PySem.W.Frag} {a : Expr} {ta : TE} (hK : X.K = K) (ha : PE X a ta) (he : ∀ whole, isTrue a X.env whole = (do let v ← whole; standAt a.pos; holding [v] (truthy v))) : PT X a (fun σ H Q => ta σ H fun x H' => ∃ k, TruV K x H' k ∧ Q k H') := by
  subst hK
  exact pt_truth ha he
section
variable {P : Program} {w : World} {K : PySem.W.Frag} {mg : Str → Option Value} {base : Heap} {f : Addr} {fd : FuncData}
theorem scPc : FnScope ["text", "sign", "piece"] ["text"] (defScope sPieces) := ⟨rfl, rfl, rfl, by decide +kernel, rfl, by decide +kernel, by decide +kernel⟩
theorem ok_pieces (F : Fun K "_pieces" "_pieces" sPieces f fd) : FnOk P w K mg base CX0 1 f fd ["text"] spPieces := by
  obtain ⟨oc, od, kV, doc, pm, an, cdv, ct, osl, rfl, lk, hcd⟩ := F.ex
  refine fn_ofT lk hcd scPc (by decide +kernel) (by decide) (fun vs H Q E h => ?_) (fun A outer s H vs Q E hr h => ?_)
  · obtain ⟨l, rfl, _⟩ := h
    rfl
  · obtain ⟨l, rfl, ok, l9, n10, q⟩ := h
    refine ⟨_, PSsT.nox (psst_cons (pst_rep3 (it := 0) (is_ := 1) (tx := "text") (sg := "sign") PassesOwn.never rfl scPc.nd rfl rfl (by decide) rfl rfl (by decide) (by decide) (by decide) (by decide +kernel) (fun i => ?_) (fun i => ?_))
      (PSsT.of (pss_one (ps_ret (pe_lc (own := [("piece", 2)]) rfl scPc.nd (pi_list (pe_bm PySem.F.plainAttrs_str PySem.F.slot_str_split PySem.F.type_str_split mt_split (pv 0) (pa_cons pe_str pa_nil))) (blkOk_by (N := ["text", "sign", "piece"]) (sc := defScope sPieces) (by decide +kernel))
          (fun _ _ _ _ _ => pg_name (i := 2) scPc.nd rfl (Or.inl rfl)) (fun _ _ _ _ _ => pts_one (pt_truthK (K := K) rfl (pv 2) (fun _ => rfl))) (fun _ _ _ _ _ => pv 2)))))), ?_⟩
    · match i with
      | 0 => decide +kernel
      | 1 => decide +kernel
      | _ + 2 => exact (by decide +kernel : ((", " : Str).length == 0) = false)
    · match i with
      | 0 => decide +kernel
      | 1 => decide +kernel
      | _ + 2 => exact (by decide +kernel : (nlS ++ (", " : Str) ++ nlS).length ≤ 4)
    · refine ⟨S l, rfl, by rw [SX.S_len]; exact l9, fun H1 s1 => ?_⟩
      have hz4 : ∀ i, (nlS ++ yAt "(" ")" ", " i ++ nlS).length ≤ 4 := fun i => match i with
        | 0 => by decide +kernel
        | 1 => by decide +kernel
        | _ + 2 => (by decide +kernel : (nlS ++ (", " : Str) ++ nlS).length ≤ 4)
      have lf := fT_len (x := S l) hz4 3
      have eSl : (S l).length = l.length := SX.S_len l
      rw [eSl] at lf
      have l5 : (l.length + 1) * 5 ^ 3 ≤ 901 * 5 ^ 3 := Nat.mul_le_mul_right _ (by omega)
      have c5 : (901 : Nat) * 5 ^ 3 = 112625 := by decide
      have line : (200000 : Nat) ≤ sizeLine := by decide
      have sp := PyProof.Rows.split_le (fT nlS "(" ")" ", " (S l) 3) nlS
      have et := split_toks n10
      have es : sQ 0 1 "\n" "(" ")" ", " (S l) (L2.start ["text", "sign", "piece"] [V.str (S l)]) 3 = [some (.str (fT nlS "(" ")" ", " (S l) 3)), some (.str ", "), none] := rfl
      rw [es]
      generalize fT nlS "(" ")" ", " (S l) 3 = X3 at lf sp et ⊢
      refine ⟨_, rfl, rfl, X3, nlS, rfl, rfl, by decide +kernel, by omega, fun p hp => ⟨p, rfl, ⟨_, SqL.of upd_same⟩, fun D hD => ?_⟩⟩
      have s2 := same_upd (o := .lst ((Txt.split X3 nlS).map V.str)) hp
      have e2 := upd_same (H := H1) (a := p) (o := .lst ((Txt.split X3 nlS).map V.str))
      have s12 := s1.trans s2
      generalize upd H1 p _ = H2 at s12 e2 hD ⊢
      refine lc_list (K := K) (g := gName 2) (tt := fun σ H Q => tVar 2 σ H fun x H' => ∃ k, TruV K x H' k ∧ Q k H') (te := tVar 2) (vs := [2]) (σ := [some (.str X3), some (.str ", "), none]) (Qd := fun G => Q (.ref D) G) (xs := (Txt.split X3 nlS).map V.str) (PvF H2 D (Txt.split X3 nlS)) ⟨same_upd hD, upd_same⟩ (fun i G _ z => SqL.of (z.1 _ _ e2)) (fun i v G hi z => ?_) (fun G z => ?_)
      · rw [List.getElem?_map] at hi
        obtain ⟨y, hy, rfl⟩ := Option.map_eq_some_iff.mp hi
        have li := (List.getElem?_eq_some_iff.mp hy).1
        have ey : neS y = ((y.length : Int) != 0) := by
          have h1 : (TL.tl y).length = y.length := (TL.len_tl y).symm
          show (!(TL.tl y).isEmpty) = _
          cases hy0 : TL.tl y with
          | nil =>
            rw [hy0] at h1
            have h2 : y.length = 0 := h1.symm
            rw [h2]
            rfl
          | cons c r =>
            rw [hy0] at h1
            have h2 : y.length = r.length + 1 := h1.symm
            rw [h2]
            simp
            omega
        have ym : y.length ≤ sizeLine := by
          cases hy0 : neS y with
          | false =>
            rw [hy0] at ey
            have : (y.length : Int) = 0 := by simpa using ey.symm
            omega
          | true =>
            have mem : TL.tl y ∈ toks [] l := by
              rw [← et]
              exact List.mem_filter.mpr ⟨List.mem_map.mpr ⟨y, List.mem_of_getElem? hy, rfl⟩, hy0⟩
            have b := (toks_of l.length l [] (Nat.le_refl _) _ mem).2
            rw [← TL.len_tl] at b
            simp at b
            omega
        refine ⟨rfl, _, rfl, neS y, ⟨ym, ey⟩, ?_⟩
        have et1 : (Txt.split X3 nlS).take (i + 1) = (Txt.split X3 nlS).take i ++ [y] := by
          rw [List.take_add_one, hy]
          rfl
        cases hy0 : neS y with
        | false =>
          refine iteF ⟨z.1, ?_⟩
          rw [et1, List.filter_append, List.filter_cons, hy0]
          show _ = some (HO.lst (((((Txt.split X3 nlS).take i).filter neS) ++ []).map V.str))
          rw [List.append_nil]
          exact z.2
        | true =>
          refine iteT ⟨_, rfl, _, z.2, ?_, same_put hD z.1, ?_⟩
          · rw [List.length_map]
            have := List.length_filter_le neS ((Txt.split X3 nlS).take i)
            rw [List.length_take] at this
            omega
          · rw [upd_same, et1, List.filter_append, List.filter_cons, hy0, List.map_append]
            rfl
      · have e3 := z.2
        rw [List.length_map, List.take_length] at e3
        refine q G D (s12.trans z.1) (s12.free hD) ?_
        rw [← et, filter_tl, map_vS]
        exact e3
end
end OM

namespace OM
open PySem PySem.Spec PyProof.Rows L2 VL
abbrev sWritten : Stmt := top 29
/-- the text of a function and its values -/
def wrL (f : List Nat) (ls : List (List Nat)) : List Nat := f ++ (40 :: (TL.joinL [44, 32] ls ++ [41]))
def spWritten (K : PySem.W.Frag) : Sp := fun vs H Q _ => ∃ (f : List Nat) (p : Addr) (ls : List (List Nat)), vs = [.str (S f), .ref p] ∧ f.length ≤ 1000 ∧ SqT K H p (ls.map vS) ∧ (ls.map List.length).sum + ls.length * 2 ≤ 1000 ∧ ∀ H', Same H H' → Q (.str (S (wrL f ls))) H'
theorem joinL_len : ∀ ls : List (List Nat), (TL.joinL [44, 32] ls).length ≤ (ls.map List.length).sum + ls.length * 2
  | [] => Nat.zero_le _
  | [p] => by
    show p.length ≤ p.length + 0 + 1 * 2
    omega
  | p :: q :: r => by
    have ih := joinL_len (q :: r)
    show (p ++ ([44, 32] ++ TL.joinL [44, 32] (q :: r))).length ≤ p.length + ((q :: r).map List.length).sum + ((q :: r).length + 1) * 2
    rw [List.length_append, List.length_append]
    show p.length + (2 + _) ≤ _
    omega
section
variable {P : Program} {w : World} {K : PySem.W.Frag} {mg : Str → Option Value} {base : Heap} {f : Addr} {fd : FuncData}
theorem scWr : FnScope ["function", "values", "inside"] ["function", "values"] (defScope sWritten) := ⟨rfl, rfl, rfl, by decide +kernel, rfl, by decide +kernel, by decide +kernel⟩
theorem ok_written (F : Fun K "written" "written" sWritten f fd) : FnOk P w K mg base CX0 1 f fd ["function", "values"] (spWritten K) := by
  refine F.ok scWr (fun vs H Q E h => ?_) (fun cdv A outer s H vs Q E hr h => ?_)
  · obtain ⟨fn, p, ls, rfl, _⟩ := h
    rfl
  · obtain ⟨fn, p, ls, rfl, hf, hp, hl, q⟩ := h
    refine ⟨_, pss_cons (ps_set (i := 2) scWr.nd rfl (Or.inl rfl) (pe_bm PySem.F.plainAttrs_str PySem.F.slot_str_join PySem.F.type_str_join mt_join pe_str (pa_cons (pv 1) pa_nil)))
      (pss_one (ps_ret (pe_joined (.cons (pe_fmt (pv 0)) (.cons pe_str (.cons (pe_fmt (pv 2)) (.cons pe_str .nil))))))), ?_⟩
    have line : (100000 : Nat) ≤ sizeLine := by decide
    have e2 : (", " : Str) = S [44, 32] := by decide +kernel
    have ej : Txt.join (", " : Str) (ls.map S) = S (TL.joinL [44, 32] ls) := by
      rw [e2]
      exact SX.join_S _ _
    have em : ls.map vS = (ls.map S).map V.str := by
      rw [List.map_map]
      rfl
    have el : ((ls.map S).map (·.length)).sum = (ls.map List.length).sum := by rw [SX.lens]
    have jl := joinL_len ls
    refine ⟨rfl, _, rfl, ", ", p, ls.map S, rfl, rfl, .inr (by rw [← em]; exact hp), ?_, ?_⟩
    · rw [el, List.length_map]
      have : (", " : Str).length = 2 := by decide +kernel
      rw [this]
      omega
    rw [ej]
    have l1 : (S fn).length = fn.length := SX.S_len fn
    have l2 : (S (TL.joinL [44, 32] ls)).length = (TL.joinL [44, 32] ls).length := SX.S_len _
    have l3 : ("(" : Str).length = 1 := by decide +kernel
    have l4 : (")" : Str).length = 1 := by decide +kernel
    have l0 : Str.empty.length = 0 := rfl
    refine ⟨_, rfl, .inl ⟨S fn, rfl, by omega, S fn, rfl, by rw [strLen_append]; omega, "(", rfl, by rw [strLen_append, strLen_append]; omega, _, rfl, .inl ⟨_, rfl, by omega, _, rfl, by rw [strLen_append, strLen_append, strLen_append]; omega, ")", rfl, by rw [strLen_append, strLen_append, strLen_append, strLen_append]; omega, ?_⟩⟩⟩
    have e5 : Str.empty ++ S fn ++ "(" ++ S (TL.joinL [44, 32] ls) ++ ")" = S (wrL fn ls) := by
      apply TL.ext_tl
      rw [TL.tl_append, TL.tl_append, TL.tl_append, TL.tl_append]
      have a1 : TL.tl ("(" : Str) = [40] := by decide +kernel
      have a2 : TL.tl (")" : Str) = [41] := by decide +kernel
      rw [a1, a2]
      show [] ++ fn ++ [40] ++ TL.joinL [44, 32] ls ++ [41] = wrL fn ls
      unfold wrL
      simp
    rw [e5]
    exact q H (Same.refl H)
end
end OM

namespace OM.VL
/-! what is left is a tail; enough fuel is enough -/
theorem tail_drop {p : Nat → Bool} : ∀ l : List Nat, ∃ q, l = q ++ l.dropWhile p
  | [] => ⟨[], rfl⟩
  | c :: l => by
    rw [List.dropWhile_cons]
    split
    · obtain ⟨q, e⟩ := tail_drop (p := p) l
      exact ⟨c :: q, by rw [List.cons_append, ← e]⟩
    · exact ⟨[], rfl⟩
theorem ET_tail {n : Nat} (ih : ∀ l r, E n l = some r → ∃ q, l = q ++ r) {d r : List Nat} (h : ET n d = some r) : ∃ q, d = q ++ r := by
  cases d with
  | nil => cases h; exact ⟨[], rfl⟩
  | cons c d =>
    by_cases h46 : c = 46
    · subst h46
      have h : (if (d.takeWhile digC).isEmpty || d.head? == some 48 then none else some (d.dropWhile digC)) = some r := h
      split at h
      · cases h
      · cases h
        obtain ⟨q, e⟩ := tail_drop (p := digC) d
        exact ⟨46 :: q, by rw [List.cons_append, ← e]⟩
    · by_cases h40 : c = 40
      · subst h40
        by_cases h41 : d.head? = some 41
        · obtain ⟨r', rfl⟩ : ∃ r', d = 41 :: r' := by
            cases d with
            | nil => cases h41
            | cons c d => cases h41; exact ⟨d, rfl⟩
          rw [ET_par] at h
          cases h
          exact ⟨[40, 41], rfl⟩
        · rw [ET_op h41] at h
          split at h
          · rename_i r2 e
            cases h
            obtain ⟨q, e⟩ := ih _ _ e
            exact ⟨40 :: (q ++ [41]), by rw [e]; simp⟩
          · rename_i r2 e
            obtain ⟨q, e⟩ := ih _ _ e
            split at h
            · rename_i r3 e3
              cases h
              obtain ⟨q2, e3⟩ := ih _ _ e3
              exact ⟨40 :: (q ++ 44 :: 32 :: (q2 ++ [41])), by rw [e, e3]; simp⟩
            · cases h
          · cases h
      · rw [ET_o h46 h40] at h
        cases h
        exact ⟨[], rfl⟩
theorem E_tail : ∀ (n : Nat) (l r : List Nat), E n l = some r → ∃ q, l = q ++ r
  | 0, _, _, h => by cases h
  | n + 1, l, r, h => by
    obtain ⟨w, d, rfl, hw, hh⟩ := split_at (p := letC) l
    rw [E_step hw hh] at h
    split at h
    · cases h
    · obtain ⟨q, e⟩ := ET_tail (E_tail n) h
      exact ⟨w ++ q, by rw [List.append_assoc, ← e]⟩
theorem E_count {n : Nat} {l r : List Nat} (h : E n l = some r) : r.count 40 ≤ l.count 40 := by
  obtain ⟨q, rfl⟩ := E_tail n l r h
  rw [List.count_append]
  omega
theorem let_count {w : List Nat} (h : w.all letC = true) : w.count 40 = 0 := List.count_eq_zero.mpr fun z => let_ne h (x := 40) (by decide) 40 z rfl
theorem E_stable : ∀ (n m : Nat) (l : List Nat), l.count 40 < n → l.count 40 < m → E n l = E m l
  | 0, _, _, h, _ => absurd h (Nat.not_lt_zero _)
  | _, 0, _, _, h => absurd h (Nat.not_lt_zero _)
  | n + 1, m + 1, l, h1, h2 => by
    obtain ⟨w, d, rfl, hw, hh⟩ := split_at (p := letC) l
    rw [E_step hw hh, E_step hw hh]
    rw [List.count_append, let_count hw, Nat.zero_add] at h1 h2
    have key : ET n d = ET m d := by
      clear hh
      cases d with
      | nil => rfl
      | cons c d =>
        by_cases h46 : c = 46
        · subst h46
          rfl
        · by_cases h40 : c = 40
          · subst h40
            by_cases h41 : d.head? = some 41
            · obtain ⟨r', rfl⟩ : ∃ r', d = 41 :: r' := by
                cases d with
                | nil => cases h41
                | cons c d => cases h41; exact ⟨d, rfl⟩
              rfl
            · rw [List.count_cons_self] at h1 h2
              have e1 := E_stable n m d (by omega) (by omega)
              rw [ET_op h41, ET_op h41, e1]
              cases he : E m d with
              | none => rfl
              | some r =>
                have hc := E_count he
                have e2 : ∀ r2 : List Nat, r = 44 :: 32 :: r2 → E n r2 = E m r2 := fun r2 z => by
                  have : r.count 40 = r2.count 40 := by
                    rw [z]
                    simp
                  exact E_stable n m r2 (by omega) (by omega)
                split
                · rfl
                · rename_i r2 z
                  cases z
                  rw [e2 r2 rfl]
                · rfl
          · rw [ET_o h46 h40, ET_o h46 h40]
    rw [key]
end OM.VL

namespace OM
open PySem PySem.Spec PyProof.Rows L2 VL
abbrev sEnd : Stmt := top 46
abbrev nEnd : List Str := ["_law_text_here", "_law_at", "_law_end_here", "_law_word", "_law_mark", "_law_is_word", "_law_stop", "_law_spot", "_law_turn"]
theorem scEn : FnScope nEnd ["_law_text_here", "_law_at"] (defScope sEnd) := ⟨rfl, rfl, rfl, by decide +kernel, rfl, by decide +kernel, by decide +kernel⟩
/-- where the value ends, or -1 -/
def endI (n : Nat) (t : List Nat) (i : Nat) : Int := match E n (t.drop i) with
  | some r => ((t.length - r.length : Nat) : Int)
  | none => -1
def spEnd (n : Nat) : Sp := fun vs H Q _ => ∃ (t : List Nat) (i : Nat), vs = [.str (S t), .int (i : Int)] ∧ okS t ∧ i ≤ t.length ∧ (t.drop i).count 40 < n ∧ ∀ H', Same H H' → Q (.int (endI n t i)) H'
theorem lt1 (a b : Nat) : decide ([a] < [b]) = decide (a < b) := decide_eq_decide.mpr (by
  constructor
  · intro h
    cases h with
    | rel h => exact h
    | cons h => cases h
  · intro h
    exact List.Lex.rel h)
theorem leA (c : Nat) : (!decide ((⟨#[c]⟩ : Str).cps.toList < ("a" : Str).cps.toList)) = decide (97 ≤ c) := by
  have e : ("a" : Str).cps.toList = [97] := by decide +kernel
  rw [e]
  show (!decide ([c] < [97])) = _
  rw [lt1]
  by_cases h : c < 97
  · rw [decide_eq_true h, decide_eq_false (show ¬ 97 ≤ c by omega)]
    rfl
  · rw [decide_eq_false h, decide_eq_true (show 97 ≤ c by omega)]
    rfl
theorem leZ (c : Nat) : (!decide (("z" : Str).cps.toList < (⟨#[c]⟩ : Str).cps.toList)) = decide (c ≤ 122) := by
  have e : ("z" : Str).cps.toList = [122] := by decide +kernel
  rw [e]
  show (!decide ([122] < [c])) = _
  rw [lt1]
  by_cases h : 122 < c
  · rw [decide_eq_true h, decide_eq_false (show ¬ c ≤ 122 by omega)]
    rfl
  · rw [decide_eq_false h, decide_eq_true (show c ≤ 122 by omega)]
    rfl
theorem atN {t : List Nat} {i c : Nat} (h : t[i]? = some c) : atI (S t).cps.toList (i : Int) = some c := atI_nat h
abbrev leR : V → V → Hp → VK → Prop := fun x y H Q => ∃ i j, x = V.str i ∧ y = V.str j ∧ Q (V.bl (!decide (j.cps.toList < i.cps.toList))) H
abbrev lenR : List V → Hp → VK → Prop := fun xs H Q => ∃ z : Str, xs = [V.str z] ∧ z.length ≤ sizeLine ∧ Q (V.int z.length) H
/-- over the letters -/
theorem let_loop {D : Ends} {t w d : List Nat} {i : Nat} {H : Hp} (ok : okS t) (e : t.drop i = w ++ d) (hw : w.all letC = true) (hh : ∀ c, d.head? = some c → letC c = false) (hi : i ≤ t.length)
    (q : D.nx [some (.str (S t)), some (.int (i : Int)), some (.int ((i + w.length : Nat) : Int)), none, none, none, none, none, none] H) :
    tWhile (tAnd (tTest (tOp (rI0 fun i j => V.bl (decide (i < j))) (tVar 2) (tCB lenR (tCons (tVar 0) tNil)))) (tTest (tChain leR leR (tC (V.str "a")) (tOp rIxS (tVar 0) (tVar 2)) (tC (V.str "z"))))) (tAsg (tOp (rI0 fun i j => V.int (i + j)) (tVar 2) (tC (V.int 1))) (gName 2))
      D [some (.str (S t)), some (.int (i : Int)), some (.int (i : Int)), none, none, none, none, none, none] H := by
  have lt : t.length = i + (w.length + d.length) := by
    have := congrArg List.length e
    rw [List.length_drop, List.length_append] at this
    omega
  have at_ : ∀ j, t[i + j]? = (w ++ d)[j]? := fun j => by rw [← e, List.getElem?_drop]
  have sl : (S t).length = t.length := SX.S_len t
  refine ⟨fun m σ G => ∃ j, j ≤ w.length ∧ m = w.length - j ∧ σ = [some (.str (S t)), some (.int (i : Int)), some (.int ((i + j : Nat) : Int)), none, none, none, none, none, none] ∧ G = H, ⟨_, 0, Nat.zero_le _, rfl, rfl, rfl⟩, ?_⟩
  rintro m σ G ⟨j, hj, rfl, rfl, rfl⟩
  have fin : j = w.length → D.nx [some (.str (S t)), some (.int (i : Int)), some (.int ((i + j : Nat) : Int)), none, none, none, none, none, none] G := fun z => by
    rw [z]
    exact q
  refine ⟨_, rfl, _, rfl, S t, rfl, ok.len, _, _, rfl, rfl, _, rfl, ?_⟩
  rcases Nat.lt_or_ge (i + j) t.length with hlt | hge
  · have e1 : decide (((i + j : Nat) : Int) < ((S t).length : Int)) = true := decide_eq_true (by rw [sl]; omega)
    rw [e1]
    obtain ⟨c, hc1⟩ : ∃ c, t[i + j]? = some c := ⟨t[i + j], List.getElem?_eq_getElem hlt⟩
    have hc2 := hc1
    rw [at_ j] at hc2
    refine iteT ⟨_, rfl, _, rfl, S t, _, c, rfl, rfl, ok.len, atN hc1, "a", ⟨#[c]⟩, rfl, rfl, _, rfl, ?_⟩
    rw [leA]
    have stop : letC c = false → j = w.length := fun nl => by
      rcases Nat.lt_or_ge j w.length with h | h
      · rw [List.getElem?_append_left h] at hc2
        have := List.all_eq_true.mp hw c (List.mem_of_getElem? hc2)
        rw [nl] at this
        cases this
      · omega
    have go : letC c = true → j < w.length := fun yl => by
      rcases Nat.lt_or_ge j w.length with h | h
      · exact h
      · rw [List.getElem?_append_right h, show j - w.length = 0 by omega] at hc2
        have := hh c (by rw [List.head?_eq_getElem?]; exact hc2)
        rw [yl] at this
        cases this
    cases h97 : decide (97 ≤ c) with
    | false => exact iteF ⟨_, rfl, iteF (fin (stop (by unfold letC; rw [h97]; rfl)))⟩
    | true =>
      refine iteT ⟨⟨#[c]⟩, "z", rfl, rfl, _, rfl, ?_⟩
      rw [leZ]
      cases h122 : decide (c ≤ 122) with
      | false => exact iteF (fin (stop (by unfold letC; rw [h97, h122]; rfl)))
      | true =>
        have jl := go (by unfold letC; rw [h97, h122]; rfl)
        refine iteT ⟨fun σ' H' => σ' = [some (.str (S t)), some (.int (i : Int)), some (.int ((i + (j + 1) : Nat) : Int)), none, none, none, none, none, none] ∧ H' = G, fun σ' H' z => ⟨w.length - (j + 1), by omega, j + 1, jl, rfl, z.1, z.2⟩, ?_⟩
        exact ⟨_, rfl, _, _, rfl, rfl, rfl, rfl⟩
  · have e1 : decide (((i + j : Nat) : Int) < ((S t).length : Int)) = false := decide_eq_false (by rw [sl]; omega)
    rw [e1]
    exact iteF (fin (by omega))
abbrev inR : V → V → Hp → VK → Prop := fun x y H Q => ∃ i j, x = V.str i ∧ y = V.str j ∧ Q (V.bl (!(Builtin.Str.occurrences j i 0 j.length 1).isEmpty)) H
/-- over the digits, from place p on -/
theorem dig_loop {D : Ends} {t w d : List Nat} {p : Nat} {x1 x2 x3 x4 x5 x7 x8 : Option V} {H : Hp} (ok : okS t) (e : t.drop p = w ++ d) (hw : w.all digC = true) (hh : ∀ c, d.head? = some c → digC c = false) (hi : p ≤ t.length)
    (q : D.nx [some (.str (S t)), x1, x2, x3, x4, x5, some (.int ((p + w.length : Nat) : Int)), x7, x8] H) :
    tWhile (tAnd (tTest (tOp (rI0 fun i j => V.bl (decide (i < j))) (tVar 6) (tCB lenR (tCons (tVar 0) tNil)))) (tTest (tOp inR (tOp rIxS (tVar 0) (tVar 6)) (tC (V.str "0123456789"))))) (tAsg (tOp (rI0 fun i j => V.int (i + j)) (tVar 6) (tC (V.int 1))) (gName 6))
      D [some (.str (S t)), x1, x2, x3, x4, x5, some (.int (p : Int)), x7, x8] H := by
  have lt : t.length = p + (w.length + d.length) := by
    have := congrArg List.length e
    rw [List.length_drop, List.length_append] at this
    omega
  have at_ : ∀ j, t[p + j]? = (w ++ d)[j]? := fun j => by rw [← e, List.getElem?_drop]
  have sl : (S t).length = t.length := SX.S_len t
  refine ⟨fun m σ G => ∃ j, j ≤ w.length ∧ m = w.length - j ∧ σ = [some (.str (S t)), x1, x2, x3, x4, x5, some (.int ((p + j : Nat) : Int)), x7, x8] ∧ G = H, ⟨_, 0, Nat.zero_le _, rfl, rfl, rfl⟩, ?_⟩
  rintro m σ G ⟨j, hj, rfl, rfl, rfl⟩
  have fin : j = w.length → D.nx [some (.str (S t)), x1, x2, x3, x4, x5, some (.int ((p + j : Nat) : Int)), x7, x8] G := fun z => by
    rw [z]
    exact q
  refine ⟨_, rfl, _, rfl, S t, rfl, ok.len, _, _, rfl, rfl, _, rfl, ?_⟩
  rcases Nat.lt_or_ge (p + j) t.length with hlt | hge
  · have e1 : decide (((p + j : Nat) : Int) < ((S t).length : Int)) = true := decide_eq_true (by rw [sl]; omega)
    rw [e1]
    obtain ⟨c, hc1⟩ : ∃ c, t[p + j]? = some c := ⟨t[p + j], List.getElem?_eq_getElem hlt⟩
    have hc2 := hc1
    rw [at_ j] at hc2
    refine iteT ⟨_, rfl, _, rfl, S t, _, c, rfl, rfl, ok.len, atN hc1, ⟨#[c]⟩, digits, rfl, rfl, _, rfl, ?_⟩
    rw [in_digits]
    cases hd : digC c with
    | false =>
      refine iteF (fin ?_)
      rcases Nat.lt_or_ge j w.length with h | h
      · rw [List.getElem?_append_left h] at hc2
        have := List.all_eq_true.mp hw c (List.mem_of_getElem? hc2)
        rw [hd] at this
        cases this
      · omega
    | true =>
      have jl : j < w.length := by
        rcases Nat.lt_or_ge j w.length with h | h
        · exact h
        · rw [List.getElem?_append_right h, show j - w.length = 0 by omega] at hc2
          have := hh c (by rw [List.head?_eq_getElem?]; exact hc2)
          rw [hd] at this
          cases this
      refine iteT ⟨fun σ' H' => σ' = [some (.str (S t)), x1, x2, x3, x4, x5, some (.int ((p + (j + 1) : Nat) : Int)), x7, x8] ∧ H' = G, fun σ' H' z => ⟨w.length - (j + 1), by omega, j + 1, jl, rfl, z.1, z.2⟩, ?_⟩
      exact ⟨_, rfl, _, _, rfl, rfl, rfl, rfl⟩
  · have e1 : decide (((p + j : Nat) : Int) < ((S t).length : Int)) = false := decide_eq_false (by rw [sl]; omega)
    rw [e1]
    exact iteF (fin (by omega))
theorem cut_mid {t : List Nat} {i j : Nat} (hi : i ≤ t.length) (ij : i ≤ j) : cutS (S t) (some (i : Int)) (some (j : Int)) = S ((t.drop i).take (j - i)) := by
  unfold cutS
  rw [HT.sIx_nat, HT.sIx_nat, show (S t).length = t.length from SX.S_len t, Nat.min_eq_left hi]
  show S ((t.drop i).take (min j t.length - i)) = _
  congr 1
  rcases Nat.le_total j t.length with h | h
  · rw [Nat.min_eq_left h]
  · rw [Nat.min_eq_right h, List.take_of_length_le (by rw [List.length_drop]; omega), List.take_of_length_le (by rw [List.length_drop]; omega)]
theorem words_in (w : List Nat) : inV (.str (S w)) [V.str "else", V.str "end", V.str "get", V.str "if", V.str "put", V.str "show"] = wordsL.contains w := by
  have e : inV (.str (S w)) (words6.map V.str) = words6.contains (S w) := inV_words (S w)
  rw [show [V.str "else", V.str "end", V.str "get", V.str "if", V.str "put", V.str "show"] = words6.map V.str from rfl, e]
  have h : words6 = wordsL.map S := by decide +kernel
  rw [h, Bool.eq_iff_iff, List.contains_iff_mem, List.contains_iff_mem]
  exact ⟨fun z => by
    obtain ⟨y, hy, z⟩ := List.mem_map.mp z
    rw [← SX.S_inj z]
    exact hy, fun z => List.mem_map.mpr ⟨w, z, rfl⟩⟩
theorem dS (a b : List Nat) : decide (V.str (S a) = V.str (S b)) = (a == b) := by
  rw [Bool.eq_iff_iff, decide_eq_true_eq, beq_iff_eq]
  exact ⟨fun z => SX.S_inj (V.str.inj z), fun z => by rw [z]⟩
/-- a word, but not get with a dot behind it -/
theorem word_test {t w : List Nat} {i ie : V} {m : List Nat} {b : Bool} {x6 x7 x8 : Option V} {H : Hp} {Q : Bool → Hp → Prop} (q : Q (b && (w != getL || m != [46])) H) :
    tAnd (tB (tVar 5)) (tOr (tTest (tOp rNe (tVar 3) (tC (V.str "get")))) (tTest (tOp rNe (tVar 4) (tC (V.str "."))))) [some (.str (S t)), some i, some ie, some (.str (S w)), some (.str (S m)), some (.bl b), x6, x7, x8] H Q := by
  have e1 : ("get" : Str) = S getL := by decide +kernel
  have e2 : ("." : Str) = S [46] := by decide +kernel
  refine ⟨_, rfl, _, rfl, ?_⟩
  cases b with
  | false => exact iteF q
  | true =>
    rw [Bool.true_and] at q
    refine iteT ⟨_, rfl, rfl, _, rfl, ?_⟩
    rw [e1, dS]
    have n1 : (!(w == getL)) = (w != getL) := rfl
    rw [n1]
    cases h : (w != getL) with
    | true =>
      rw [h] at q
      exact iteT q
    | false =>
      rw [h, Bool.false_or] at q
      refine iteF ⟨_, rfl, rfl, _, rfl, ?_⟩
      rw [e2, dS]
      exact q
theorem mark46 (d : List Nat) : (d.take 1 != [46]) = (d.head? != some 46) := by
  cases d with
  | nil => rfl
  | cons c d =>
    show (!([c] == [46])) = (!(some c == some 46))
    congr 1
    by_cases h : c = 46
    · subst h; rfl
    · simp [h]
theorem cut_at {t l : List Nat} {p k : Nat} (hp : p ≤ t.length) (e : t.drop p = l) : cutS (S t) (some (p : Int)) (some ((p : Int) + (k : Int))) = S (l.take k) := by
  rw [show (p : Int) + (k : Int) = ((p + k : Nat) : Int) by omega, cut_mid hp (by omega), e, show p + k - p = k by omega]
/-- behind an opening parenthesis, ahead of so many values: how the reading goes on -/
def Rl (n : Nat) (r' l : List Nat) : Nat → Prop
  | 0 => l = r'
  | 1 => E n r' = some (44 :: 32 :: l)
  | _ => ∃ r2, E n r' = some (44 :: 32 :: r2) ∧ E n r2 = some (44 :: 32 :: l)
def fnE (n : Nat) (r' : List Nat) : Option (List Nat) := match E n r' with
  | some (41 :: r2) => some r2
  | some (44 :: 32 :: r2) => match E n r2 with
    | some (41 :: r3) => some r3
    | _ => none
  | _ => none
theorem fnE_at {n : Nat} {r' l : List Nat} : ∀ {k : Nat}, k < 2 → Rl n r' l k → (∀ r3, E n l = some (41 :: r3) → fnE n r' = some r3) ∧ ((∀ r3, E n l ≠ some (41 :: r3)) → (∀ r3, E n l ≠ some (44 :: 32 :: r3)) → fnE n r' = none) ∧ (∀ r3, E n l = some (44 :: 32 :: r3) → Rl n r' r3 (k + 1))
  | 0, _, h => by
    have h : l = r' := h
    subst h
    refine ⟨fun r3 e => ?_, fun h1 h2 => ?_, fun r3 e => e⟩
    · unfold fnE
      rw [e]
      rfl
    · unfold fnE
      split
      · rename_i e
        exact absurd e (h1 _)
      · rename_i e
        exact absurd e (h2 _)
      · rfl
  | 1, _, h => by
    have h : E n r' = some (44 :: 32 :: l) := h
    refine ⟨fun r3 e => ?_, fun h1 h2 => ?_, fun r3 e => ⟨l, h, e⟩⟩
    · unfold fnE
      rw [h]
      show (match E n l with | some (41 :: r3) => some r3 | _ => none) = _
      rw [e]
      rfl
    · unfold fnE
      rw [h]
      show (match E n l with | some (41 :: r3) => some r3 | _ => none) = _
      split
      · rename_i e
        exact absurd e (h1 _)
      · rfl
  | k + 2, h, _ => absurd h (by omega)
theorem fnE_end {n : Nat} {r' l : List Nat} (h : Rl n r' l 2) : fnE n r' = none := by
  obtain ⟨r2, h1, h2⟩ := h
  unfold fnE
  rw [h1]
  show (match E n r2 with | some (41 :: r3) => some r3 | _ => none) = _
  rw [h2]
  rfl
theorem drop_tail {t l r : List Nat} {p : Nat} (hp : p ≤ t.length) (e : t.drop p = l) {q : List Nat} (h : l = q ++ r) : t.drop (t.length - r.length) = r ∧ r.length ≤ t.length := by
  have l1 := congrArg List.length e
  have l2 := congrArg List.length h
  rw [List.length_drop] at l1
  rw [List.length_append] at l2
  refine ⟨?_, by omega⟩
  rw [show t.length - r.length = p + q.length by omega, ← List.drop_drop, e, h, List.drop_left]
section
variable {P : Program} {w : World} {K : PySem.W.Frag} {mg : Str → Option Value} {base : Heap} {f : Addr} {fd : FuncData}
theorem ok_end {n k : Nat} (F : Fun K "_law_end" "_law_end" sEnd f fd) (ln : mg "len" = none) (it : mg "int" = none) (rg : mg "range" = none) (gE : mg "_law_end" = some (.ref f)) (bE : Binds K fd ["_law_text_here", "_law_at"] []) (G : FnOk P w K mg base CX0 k f fd ["_law_text_here", "_law_at"] (spEnd n)) :
    FnOk P w K mg base CX0 (k + 1) f fd ["_law_text_here", "_law_at"] (spEnd (n + 1)) := by
  refine F.ok scEn (fun vs H Q E h => ?_) (fun cdv A outer s H vs Q E hr h => ?_)
  · obtain ⟨t, i, rfl, _⟩ := h
    rfl
  · obtain ⟨t, i, rfl, ok, hi, hc, q⟩ := h
    refine ⟨_, pss_cons (ps_set (i := 2) scEn.nd rfl (Or.inl rfl) (pv 1))
      (pss_cons (ps_while PassesOwn.never (PW.pt (pw_and (pt_cmpR op_lt (pv 2) (pe_callB call_len_str (by rfl) ln PySem.boot_len (pa_cons (pv 0) pa_nil)) (nomark _)) (pw_and1 (pt_chain op_le_str op_le_str pe_str (pe_ix ix_str (pv 0) (pv 2) (fun _ _ => rfl)) pe_str))))
        (pss_one (ps_set (i := 2) scEn.nd rfl (Or.inl rfl) (pe_op op_add (pv 2) pe_int))))
      (pss_cons (ps_par (i := 3) (j := 4) rfl scEn.nd rfl rfl (by decide) rfl rfl (pa_cons (pe_slice sl_str (pv 0) (po_some (pv 1)) (po_some (pv 2))) (pa_cons (pe_slice sl_str (pv 0) (po_some (pv 2)) (po_some (pe_op op_add (pv 2) pe_int))) pa_nil)) (by rfl))
      (pss_cons (ps_set (i := 5) scEn.nd rfl (Or.inl rfl) (pe_cmpR op_in_seq (pv 3) (pe_lst (pa_cons pe_str (pa_cons pe_str (pa_cons pe_str (pa_cons pe_str (pa_cons pe_str (pa_cons pe_str pa_nil))))))) (by rfl)))
      (pss_cons (ps_if (PW.pt (pw_or (pt_not (pt_chain op_lt op_lt pe_int (pe_callB call_len_str (by rfl) ln PySem.boot_len (pa_cons (pv 3) pa_nil)) pe_int)) (pw_or1 (PW.pt (pw_and (pt_val (pv 5)) (pw_and1 (PW.pt (pw_or (pt_cmpR op_ne (pv 3) pe_str (nomark _)) (pw_or1 (pt_cmpR op_ne (pv 4) pe_str (nomark _)))))))))) ) (pss_one (ps_ret (pe_un un_neg pe_int))) pss_nil)
      (pss_cons (ps_if (pt_cmpR op_eq (pv 4) pe_str (nomark _)) (pss_cons (ps_set (i := 6) scEn.nd rfl (Or.inl rfl) (pe_op op_add (pv 2) pe_int))
          (pss_cons (ps_while PassesOwn.never (PW.pt (pw_and (pt_cmpR op_lt (pv 6) (pe_callB call_len_str (by rfl) ln PySem.boot_len (pa_cons (pv 0) pa_nil)) (nomark _)) (pw_and1 (pt_cmpR op_in_str (pe_ix ix_str (pv 0) (pv 6) (fun _ _ => rfl)) pe_str (by rfl))))) (pss_one (ps_set (i := 6) scEn.nd rfl (Or.inl rfl) (pe_op op_add (pv 6) pe_int))))
          (pss_one (ps_ret (pe_ifExp (PW.pt (pw_and (pt_cmpR op_gt (pv 6) (pe_op op_add (pv 2) pe_int) (nomark _)) (pw_and1 (pt_cmpR op_ne (pe_ix ix_str (pv 0) (pe_op op_add (pv 2) pe_int) (fun _ _ => rfl)) pe_str (nomark _))))) (pv 6) (pe_un un_neg pe_int)))))) pss_nil)
      (pss_cons (ps_if (pt_cmpR op_ne (pv 4) pe_str (nomark _)) (pss_one (ps_ret (pv 2))) pss_nil)
      (pss_cons (ps_set (i := 7) scEn.nd rfl (Or.inl rfl) (pe_op op_add (pv 2) pe_int))
      (pss_cons (ps_if (pt_cmpR op_eq (pe_slice sl_str (pv 0) (po_some (pv 7)) (po_some (pe_op op_add (pv 7) pe_int))) pe_str (nomark _)) (pss_one (ps_ret (pe_op op_add (pv 7) pe_int))) pss_nil)
      (pss_cons (ps_for PassesOwn.never rfl (pi_range1 (by rfl) rg (pa_cons pe_int pa_nil)) (pg_name (i := 8) scEn.nd rfl (Or.inl rfl))
        (pss_cons (ps_set (i := 7) scEn.nd rfl (Or.inl rfl) (pe_call G hr (by rfl) gE F.kp bE .nil pass0 (pa_cons (pv 0) (pa_cons (pv 7) pa_nil))))
        (pss_cons (ps_if (PW.pt (pw_or (pt_cmpR op_lt (pv 7) pe_int (nomark _)) (pw_or1 (pt_cmpR op_eq (pe_slice sl_str (pv 0) (po_some (pv 7)) (po_some (pe_op op_add (pv 7) pe_int))) pe_str (nomark _))))) (pss_one (ps_ret (pe_op op_add (pv 7) (pe_callTy call_int1 (by rfl) it (by decide +kernel) (pa_cons (pe_cmpR op_ge (pv 7) pe_int (nomark _)) pa_nil))))) pss_nil)
        (pss_cons (ps_if (pt_cmpR op_ne (pe_slice sl_str (pv 0) (po_some (pv 7)) (po_some (pe_op op_add (pv 7) pe_int))) pe_str (nomark _)) (pss_one (ps_ret (pe_un un_neg pe_int))) pss_nil)
        (pss_one (ps_set (i := 7) scEn.nd rfl (Or.inl rfl) (pe_op op_add (pv 7) pe_int)))))))
      (pss_one (ps_ret (pe_un un_neg pe_int)))))))))))), ?_⟩
    obtain ⟨w, d, e, hw, hh⟩ := split_at (p := letC) (t.drop i)
    refine ⟨_, rfl, let_loop ok e hw hh hi ?_⟩
    have lt : t.length = i + (w.length + d.length) := by
      have := congrArg List.length e
      rw [List.length_drop, List.length_append] at this
      omega
    have dp : t.drop (i + w.length) = d := by rw [← List.drop_drop, e, List.drop_left]
    have cw : cutS (S t) (some (i : Int)) (some ((i + w.length : Nat) : Int)) = S w := by
      rw [cut_mid hi (by omega), e, show i + w.length - i = w.length by omega, List.take_left]
    have cm : cutS (S t) (some ((i + w.length : Nat) : Int)) (some (((i + w.length : Nat) : Int) + 1)) = S (d.take 1) := by
      rw [show (((i + w.length : Nat) : Int) + 1) = ((i + w.length + 1 : Nat) : Int) by omega, cut_mid (by omega) (by omega), dp, show i + w.length + 1 - (i + w.length) = 1 by omega]
    refine ⟨_, rfl, _, rfl, _, rfl, _, rfl, _, rfl, S t, rfl, ok.len, ?_⟩
    refine ⟨_, rfl, _, rfl, _, rfl, _, rfl, _, _, rfl, rfl, _, rfl, S t, rfl, ok.len, _, _, rfl, ?_⟩
    rw [cw, cm]
    refine ⟨_, rfl, (by show 6 ≤ sizeLine; decide), fun p1 hp1 => ?_⟩
    have s1 := same_upd (o := .lst [V.str "else", V.str "end", V.str "get", V.str "if", V.str "put", V.str "show"]) hp1
    refine ⟨p1, _, rfl, .inl (SqL.of upd_same), rfl, by decide, ?_⟩
    rw [words_in]
    generalize upd H p1 _ = H1 at s1
    have lw : (S w).length = w.length := SX.S_len w
    have lt1 := ok.1
    have line : (1000 : Nat) ≤ sizeLine := by decide
    have ret : badW w d = true → Q (.int (-1)) H1 := fun h => by
      have z := q H1 s1
      unfold endI at z
      rw [e, E_step hw hh, if_pos h] at z
      exact z
    refine ⟨_, rfl, S w, rfl, by omega, _, _, rfl, rfl, _, rfl, ?_⟩
    rw [show decide ((0 : Int) < ((S w).length : Int)) = decide (0 < w.length) from decide_eq_decide.mpr (by rw [lw]; omega)]
    cases h1 : decide (0 < w.length) with
    | false =>
      have h1 := of_decide_eq_false h1
      refine iteF ⟨_, rfl, iteT (iteT ⟨_, rfl, ret ?_⟩)⟩
      have : w = [] := List.length_eq_zero_iff.mp (by omega)
      rw [this]
      rfl
    | true =>
      have h1 := of_decide_eq_true h1
      have we : w.isEmpty = false := by
        cases w with
        | nil => simp at h1
        | cons a w => rfl
      refine iteT ⟨_, _, rfl, rfl, _, rfl, ?_⟩
      rw [show decide (((S w).length : Int) < 9) = decide (w.length < 9) from decide_eq_decide.mpr (by rw [lw]; omega)]
      cases h2 : decide (w.length < 9) with
      | false =>
        have h2 := of_decide_eq_false h2
        refine iteT (iteT ⟨_, rfl, ret ?_⟩)
        unfold badW
        rw [decide_eq_true (show 8 < w.length by omega), Bool.or_true, Bool.true_or]
      | true =>
        have h2 := of_decide_eq_true h2
        have b8 : decide (8 < w.length) = false := decide_eq_false (by omega)
        have bw : badW w d = (wordsL.contains w && (w != getL || d.head? != some 46)) := by
          unfold badW
          rw [we, b8]
          rfl
        refine iteF (word_test ?_)
        rw [mark46, show (if false = true then !wordsL.contains w else wordsL.contains w) = wordsL.contains w from rfl, ← bw]
        cases hb : badW w d with
        | true => exact iteT ⟨_, rfl, ret hb⟩
        | false =>
          have val : ∀ x, Q x H1 → x = .int (endI (n + 1) t i) → Q (.int (endI (n + 1) t i)) H1 := fun x z y => by rw [← y]; exact z
          have eE : endI (n + 1) t i = match ET n d with
            | some r => ((t.length - r.length : Nat) : Int)
            | none => -1 := by
            unfold endI
            rw [e, E_step hw hh, if_neg (by rw [hb]; decide)]
          have e2 : ("." : Str) = S [46] := by decide +kernel
          have e3 : ("(" : Str) = S [40] := by decide +kernel
          refine iteF ⟨_, rfl, rfl, _, rfl, ?_⟩
          rw [e2, dS]
          by_cases h46 : d.head? = some 46
          · obtain ⟨r', rfl⟩ : ∃ r', d = 46 :: r' := by
              cases d with
              | nil => cases h46
              | cons c d => cases h46; exact ⟨d, rfl⟩
            obtain ⟨ds, d2, e5, hds, hd2⟩ := split_at (p := digC) r'
            have dp1 : t.drop (i + w.length + 1) = ds ++ d2 := by
              rw [← List.drop_drop, dp, ← e5]
              rfl
            have l2 : t.length = i + w.length + 1 + (ds.length + d2.length) := by
              have := congrArg List.length e5
              rw [List.length_append] at this
              rw [List.length_cons] at lt
              omega
            obtain ⟨t1, t2⟩ := take_app hds hd2
            have eT : ET n (46 :: r') = if ds.isEmpty || r'.head? == some 48 then none else some d2 := by
              show (if (r'.takeWhile digC).isEmpty || r'.head? == some 48 then none else some (r'.dropWhile digC)) = _
              rw [e5, t1, t2]
            rw [eT] at eE
            refine iteT ⟨_, rfl, _, _, rfl, rfl, dig_loop (p := i + w.length + 1) ok dp1 hds hd2 (by omega) ?_⟩
            refine ⟨_, rfl, _, rfl, _, _, rfl, rfl, _, _, rfl, rfl, _, rfl, ?_⟩
            have z := q H1 s1
            rw [eE] at z
            cases ds with
            | nil =>
              have z : Q (.int (-1)) H1 := z
              rw [show decide (((i + w.length : Nat) : Int) + 1 < ((i + w.length + 1 + ([] : List Nat).length : Nat) : Int)) = false from decide_eq_false (by simp)]
              exact iteF (iteF ⟨_, rfl, z⟩)
            | cons x ds =>
              rw [show decide (((i + w.length : Nat) : Int) + 1 < ((i + w.length + 1 + (x :: ds).length : Nat) : Int)) = true from decide_eq_true (by simp; omega)]
              have tx1 : t[i + w.length + 1]? = some x := by
                have : (t.drop (i + w.length + 1))[0]? = some x := by rw [dp1]; rfl
                rw [List.getElem?_drop] at this
                exact this
              have hx : r'.head? = some x := by rw [e5]; rfl
              refine iteT ⟨_, rfl, _, rfl, _, _, rfl, rfl, S t, _, x, rfl, rfl, ok.len, atN tx1, rfl, _, rfl, ?_⟩
              have e0 : ("0" : Str) = S [48] := by decide +kernel
              rw [e0, show (V.str ({ cps := #[x] } : Str)) = V.str (S [x]) from rfl, dS]
              by_cases h48 : x = 48
              · rw [h48] at hx ⊢
                rw [hx] at z
                exact iteF ⟨_, rfl, z⟩
              · have n1 : ([x] == [48]) = false := by simp [h48]
                rw [n1]
                have n2 : (some x == some 48) = false := by simp [h48]
                rw [hx, n2] at z
                have : t.length - d2.length = i + w.length + 1 + (x :: ds).length := by omega
                have z : Q (.int ((t.length - d2.length : Nat) : Int)) H1 := z
                rw [this] at z
                exact iteT ⟨_, rfl, z⟩
          · have m46 : (d.take 1 == [46]) = false := by
              have := mark46 d
              have h : (d.head? != some 46) = true := by simpa using h46
              rw [h] at this
              simpa using this
            rw [m46]
            refine iteF ⟨_, rfl, rfl, _, rfl, ?_⟩
            rw [e3, dS]
            by_cases h40 : d.head? = some 40
            · obtain ⟨r', rfl⟩ : ∃ r', d = 40 :: r' := by
                cases d with
                | nil => cases h40
                | cons c d => cases h40; exact ⟨d, rfl⟩
              refine iteF ⟨_, rfl, _, _, rfl, rfl, ?_⟩
              have dp1 : t.drop (i + w.length + 1) = r' := by
                rw [← List.drop_drop, dp]
                rfl
              have lr : t.length = i + w.length + 1 + r'.length := by
                rw [List.length_cons] at lt
                omega
              have cp1 : cutS (S t) (some (((i + w.length : Nat) : Int) + 1)) (some (((i + w.length : Nat) : Int) + 1 + 1)) = S (r'.take 1) := cut_at (p := i + w.length + 1) (k := 1) (by omega) dp1
              have e4 : (")" : Str) = S [41] := by decide +kernel
              have e6 : (", " : Str) = S [44, 32] := by decide +kernel
              refine ⟨_, rfl, _, rfl, _, rfl, _, rfl, _, _, rfl, rfl, _, rfl, S t, rfl, ok.len, rfl, _, rfl, ?_⟩
              rw [cp1, e4, dS]
              by_cases h41 : r'.head? = some 41
              · obtain ⟨r2, rfl⟩ : ∃ r2, r' = 41 :: r2 := by
                  cases r' with
                  | nil => cases h41
                  | cons c d => cases h41; exact ⟨d, rfl⟩
                rw [ET_par] at eE
                refine iteT ⟨_, rfl, _, _, rfl, rfl, ?_⟩
                have z := q H1 s1
                rw [eE] at z
                have z : Q (.int ((t.length - r2.length : Nat) : Int)) H1 := z
                rw [List.length_cons] at lr
                rw [show t.length - r2.length = i + w.length + 1 + 1 by omega] at z
                exact z
              · have n41 : (r'.take 1 == [41]) = false := by
                  cases r' with
                  | nil => rfl
                  | cons c d =>
                    have : c ≠ 41 := fun z => h41 (by rw [z]; rfl)
                    simp [this]
                rw [n41, ET_op h41] at *
                have cnt : r'.count 40 < n := by
                  rw [e, List.count_append, List.count_cons_self] at hc
                  omega
                have fin : ∀ (x : Int) (G : Hp), Same H1 G → endI (n + 1) t i = x → Q (.int x) G := fun x G sG y => by
                  rw [← y]
                  exact q G (s1.trans sG)
                have eF : endI (n + 1) t i = match fnE n r' with
                  | some r => ((t.length - r.length : Nat) : Int)
                  | none => -1 := eE
                refine iteF ⟨2, rfl, by decide, by decide, for_range (lo := 0) (n := 2) (fun k σ G => Same H1 G ∧ ∃ (p : Nat) (l : List Nat) (x8 : Option V), σ = [some (.str (S t)), some (.int (i : Int)), some (.int ((i + w.length : Nat) : Int)), some (.str (S w)), some (.str (S ((40 :: r').take 1))), some (.bl (wordsL.contains w)), none, some (.int (p : Int)), x8] ∧ p ≤ t.length ∧ t.drop p = l ∧ l.count 40 < n ∧ Rl n r' l k)
                  ⟨Same.refl H1, i + w.length + 1, r', none, rfl, by omega, dp1, cnt, rfl⟩ (fun k σ G hk h => ?_) (fun σ G h => ?_)⟩
                · obtain ⟨sG, p, l, x8, rfl, hp, el, cl, rl⟩ := h
                  obtain ⟨r1, r2, r3'⟩ := fnE_at hk rl
                  refine ⟨_, rfl, _, rfl, t, p, rfl, ok, hp, by rw [el]; exact cl, fun G2 sG2 => ?_⟩
                  have s2 := sG.trans sG2
                  cases he : VL.E n l with
                  | none =>
                    have ev : endI n t p = -1 := by
                      unfold endI
                      rw [el, he]
                    rw [ev]
                    have er : endI (n + 1) t i = -1 := by
                      rw [eF, r2 (by rw [he]; simp) (by rw [he]; simp)]
                    exact ⟨_, rfl, _, _, rfl, rfl, _, rfl, iteT (iteT ⟨_, rfl, _, rfl, _, _, rfl, rfl, .inr ⟨_, rfl, _, _, rfl, rfl, fin _ G2 s2 er⟩⟩)⟩
                  | some y =>
                    obtain ⟨qq, hq⟩ := E_tail n l y he
                    obtain ⟨dy, ly⟩ := drop_tail hp el hq
                    have ev : endI n t p = ((t.length - y.length : Nat) : Int) := by
                      unfold endI
                      rw [el, he]
                    rw [ev]
                    have n0 : decide (((t.length - y.length : Nat) : Int) < 0) = false := decide_eq_false (by omega)
                    have cpy : cutS (S t) (some ((t.length - y.length : Nat) : Int)) (some (((t.length - y.length : Nat) : Int) + 1)) = S (y.take 1) := cut_at (p := t.length - y.length) (k := 1) (by omega) dy
                    have cpz : cutS (S t) (some ((t.length - y.length : Nat) : Int)) (some (((t.length - y.length : Nat) : Int) + 2)) = S (y.take 2) := cut_at (p := t.length - y.length) (k := 2) (by omega) dy
                    refine ⟨_, rfl, _, _, rfl, rfl, _, rfl, ?_⟩
                    rw [n0]
                    refine iteF ⟨_, rfl, _, rfl, _, rfl, _, rfl, _, _, rfl, rfl, _, rfl, S t, rfl, ok.len, rfl, _, rfl, ?_⟩
                    rw [cpy, dS]
                    by_cases y41 : y.head? = some 41
                    · obtain ⟨r3, rfl⟩ : ∃ r3, y = 41 :: r3 := by
                        cases y with
                        | nil => cases y41
                        | cons c d => cases y41; exact ⟨d, rfl⟩
                      have er : endI (n + 1) t i = ((t.length - r3.length : Nat) : Int) := by
                        rw [eF, r1 r3 he]
                      rw [List.length_cons] at ly
                      have ge : decide ((0 : Int) ≤ ((t.length - (41 :: r3).length : Nat) : Int)) = true := decide_eq_true (by omega)
                      refine iteT ⟨_, rfl, _, rfl, _, _, rfl, rfl, .inr ⟨_, rfl, _, _, rfl, rfl, ?_⟩⟩
                      rw [ge]
                      exact fin _ G2 s2 (by rw [er, List.length_cons]; simp only [if_true]; omega)
                    · have n41y : (y.take 1 == [41]) = false := by
                        cases y with
                        | nil => rfl
                        | cons c d =>
                          have : c ≠ 41 := fun z => y41 (by rw [z]; rfl)
                          simp [this]
                      rw [n41y]
                      have m41 : ∀ r3, VL.E n l ≠ some (41 :: r3) := fun r3 z => by
                        rw [he] at z
                        cases z
                        exact y41 rfl
                      refine iteF ⟨_, rfl, _, rfl, _, rfl, _, rfl, _, _, rfl, rfl, _, rfl, S t, rfl, ok.len, rfl, _, rfl, ?_⟩
                      rw [cpz, e6, dS]
                      by_cases y44 : y.take 2 = [44, 32]
                      · have ye : y = 44 :: 32 :: y.drop 2 := by
                          conv => lhs; rw [← List.take_append_drop 2 y, y44]
                          rfl
                        generalize y.drop 2 = r3 at ye
                        subst ye
                        obtain ⟨d3, l3⟩ := drop_tail (q := qq ++ [44, 32]) (r := r3) hp el (by rw [hq]; simp)
                        have c3 : r3.count 40 < n := by
                          rw [hq, List.count_append] at cl
                          have : (44 :: 32 :: r3).count 40 = r3.count 40 := by simp [List.count_cons]
                          omega
                        rw [List.length_cons, List.length_cons] at ly
                        have ez : (((t.length - (44 :: 32 :: r3).length : Nat) : Int) + 2) = ((t.length - r3.length : Nat) : Int) := by
                          rw [List.length_cons, List.length_cons]
                          omega
                        refine iteF ⟨_, rfl, _, _, rfl, rfl, s2, t.length - r3.length, r3, some (.int (0 + (k : Int))), ?_, by omega, d3, c3, r3' _ he⟩
                        rw [← ez]
                        rfl
                      · have n44 : (y.take 2 == [44, 32]) = false := by simpa using y44
                        have m44 : ∀ r3, VL.E n l ≠ some (44 :: 32 :: r3) := fun r3 z => by
                          rw [he] at z
                          cases z
                          exact y44 rfl
                        have er : endI (n + 1) t i = -1 := by
                          rw [eF, r2 m41 m44]
                        rw [n44]
                        refine iteT ⟨_, rfl, fin _ G2 s2 er⟩
                · obtain ⟨sG, p, l, x8, rfl, hp, el, cl, rl⟩ := h
                  exact ⟨_, rfl, fin (-1) G sG (by rw [eF, fnE_end rl])⟩
            · have m40 : (d.take 1 == [40]) = false := by
                cases d with
                | nil => rfl
                | cons c d =>
                  have : c ≠ 40 := fun z => h40 (by rw [z]; rfl)
                  simp [this]
              rw [m40]
              have eT : ET n d = some d := by
                cases d with
                | nil => rfl
                | cons c d => exact ET_o (fun z => h46 (by rw [z]; rfl)) (fun z => h40 (by rw [z]; rfl))
              rw [eT] at eE
              refine iteT ⟨_, rfl, ?_⟩
              have z := q H1 s1
              rw [eE] at z
              have : t.length - d.length = i + w.length := by omega
              rw [show (match some d with
                | some r => ((t.length - r.length : Nat) : Int)
                | none => -1) = ((i + w.length : Nat) : Int) from by show ((t.length - d.length : Nat) : Int) = _; rw [this]] at z
              exact z
end
end OM

namespace OM
open PySem PySem.Spec PyProof.Rows L2 VL
section
variable {P : Program} {w : World} {K : PySem.W.Frag} {mg : Str → Option Value} {base : Heap} {f : Addr} {fd : FuncData}
/-- `_law_end` at every level -/
theorem end_all (F : Fun K "_law_end" "_law_end" sEnd f fd) (ln : mg "len" = none) (it : mg "int" = none) (rg : mg "range" = none) (gE : mg "_law_end" = some (.ref f)) (bE : Binds K fd ["_law_text_here", "_law_at"] []) : ∀ n, FnOk P w K mg base CX0 n f fd ["_law_text_here", "_law_at"] (spEnd n)
  | 0 => ⟨fun vs H Q E h => by
      obtain ⟨t, i, _, _, _, h, _⟩ := h
      exact absurd h (Nat.not_lt_zero _), fun A outer s H args us vs Q E hr he hb hv h => by
      obtain ⟨t, i, _, _, _, h, _⟩ := h
      exact absurd h (Nat.not_lt_zero _)⟩
  | n + 1 => ok_end F ln it rg gE bE (end_all F ln it rg gE bE n)
/-- how the law asks whether a text is a value: its reading comes to the end of the text -/
theorem endI_value {n : Nat} {t : List Nat} (h : t.count 40 < n) : (endI n t 0 = ((t.length : Nat) : Int)) = (valueL t = true) := by
  have h1 : t.count 40 < t.length + 1 := by
    have := List.count_le_length (a := 40) (l := t)
    omega
  have e := value_E (n := t.length + 1) (l := t) (by omega)
  rw [e, E_stable (t.length + 1) n t h1 h]
  unfold endI
  rw [List.drop_zero]
  cases he : VL.E n t with
  | none => simp
  | some r =>
    obtain ⟨q, hq⟩ := E_tail n t r he
    have lq := congrArg List.length hq
    rw [List.length_append] at lq
    apply propext
    constructor
    · intro z
      have z : ((t.length - r.length : Nat) : Int) = ((t.length : Nat) : Int) := z
      have : r.length = 0 := by omega
      simp [List.length_eq_zero_iff.mp this]
    · intro z
      have : r = [] := by simpa using z
      subst this
      rfl
end
end OM

namespace OM
open PySem PySem.Spec PyProof.Rows L2 VL
abbrev sLVal : Stmt := top 47
theorem scLV : FnScope ["_law_thing"] ["_law_thing"] (defScope sLVal) := ⟨rfl, rfl, rfl, by decide +kernel, rfl, by decide +kernel, by decide +kernel⟩
/-- whether the law takes a datum for a value -/
def lvalD : PyData → Bool
  | .str x => valueL x.cps.toList
  | _ => false
def parD (n : Nat) : PyData → Bool
  | .str x => decide (x.cps.toList.count 40 < n)
  | _ => true
def spLVal (n : Nat) : Sp := fun vs H Q _ => ∃ (S : Addr → Prop) (v : V) (d : PyData), vs = [v] ∧ Dt S H v d ∧ smlD d = true ∧ parD n d = true ∧ ∀ H', Same H H' → Q (.bl (lvalD d)) H'
section
variable {P : Program} {w : World} {K : PySem.W.Frag} {mg : Str → Option Value} {base : Heap} {f fE : Addr} {fd dE : FuncData}
theorem ok_lval {n k : Nat} (F : Fun K "_law_is_value" "_law_is_value" sLVal f fd) (isi : mg "isinstance" = none) (st : mg "str" = none) (ln : mg "len" = none) (gE : mg "_law_end" = some (.ref fE)) (kE : PySem.W.keepIn K (.ref fE) = true) (bE : Binds K dE ["_law_text_here", "_law_at"] []) (GE : FnOk P w K mg base CX0 k fE dE ["_law_text_here", "_law_at"] (spEnd n)) :
    FnOk P w K mg base CX0 (k + 1) f fd ["_law_thing"] (spLVal n) := by
  refine F.ok scLV (fun vs H Q E h => ?_) (fun cdv A outer s H vs Q E hr h => ?_)
  · obtain ⟨_, v, d, rfl, _⟩ := h
    rfl
  · obtain ⟨S0, v, d, rfl, hd, sm, sh, q⟩ := h
    refine ⟨_, pss_one (ps_ret (pe_and (pe_callB call_isi (by rfl) isi (by decide +kernel) (pa_cons (pv 0) (pa_cons (pe_bltn (v := .ty "str") (u := .type "str") (by rfl) st (by decide +kernel) rfl) pa_nil)))
      (pe_and (pe_cmpR op_ne (pv 0) pe_str (nomark _))
      (pe_one (pe_cmpR op_eq (pe_call GE hr (by rfl) gE kE bE .nil pass0 (pa_cons (pv 0) (pa_cons pe_int pa_nil))) (pe_callB call_len_str (by rfl) ln PySem.boot_len (pa_cons (pv 0) pa_nil)) (nomark _)))))), ?_⟩
    cases hs : isStrD d with
    | false =>
      have e : lvalD d = false := by cases d <;> first | rfl | cases hs
      refine isi_te (x := v) rfl hd.tyx ((kit_str d).trans (congrArg some hs)) ?_
      have z := q H (Same.refl _)
      rw [e] at z
      exact ⟨_, rfl, iteF z⟩
    | true =>
      cases d with
      | str x =>
        have ev : v = .str x := by
          cases hd with
          | «at» a => cases a <;> rfl
        subst ev
        obtain ⟨l, rfl⟩ : ∃ l : List Nat, x = S l := ⟨x.cps.toList, (SX.S_tl x).symm⟩
        have sm2 : (decide ((S l).length ≤ 1000) && PyData.strOk (S l)) = true := by unfold smlD at sm; exact sm
        rw [Bool.and_eq_true, decide_eq_true_eq, SX.S_len] at sm2
        have ok : okS l := ⟨sm2.1, sm2.2⟩
        have cl : l.count 40 < n := by
          have : decide (l.count 40 < n) = true := sh
          exact of_decide_eq_true this
        have e : lvalD (.str (S l)) = valueL l := rfl
        rw [e] at q
        refine isi_te (x := .str (S l)) rfl hd.tyx ((kit_str (.str (S l))).trans rfl) ⟨_, rfl, iteT ⟨_, rfl, rfl, _, rfl, ?_⟩⟩
        have e0 : ("" : Str) = S [] := by decide +kernel
        have z := q H (Same.refl _)
        rw [e0, dS]
        cases l with
        | nil =>
          exact iteF z
        | cons c l =>
          refine iteT ⟨_, rfl, c :: l, 0, rfl, ok, Nat.zero_le _, cl, fun H1 s1 => ⟨_, rfl, S (c :: l), rfl, ok.len, rfl, ?_⟩⟩
          have z := q H1 s1
          rw [SX.S_len]
          have ev := endI_value (t := c :: l) cl
          have eb : decide (V.int (endI n (c :: l) 0) = V.int (((c :: l).length : Nat) : Int)) = valueL (c :: l) := by
            rw [Bool.eq_iff_iff, decide_eq_true_eq, ← ev]
            exact ⟨fun z => V.int.inj z, fun z => by rw [z]⟩
          rw [eb]
          exact z
      | _ => cases hs
end
end OM

namespace OM
open PySem PySem.Spec PyProof.Rows L2 VL
/-! enumerate over a text -/
/-- the text x, each sign in a new pair -/
def Ites (x : Str) : It :=
  ⟨fun i _ => i < x.cps.size, fun i H v H' => ∃ T c, v = .ref T ∧ H T = none ∧ H' = upd H T (.tup [.int (i : Nat), .str ⟨#[c]⟩]) ∧ x.cps[i]? = some c, fun i _ => x.cps.size ≤ i⟩
theorem turn_enumS {P : Program} {w : World} {K : PySem.W.Frag} {elts : List Expr} {kk : Nat} {tpos : Pos} (x : Str) (t : Tok) (e it : Addr) :
    Turn P w K (.Tuple elts kk tpos) (Ites x) [e, it] e (fun i h => i ≤ x.cps.size ∧ (∃ old, IsEnum h e it ((i : Nat) : Int) old) ∧ h.IsStrIter it (strIterType x) x t i ∧ e ≠ it) where
  mem := by simp
  obj := fun i h st b hb => by
    obtain ⟨_, ⟨old, he⟩, ⟨o, ho, hc, hd⟩, _⟩ := st
    have e' : b = e ∨ b = it := by simpa using hb
    rcases e' with z | z
    · rw [z]; exact ⟨_, he, fun v q => nomatch q⟩
    · rw [z]; exact ⟨o, ho, fun v q => by rw [hd] at q; cases q⟩
  keep := fun i h h' st k => let ⟨hl, ⟨old, he⟩, ⟨o, ho, r⟩, hne⟩ := st; ⟨hl, ⟨old, k e (by simp) _ he⟩, ⟨o, k it (by simp) o ho, r⟩, hne⟩
  item := by
    intro X hP hw hK hc i pins s σ H E I hf st hg
    subst hP hw hK
    obtain ⟨hl, ⟨old, he⟩, hit, hne⟩ := st
    have hel : e < s.heap.objs.size := Heap.lt_size he
    have hil : it < s.heap.objs.size := by obtain ⟨_, q, _⟩ := hit; exact Heap.lt_size q
    refine wpAny_pyNext_enum_itemD (Draws.text (A := X.A.in1) (I.ok.hd hc) it x t) he hit hg hne (by simpa using hne) fun u h' tk hP ho hit' hT hsz hk => ?_
    obtain ⟨c, tc, hcx, rfl⟩ := hP
    refine ⟨_, rfl, wpAny_letOwnedTupleGo_enum (s := { s with heap := h', toks := tk + 1 }) ho fun h'' he' sb => ?_⟩
    have hT2 : h''.get? s.heap.objs.size = some { cls := .type "tuple", data := .seq #[.int i tk, .str ⟨#[c]⟩ tc] } := (sb.2 _ (Nat.ne_of_gt hel)).trans hT
    have new : ObjOk X.prog X.w (upd H s.heap.objs.size (.tup [.int (i : Nat), .str ⟨#[c]⟩])) h'' s.heap.objs.size (.tup [.int (i : Nat), .str ⟨#[c]⟩]) :=
      ⟨by show 2 ≤ sizeLine; decide, [.int i tk, .str ⟨#[c]⟩ tc], .cons ⟨_, rfl⟩ (.cons ⟨_, rfl⟩ .nil), ⟨_, hT2, rfl, _, rfl⟩⟩
    have I1 : Inv X pins σ (upd H s.heap.objs.size (.tup [.int (i : Nat), .str ⟨#[c]⟩])) { s with heap := h'', toks := tk + 1 } :=
      I.turnedNew (ch := [e, it]) (fun b ob hb q => (sb.2 b (fun z => hb (by simp [z]))).trans (hk b ob (fun z => hb (by simp [z])) (fun z => hb (by simp [z])) q)) hf (Nat.le_refl _) new
    refine ⟨.ref s.heap.objs.size, _, I1, rfl, ⟨_, c, rfl, I.hok.fresh (Nat.le_refl _), rfl, hcx⟩, ⟨hg, ⟨.str ⟨#[c]⟩ tc, ?_⟩, ?_, hne⟩, fun b hb => ?_⟩
    · have e1 : ((i + 1 : Nat) : Int) = (i : Int) + 1 := by omega
      rw [e1]; exact he'
    · obtain ⟨o, ho', r⟩ := hit'
      exact ⟨o, (sb.2 it (Ne.symm hne)).trans ho', r⟩
    · have hb' : b < s.heap.objs.size := by
        have e' : b = e ∨ b = it := by simpa using hb
        rcases e' with z | z
        · rw [z]; exact hel
        · rw [z]; exact hil
      rw [upd_ne (Nat.ne_of_lt hb')]
      exact (hf b hb).1
  done := by
    intro X hP hw hK hc i pins s σ H E I hf st hg
    subst hP hw hK
    obtain ⟨hl, ⟨old, he⟩, hit, hne⟩ := st
    obtain rfl : i = x.cps.size := Nat.le_antisymm hl hg
    obtain ⟨f0, f1, f2, f3, f4, f5⟩ := hf it (by simp)
    exact wpAny_pyNext_enum_endD (Draws.text (A := X.A.in1) (I.ok.hd hc) it x t) he hit fun h' eb => ⟨rfl, I.turned (t' := s.toks) (fun b o hb q => eb b o hb q) f0 f1 f3 f4 f5⟩
  self := fun A i s Q E st h => let ⟨_, ⟨_, he⟩, _⟩ := st; wpAny_pyIter_enum he h
def iEnumS (ta : TA) : TI := fun σ H R => ta σ H fun vs H1 => ∃ x, vs = [.str x] ∧ R (Ites x) H1
theorem pi_enumS {X : Cx} {e : Expr} {ta : TA} {p pos tpos : Pos} {elts : List Expr} {kk : Nat} (hg : Gl X "enumerate") (hm : X.mg "enumerate" = none) (ha : PA X [e] ta) (hs : starEach [e] X.env = [(false, eval e X.env)] := by rfl) :
    PI X (.Tuple elts kk tpos) (.Call (.Name "enumerate" p) [e] [] pos) (iEnumS ta) := by
  refine ⟨fun pins s σ H R I h => ?_⟩
  refine Call_ (ld_blt I hg hm boot_enumerate (PyProof.Rows.callWith_type1 (thn (ha.run pos pins s σ H _ I h) fun us s1 ⟨vs, H1, I1, rv1, q1⟩ => ?_) hs rfl))
  obtain ⟨x, ex, q⟩ := q1
  subst ex
  cases rv1 with
  | cons r rr =>
    cases rr
    obtain ⟨t, rfl⟩ := r
    refine call_enumerate_str fun h' he hit hsz hk => wpAny_pyIter_enum he ?_
    have I2 : Inv X pins σ H1 { s1 with heap := h' } := I1.kept (t' := s1.toks) hk
    refine ⟨s1.heap.objs.size + 1, [s1.heap.objs.size + 1, s1.heap.objs.size], _, _, H1, rfl, I2, turn_enumS x t (s1.heap.objs.size + 1) s1.heap.objs.size, ⟨Nat.zero_le _, ⟨.none, he⟩, hit, Nat.succ_ne_self _⟩, fun b hb => ?_, q⟩
    have e' : b = s1.heap.objs.size + 1 ∨ b = s1.heap.objs.size := by simpa using hb
    have hle : s1.heap.objs.size ≤ b := by
      rcases e' with z | z
      · rw [z]; exact Nat.le_add_right _ _
      · rw [z]; exact Nat.le_refl _
    exact I1.fpOk hle (I1.hok.fresh hle)
/-- the turns of a for over enumerate of a text -/
theorem for_enumS {l : List Nat} {g : TG} {tb : TS} {D : Ends} {σ : L2.St} {H : Hp} (Pv : Nat → L2.St → Hp → Prop) (h0 : Pv 0 σ H)
    (hs : ∀ i σ H T c, l[i]? = some c → Pv i σ H → H T = none → g (.ref T) σ (upd H T (.tup [.int (i : Nat), .str (S [c])])) fun σ2 H2 => tb { D with nx := Pv (i + 1), ct := Pv (i + 1), bk := D.nx } σ2 H2) (hd : ∀ σ H, Pv l.length σ H → D.nx σ H) :
    ∃ W : Nat → Nat → L2.St → Hp → Prop, (∃ m, W 0 m σ H) ∧ ∀ i m σ H, W i m σ H →
      ((Ites (S l)).stop i H ∧ D.nx σ H) ∨ ((Ites (S l)).go i H ∧ ∃ N : L2.St → Hp → Prop, (∀ σ' H', N σ' H' → ∃ m', m' < m ∧ W (i + 1) m' σ' H') ∧ ∀ x H', (Ites (S l)).yld i H x H' → g x σ H' fun σ2 H2 => tb { D with nx := N, ct := N, bk := D.nx } σ2 H2) := by
  have sz : (S l).cps.size = l.length := SX.S_len l
  refine ⟨fun i m σ H => m = l.length - i ∧ i ≤ l.length ∧ Pv i σ H, ⟨l.length, by simp, Nat.zero_le _, h0⟩, ?_⟩
  rintro i m σ H ⟨rfl, hi, p⟩
  by_cases hlt : i < l.length
  · refine .inr ⟨by show i < (S l).cps.size; rw [sz]; exact hlt, Pv (i + 1), fun σ' H' p' => ⟨l.length - (i + 1), by omega, rfl, hlt, p'⟩, fun x H' y => ?_⟩
    obtain ⟨T, c, rfl, hT, rfl, hc⟩ := y
    have hc2 : l[i]? = some c := by
      have : (S l).cps.toList[i]? = some c := by rw [Array.getElem?_toList]; exact hc
      exact this
    exact hs i σ H T c hc2 p hT
  · have e : i = l.length := by omega
    subst e
    exact .inl ⟨by show (S l).cps.size ≤ _; rw [sz]; exact Nat.le_refl _, hd σ H p⟩
/-! cutting a text -/
theorem cut_pre (t : List Nat) (i : Nat) : cutS (S t) none (some (i : Int)) = S (t.take i) := by
  unfold cutS
  rw [HT.sIx_none, HT.sIx_nat, show (S t).length = t.length from SX.S_len t]
  show S ((t.drop 0).take (min i t.length - 0)) = _
  congr 1
  rw [List.drop_zero, Nat.sub_zero]
  rcases Nat.le_total i t.length with h | h
  · rw [Nat.min_eq_left h]
  · rw [Nat.min_eq_right h, List.take_of_length_le (Nat.le_refl _), List.take_of_length_le h]
theorem cut_suf (t : List Nat) (i : Nat) : cutS (S t) (some (i : Int)) none = S (t.drop i) := by
  unfold cutS
  rw [HT.sIx_none, HT.sIx_nat, show (S t).length = t.length from SX.S_len t]
  show S ((t.drop (min i t.length)).take (t.length - min i t.length)) = _
  congr 1
  rcases Nat.le_total i t.length with h | h
  · rw [Nat.min_eq_left h, List.take_of_length_le (by rw [List.length_drop]; exact Nat.le_refl _)]
  · rw [Nat.min_eq_right h, Nat.sub_self, List.take_zero, List.drop_eq_nil_of_le h]
theorem cut_last (t : List Nat) (i : Nat) : cutS (S t) (some (i : Int)) (some (-1)) = S ((t.drop i).dropLast) := by
  unfold cutS
  have e : HT.sIx (S t).length (S t).length (some (-1)) = t.length - 1 := by
    rw [show (S t).length = t.length from SX.S_len t]
    show (if (-1 : Int) < 0 then ((-1 : Int) + (t.length : Int)).toNat else min (-1 : Int).toNat t.length) = _
    rw [if_pos (by decide)]
    omega
  rw [e, HT.sIx_nat, show (S t).length = t.length from SX.S_len t]
  show S ((t.drop (min i t.length)).take (t.length - 1 - min i t.length)) = _
  congr 1
  rw [List.dropLast_eq_take, List.length_drop]
  rcases Nat.le_total i t.length with h | h
  · rw [Nat.min_eq_left h]
    congr 1
    omega
  · rw [Nat.min_eq_right h, List.drop_eq_nil_of_le (Nat.le_refl _), List.drop_eq_nil_of_le h, List.take_nil, List.take_nil]
theorem cut_lastN (t : List Nat) : cutS (S t) none (some (-1)) = S t.dropLast := by
  have h := cut_last t 0
  rw [List.drop_zero] at h
  rw [← h]
  unfold cutS
  rw [HT.sIx_none, HT.sIx_nat, Nat.zero_min]
/-! `_divided` -/
abbrev sDiv : Stmt := top 40
def divL (l : List Nat) : List (List Nat) := match dv 0 [] l with
  | some (a, b) => [a, b]
  | none => if l = [] then [] else [l]
def spDiv : Sp := fun vs H Q _ => ∃ l : List Nat, vs = [.str (S l)] ∧ okS l ∧ ∀ H' b, Same H H' → H b = none → H' b = some (.tup ((divL l).map vS)) → Q (.ref b) H'
section
variable {P : Program} {w : World} {K : PySem.W.Frag} {mg : Str → Option Value} {base : Heap} {f : Addr} {fd : FuncData}
theorem scDi : FnScope ["inside", "depth", "at", "sign"] ["inside"] (defScope sDiv) := ⟨rfl, rfl, rfl, by decide +kernel, rfl, by decide +kernel, by decide +kernel⟩
theorem ok_divided (F : Fun K "_divided" "_divided" sDiv f fd) (en : mg "enumerate" = none) : FnOk P w K mg base CX0 1 f fd ["inside"] spDiv := by
  refine F.ok scDi (fun vs H Q E h => ?_) (fun cdv A outer s H vs Q E hr h => ?_)
  · obtain ⟨l, rfl, _⟩ := h
    rfl
  · obtain ⟨l, rfl, ok, q⟩ := h
    refine ⟨_, pss_cons (ps_set (i := 1) scDi.nd rfl (Or.inl rfl) pe_int)
      (pss_cons (ps_for PassesOwn.never rfl (pi_enumS (by rfl) en (pa_cons (pv 0) pa_nil)) (pg_tup rfl (pgs_cons (pg_name (i := 2) scDi.nd rfl (Or.inl rfl)) (pgs_cons (pg_name (i := 3) scDi.nd rfl (Or.inl rfl)) pgs_nil)))
        (pss_one (ps_if (pt_cmpR op_eq (pv 3) pe_str (nomark _)) (pss_one (ps_aug (i := 1) scDi.nd rfl (.inl rfl) pe_int ip_add))
          (pss_one (ps_if (pt_cmpR op_eq (pv 3) pe_str (nomark _)) (pss_one (ps_aug (i := 1) scDi.nd rfl (.inl rfl) pe_int ip_sub))
            (pss_one (ps_if (PW.pt (pw_and (pt_cmpR op_eq (pv 3) pe_str (nomark _)) (pw_and1 (pt_cmpR op_eq (pv 1) pe_int (nomark _)))))
              (pss_one (ps_ret (pe_tup (pa_cons (pe_slice sl_str (pv 0) po_none (po_some (pv 2))) (pa_cons (pe_slice sl_str (pv 0) (po_some (pe_op op_add (pv 2) pe_int)) po_none) pa_nil))))) pss_nil)))))))
      (pss_one (ps_ret (pe_ifExp (pt_truth (pv 0) (fun _ => rfl)) (pe_tup (pa_cons (pv 0) pa_nil)) (pe_tup pa_nil))))), ?_⟩
    refine ⟨_, rfl, S l, rfl, for_enumS (fun i σ G => Same H G ∧ ∃ (d : Int) (x2 x3 : Option V), σ = [some (.str (S l)), some (.int d), x2, x3] ∧ dv d (l.take i) (l.drop i) = dv 0 [] l)
      ⟨Same.refl H, 0, none, none, rfl, rfl⟩ (fun i σ G T c hc p hT => ?_) (fun σ G p => ?_)⟩
    · obtain ⟨sG, d, x2, x3, rfl, e⟩ := p
      have sT := sG.trans (same_upd (o := .tup [.int (i : Nat), .str (S [c])]) hT)
      have li := (List.getElem?_eq_some_iff.mp hc).1
      have e1 : l.drop i = c :: l.drop (i + 1) := by
        rw [List.drop_eq_getElem_cons li, (List.getElem?_eq_some_iff.mp hc).2]
      have e2 : l.take (i + 1) = l.take i ++ [c] := by
        rw [List.take_add_one, hc]
        rfl
      rw [e1] at e
      refine ⟨T, _, rfl, SqT.of upd_same, rfl, _, _, rfl, _, _, rfl, rfl, ?_⟩
      generalize upd G T _ = G1 at sT
      have a1 : ("(" : Str) = S [40] := by decide +kernel
      have a2 : (")" : Str) = S [41] := by decide +kernel
      have a3 : ("," : Str) = S [44] := by decide +kernel
      have dc : ∀ k : Nat, ([c] == [k]) = decide (c = k) := fun k => by
        rw [Bool.eq_iff_iff, beq_iff_eq, decide_eq_true_eq]
        exact ⟨fun z => by injection z, fun z => by rw [z]⟩
      refine ⟨_, rfl, rfl, _, rfl, ?_⟩
      rw [a1, dS, dc]
      by_cases h1 : c = 40
      · subst h1
        refine iteT ⟨_, rfl, _, _, rfl, rfl, sT, d + 1, _, _, rfl, ?_⟩
        rw [e2]
        exact e
      rw [decide_eq_false h1]
      refine iteF ⟨_, rfl, rfl, _, rfl, ?_⟩
      rw [a2, dS, dc]
      by_cases h2 : c = 41
      · subst h2
        refine iteT ⟨_, rfl, _, _, rfl, rfl, sT, d - 1, _, _, rfl, ?_⟩
        rw [e2]
        exact e
      rw [decide_eq_false h2]
      have e' : (if c = 44 ∧ d = 0 then some (l.take i, (l.drop (i + 1)).drop 1) else dv d (l.take i ++ [c]) (l.drop (i + 1))) = dv 0 [] l := by
        rw [← e]
        show _ = (if c = 40 then _ else if c = 41 then _ else if c = 44 ∧ d = 0 then _ else _)
        rw [if_neg h1, if_neg h2]
      refine iteF ⟨_, rfl, rfl, _, rfl, ?_⟩
      rw [a3, dS, dc]
      have go : ¬ (c = 44 ∧ d = 0) → Same H G1 ∧ ∃ (d' : Int) (x2 x3 : Option V), [some (V.str (S l)), some (V.int d), some (.int (i : Nat)), some (.str (S [c]))] = [some (V.str (S l)), some (V.int d'), x2, x3] ∧ dv d' (l.take (i + 1)) (l.drop (i + 1)) = dv 0 [] l := fun h => by
        rw [if_neg h] at e'
        exact ⟨sT, d, _, _, rfl, by rw [e2]; exact e'⟩
      by_cases h3 : c = 44
      · rw [decide_eq_true h3]
        refine iteT ⟨_, rfl, rfl, _, rfl, ?_⟩
        by_cases h4 : d = 0
        · rw [show decide (V.int d = V.int 0) = true from decide_eq_true (by rw [h4])]
          rw [if_pos ⟨h3, h4⟩] at e'
          refine iteT ⟨_, rfl, _, rfl, _, rfl, S l, rfl, ok.len, _, rfl, _, rfl, _, _, rfl, rfl, _, rfl, S l, rfl, ok.len, (by show 2 ≤ sizeLine; decide), fun t ht => ?_⟩
          refine q _ t (sT.trans (same_upd ht)) (sT.free ht) ?_
          rw [upd_same]
          have e5 : divL l = [l.take i, l.drop (i + 2)] := by
            unfold divL
            rw [← e', List.drop_drop]
          rw [e5, cut_pre, show ((i : Int) + 2) = ((i + 2 : Nat) : Int) by omega, cut_suf]
          rfl
        · rw [show decide (V.int d = V.int 0) = false from decide_eq_false (fun z => h4 (V.int.inj z))]
          exact iteF (go fun z => h4 z.2)
      · rw [decide_eq_false h3]
        exact iteF (go fun z => h3 z.1)
    · obtain ⟨sG, d, x2, x3, rfl, e⟩ := p
      rw [List.drop_length, List.take_length] at e
      have e : dv 0 [] l = none := e.symm
      refine ⟨_, rfl, !l.isEmpty, ?_, ?_⟩
      · refine ⟨ok.len, ?_⟩
        rw [SX.S_len]
        cases l with
        | nil => rfl
        | cons c r =>
          show true = (((r.length + 1 : Nat) : Int) != 0)
          simp
          omega
      · unfold divL at q
        rw [e] at q
        cases l with
        | nil => exact iteF ⟨(by show 0 ≤ sizeLine; decide), fun t ht => q _ t (sG.trans (same_upd ht)) (sG.free ht) upd_same⟩
        | cons c r => exact iteT ⟨_, rfl, (by show 1 ≤ sizeLine; decide), fun t ht => q _ t (sG.trans (same_upd ht)) (sG.free ht) upd_same⟩
end
end OM

namespace OM
open PySem PySem.Spec PyProof.Rows L2
abbrev inStK (i j : Nat) : Stmt := (match top i with
  | .ClassDef (body := b) .. => b
  | _ => []).getD j (.Pass ⟨0, 0, 0, 0⟩)
abbrev sMI : Stmt := inStK 1 0
def Raw (K : PySem.W.Frag) (B : String) (fs : List Str) (a C : Addr) (H : Hp) : Prop := ∃ tail : List Value, OexB K C tail ∧ tail.contains (.type B) = true ∧ H a = some (exo a C none) ∧ ∀ f ∈ fs, PySem.W.findIn K (.ref C) f = some none
def spI0 (K : PySem.W.Frag) (B : String) : Sp := fun vs H Q _ => ∃ (a C : Addr) (x : V), vs = [.ref a, x] ∧ Raw K B [] a C H ∧ Q .non H
structure BIn (K : PySem.W.Frag) (mg : Str → Option Value) (x : Str) (B initId : String) : Prop where
  mg : mg x = none
  v : PySem.W.findCls K (.type B) (.type "type") "__init__" = some (.val (.builtin initId))
structure KCls (K : PySem.W.Frag) (C fI : Addr) (B : String) (fs : List Str) : Prop where
  made : ∃ tail, MkB K C fI tail ∧ tail.contains (.type B) = true
  no : ∀ f ∈ fs, PySem.W.findIn K (.ref C) f = some none
theorem KCls.raw {K : PySem.W.Frag} {C fI a : Addr} {B : String} {fs : List Str} {H : Hp} (k : KCls K C fI B fs) (e : H a = some (exo a C none)) : Raw K B fs a C H := by
  obtain ⟨tail, M, hB⟩ := k.made
  exact ⟨tail, M.T, hB, e, k.no⟩
def OutN (E : XK) (C : Addr) (H : Hp) : Prop := ∀ H', Same H H' → E (.ref C) none H'
theorem same_del {H : Hp} {a : Addr} {o : HO} (h : H a = none) : Same H (del (upd H a o) a) := fun b u e => by
  have nb := ne_of_none e h
  rw [del_ne nb, upd_ne nb]
  exact e
theorem mk0 {K : PySem.W.Frag} {E : XK} {H : Hp} {C fI : Addr} {x : V} (k : KCls K C fI "ValueError" []) (q : OutN E C H) : [x].length ≤ 1000 ∧ ∀ a, H a = none → spI0 K "ValueError" (.ref a :: ([x] ++ [])) (upd H a (exo a C none)) (fun v H2 => v = .non ∧ MkR C H E a H2) E0 :=
  ⟨(by show 1 ≤ 1000; decide), fun a h => ⟨a, C, x, rfl, k.raw upd_same, rfl, .inl ⟨upd_same, q _ (same_del h)⟩⟩⟩
section
variable {P : Program} {w : World} {K : PySem.W.Frag} {mg : Str → Option Value} {base : Heap} {f : Addr} {fd : FuncData}
theorem scMI : FnScope ["self", "why"] ["self", "why"] (defScope sMI) := ⟨rfl, rfl, rfl, by decide +kernel, rfl, by decide +kernel, by decide +kernel⟩
theorem ok_iM {dvs : List V} (F : FunD K "__init__" "MoveError.__init__" (defArgs sMI) (defBody sMI) (defScope sMI) dvs [] f fd) (b : BIn K mg "ValueError" "ValueError" "ValueError.__init__") : FnOk P w K mg base CX0 1 f fd ["self", "why"] (spI0 K "ValueError") := by
  refine F.ok scMI (fun vs H Q E h => ?_) (fun cdv A outer s H vs Q E hr h => ?_)
  · obtain ⟨a, C, x, rfl, _⟩ := h
    rfl
  · obtain ⟨a, C, x, rfl, ⟨tail, T, hB, ea, _⟩, q⟩ := h
    refine ⟨_, pss_one (ps_expr (pe_binit base_VE (by rfl) b.mg (by decide +kernel) b.v (by decide +kernel) (pa_cons (pv 0) (pa_cons (pv 1) pa_nil)))), ?_⟩
    exact ⟨_, rfl, _, rfl, a, C, tail, [x], rfl, (by show 1 ≤ 1000; decide), T, hB, ea, q⟩
end
abbrev sNI : Stmt := inStK 9 0
theorem ok_cop {P : Program} {w : World} {K : PySem.W.Frag} {mg : Str → Option Value} {base : Heap} {f : Addr} {fd : FuncData} (F : Fun K "_copied" "_copied" sCop f fd) (T : TxtC mg) (gC : mg "_copied" = some (.ref f)) (bC : Binds K fd ["value"] []) :
    ∀ n, FnOk P w K mg base CX0 n f fd ["value"] (spCop n)
  | 0 => ⟨fun _ _ _ _ h => h.elim, fun _ _ _ _ _ _ _ _ _ _ _ _ _ h => h.elim⟩
  | n + 1 => cop_step F T gC bC (ok_cop F T gC bC n)
def Has (H0 H : Hp) (a dx : Addr) (fs : List (Str × V)) (fds : List (Str × PyData)) : Prop := ∀ f d, fds.lookup f = some d → ∃ v, fs.lookup f = some v ∧ Dt (fun b => H0 b = none ∧ b ≠ dx) H v d
def Made (H0 : Hp) (a C : Addr) (fds : List (Str × PyData)) (H : Hp) : Prop := But a H0 H ∧ ∃ dx fs, H a = some (exo a C (some dx)) ∧ H dx = some (exd dx fs) ∧ H0 dx = none ∧ dx ≠ a ∧ fs.length ≤ 900 ∧ Has H0 H a dx fs fds
def spI1 (K : PySem.W.Frag) (B : String) (f : Str) (n : Nat) : Sp := fun vs H Q _ => ∃ (a C : Addr) (x : V) (d : PyData) (S : Addr → Prop), vs = [.ref a, x] ∧ Raw K B [f] a C H ∧ Dt S H x d ∧ d.depth ≤ n ∧ ∀ H', Made H a C [(f, d)] H' → Q .non H'
theorem has_first {H H4 : Hp} {a C dx : Addr} {f : Str} {d : PyData} {v' : V} (ea : H a = some (exo a C none)) (sm : Same H H4) (dt : Dt (fun b => H b = none) H4 v' d) (n : H4 dx = none) (ne : dx ≠ a) :
    Has H (upd (upd H4 dx (exd dx [(f, v')])) a (exo a C (some dx))) a dx [(f, v')] [(f, d)] := fun g e hg => by
  by_cases hgf : g = f
  · subst hgf
    obtain rfl : d = e := by simpa using hg
    have nb : ∀ {b : Addr} {o : HO}, H b = none → H4 b = some o → b ≠ a ∧ b ≠ dx := fun {b o} hb e => ⟨fun z => (by rw [z, ea] at hb; cases hb), ne_of_none e n⟩
    refine ⟨v', by simp, dt.strong fun b o hb e => ⟨⟨hb, (nb hb e).2⟩, by rw [upd_ne (nb hb e).1, upd_ne (nb hb e).2]; exact e⟩⟩
  · rw [List.lookup_cons] at hg
    have z : (g == f) = false := by simpa using hgf
    rw [z] at hg
    cases hg
theorem but_first {H H4 : Hp} {a dx : Addr} {o1 o2 : HO} (sm : Same H H4) (n : H4 dx = none) : But a H (upd (upd H4 dx o1) a o2) := fun b o hb e => by
  rw [upd_ne hb, upd_ne (ne_of_none e (sm.free n))]
  exact sm b o e
theorem made_first {H H4 : Hp} {a C dx : Addr} {f : Str} {d : PyData} {v' : V} (ea : H a = some (exo a C none)) (sm : Same H H4) (dt : Dt (fun b => H b = none) H4 v' d) (n : H4 dx = none) (ne : dx ≠ a) :
    Made H a C [(f, d)] (upd (upd H4 dx (exd dx [(f, v')])) a (exo a C (some dx))) :=
  ⟨but_first sm n, dx, [(f, v')], upd_same, by rw [upd_ne ne, upd_same], sm.free n, ne, (by show 1 ≤ 900; decide), has_first ea sm dt n ne⟩
structure CopF (K : PySem.W.Frag) (mg : Str → Option Value) (fC : Addr) (fdC : FuncData) : Prop where
  F : Fun K "_copied" "_copied" sCop fC fdC
  T : TxtC mg
  g : mg "_copied" = some (.ref fC)
  b : Binds K fdC ["value"] []
section
variable {P : Program} {w : World} {K : PySem.W.Frag} {mg : Str → Option Value} {base : Heap} {f fC : Addr} {fd fdC : FuncData}
theorem scNI2 : FnScope ["self", "value"] ["self", "value"] (defScope sNI) := ⟨rfl, rfl, rfl, by decide +kernel, rfl, by decide +kernel, by decide +kernel⟩
theorem ok_i9 {n : Nat} (F : Fun K "__init__" "InvalidNumber.__init__" sNI f fd) (cf : CopF K mg fC fdC) (b : BIn K mg "RuntimeError" "RuntimeError" "RuntimeError.__init__") : FnOk P w K mg base CX0 (n + 2) f fd ["self", "value"] (spI1 K "RuntimeError" "value" n) := by
  refine F.ok scNI2 (fun vs H Q E h => ?_) (fun cdv A outer s H vs Q E hr h => ?_)
  · obtain ⟨a, C, x, d, S, rfl, _⟩ := h
    rfl
  · obtain ⟨a, C, x, d, S, rfl, ⟨tail, T, hB, ea, hno⟩, hd, hdep, q⟩ := h
    have G : FnOk P w K mg base CX0 (n + 1) fC fdC ["value"] (spCop (n + 1)) := ok_cop cf.F cf.T cf.g cf.b (n + 1)
    refine ⟨_, pss_cons (ps_expr (pe_binit base_RE (by rfl) b.mg (by decide +kernel) b.v (by decide +kernel) (pa_cons (pv 0) (pa_cons (pv 1) pa_nil))))
      (pss_one (ps_ostB (pv 0) (pe_call G hr rfl cf.g cf.F.kp cf.b .nil pass0 (pa_cons (pv 1) pa_nil)))), ?_⟩
    refine ⟨_, rfl, _, rfl, a, C, tail, [x], rfl, (by show 1 ≤ 1000; decide), T, hB, ea, ?_⟩
    refine ⟨_, rfl, S, x, d, rfl, hd, hdep, fun H4 v' sm dt => ⟨_, rfl, a, C, tail, rfl, T, hno _ (List.mem_cons_self ..), .inl ⟨sm _ _ ea, fun dx n1 ne => ?_⟩⟩⟩
    exact q _ (made_first ea sm dt n1 ne)
end
def OutD (E : XK) (C : Addr) (H : Hp) (fds : List (Str × PyData)) : Prop := ∀ H' dx fs, Same H H' → H dx = none → H' dx = some (.xd fs) → Has H H' dx dx fs fds → E (.ref C) (some dx) H'
theorem mkR_of {E : XK} {H H2 : Hp} {a C : Addr} {fds : List (Str × PyData)} (h : H a = none) (M : Made (upd H a (exo a C none)) a C fds H2) (q : OutD E C H fds) : MkR C H E a H2 := by
  obtain ⟨bt, dx, fs, ea, ed, hdx, ne, hl, hs⟩ := M
  rw [upd_ne ne] at hdx
  refine .inr ⟨dx, fs, ea, ed, hdx, q _ dx fs (fun b o e => ?_) hdx upd_same (fun f d hf => ?_)⟩
  · rw [upd_ne (ne_of_none e hdx), del_ne (ne_of_none e h)]
    exact bt b o (ne_of_none e h) (by rw [upd_ne (ne_of_none e h)]; exact e)
  · obtain ⟨v, e1, e2⟩ := hs f d hf
    refine ⟨v, e1, e2.strong fun b o hb eo => ?_⟩
    have nb : b ≠ a := fun z => by
      rw [z, upd_same] at hb
      exact nomatch hb.1
    refine ⟨⟨by rw [← upd_ne nb (H := H)]; exact hb.1, hb.2⟩, ?_⟩
    rw [upd_ne hb.2, del_ne nb]
    exact eo
theorem mk9 {K : PySem.W.Frag} {n : Nat} {E : XK} {H : Hp} {C fI : Addr} {x : V} {d : PyData} {S : Addr → Prop} (k : KCls K C fI "RuntimeError" ["value"]) (hd : Dt S H x d) (hn : d.depth ≤ n) (q : OutD E C H [("value", d)]) :
    [x].length ≤ 1000 ∧ ∀ a, H a = none → spI1 K "RuntimeError" "value" n (.ref a :: ([x] ++ [])) (upd H a (exo a C none)) (fun v H2 => v = .non ∧ MkR C H E a H2) E0 :=
  ⟨(by show 1 ≤ 1000; decide), fun a h => ⟨a, C, x, d, S, rfl, k.raw upd_same, hd.mv (fun _ z => z) (fun b o _ e => same_upd h b o e), hn, fun H2 M => ⟨rfl, mkR_of h M q⟩⟩⟩
end OM

namespace OM
open PySem PySem.Spec PyProof.Rows L2 VL
abbrev sParts : Stmt := top 30
def spCheck (cV : Addr) : Sp := fun vs H Q E => ∃ (S : Addr → Prop) (v : V) (d : PyData), vs = [v] ∧ Dt S H v d ∧ smlD d = true ∧ shortD d = true ∧ (isValD d = true → ∀ H', Same H H' → Q .non H') ∧ (isValD d = false → OutN E cV H)
/-- what `parts` tells -/
def partsD : Tr → PyData
  | .lf _ => .none
  | .nd0 f => .tuple [.str (S f), .tuple []]
  | .nd1 f t => .tuple [.str (S f), .tuple [.str (S (tx t))]]
  | .nd2 f t u => .tuple [.str (S f), .tuple [.str (S (tx t)), .str (S (tx u))]]
def spParts (cV : Addr) : Sp := fun vs H Q E => ∃ (S0 : Addr → Prop) (v : V) (d : PyData), vs = [v] ∧ Dt S0 H v d ∧ smlD d = true ∧ shortD d = true ∧
  ((isValD d = false ∧ OutN E cV H) ∨ (isValD d = true ∧ ∃ t : Tr, okT t = true ∧ d = .str (S (tx t)) ∧ ∀ H' u, Same H H' → Dt (fun b => H b = none) H' u (partsD t) → Q u H'))
/-- a text's part ahead of its first opening parenthesis -/
theorem part40 {a n : List Nat} (h : ∀ c ∈ a, c ≠ 40) : Txt.partition (S (a ++ 40 :: n)) (S [40]) = (S a, S [40], S n) := by
  refine SX.partition_some (by decide) ?_
  have := TL.par_part1 (s := 40) (S := []) (p := a) (rest := n) (acc := []) (fun z => h 40 z rfl)
  rw [List.nil_append] at this
  exact this
theorem part40n {a : List Nat} (h : ∀ c ∈ a, c ≠ 40) : Txt.partition (S a) (S [40]) = (S a, S [], S []) := SX.partition_none (by decide) (TL.par_none1 fun z => h 40 z rfl)
theorem clean40 {w : List Nat} (h : clean w = true) : ∀ c ∈ w, c ≠ 40 := fun c hc => by
  have := List.all_eq_true.mp h c hc
  simp only [Bool.and_eq_true, decide_eq_true_eq] at this
  exact this.1
theorem div0 : divL [] = [] := rfl
theorem div1 {t : Tr} (h : okT t = true) : divL (tx t) = [tx t] := by
  unfold divL
  rw [dv_one h]
  obtain ⟨c, r, e, _⟩ := tx_head h
  show (if tx t = [] then [] else [tx t]) = _
  rw [if_neg (by rw [e]; exact List.cons_ne_nil _ _)]
theorem div2 {t u : Tr} (h : okT t = true) : divL (tx t ++ 44 :: 32 :: tx u) = [tx t, tx u] := by
  unfold divL
  rw [dv_two h]
/-- a value is a name or unknown, or a function with what stands between its parentheses -/
theorem tx_form (t : Tr) (h : okT t = true) : (partsD t = .none ∧ ∀ c ∈ tx t, c ≠ 40) ∨ ∃ f i, tx t = f ++ 40 :: (i ++ [41]) ∧ (∀ c ∈ f, c ≠ 40) ∧ partsD t = .tuple [.str (S f), .tuple ((divL i).map fun x => .str (S x))] := by
  cases t with
  | lf w => exact .inl ⟨rfl, clean40 (clean_atom h).1⟩
  | nd0 f => exact .inr ⟨f, [], rfl, clean40 (clean_name h).1, rfl⟩
  | nd1 f t =>
    obtain ⟨h1, h2⟩ := Bool.and_eq_true_iff.mp h
    exact .inr ⟨f, tx t, rfl, clean40 (clean_name h1).1, by rw [div1 h2]; rfl⟩
  | nd2 f t u =>
    obtain ⟨h1, h2⟩ := Bool.and_eq_true_iff.mp h
    obtain ⟨h2, h3⟩ := Bool.and_eq_true_iff.mp h2
    refine .inr ⟨f, tx t ++ 44 :: 32 :: tx u, ?_, clean40 (clean_name h1).1, by rw [div2 h2]; rfl⟩
    show f ++ 40 :: (tx t ++ 44 :: 32 :: (tx u ++ [41])) = f ++ 40 :: ((tx t ++ 44 :: 32 :: tx u) ++ [41])
    simp
theorem dt_vS {S0 : Addr → Prop} {H : Hp} : ∀ ls : List (List Nat), DtAll S0 H (ls.map vS) (ls.map fun x => PyData.str (S x))
  | [] => .nil
  | x :: l => .cons (.at (.str _)) (dt_vS l)
theorem div_len (l : List Nat) : (divL l).length ≤ 2 := by
  unfold divL
  split
  · exact Nat.le_refl _
  · split
    · exact Nat.zero_le _
    · exact Nat.le_succ _
section
variable {P : Program} {w : World} {K : PySem.W.Frag} {mg : Str → Option Value} {base : Heap} {f fI fV fC fD cV : Addr} {fd dI dV dC dD : FuncData} {k : Nat}
theorem scCk : FnScope ["value"] ["value"] (defScope sCheck) := ⟨rfl, rfl, rfl, by decide +kernel, rfl, by decide +kernel, by decide +kernel⟩
theorem ok_check (F : Fun K "_check_value" "_check_value" sCheck f fd) (kV : KCls K cV fI "ValueError" []) (gcV : mg "InvalidValue" = some (.ref cV)) (GI : FnOk P w K mg base CX0 1 fI dI ["self", "why"] (spI0 K "ValueError")) (bI : Binds K dI ["self", "why"] [])
    (gV : mg "is_value" = some (.ref fV)) (kpV : PySem.W.keepIn K (.ref fV) = true) (bV : Binds K dV ["value"] []) (GV : FnOk P w K mg base CX0 (k + 2) fV dV ["value"] spVal) : FnOk P w K mg base (L2.CX P w) (k + 3) f fd ["value"] (spCheck cV) := by
  refine F.okX scCk (fun vs H Q E h => ?_) (fun cdv A outer s H vs Q E hr h => ?_)
  · obtain ⟨S0, v, d, rfl, _⟩ := h
    rfl
  · obtain ⟨S0, v, d, rfl, hd, sm, sh, q, e⟩ := h
    refine ⟨_, pss_one (ps_if (pt_not (pt_val (pe_call GV hr (by rfl) gV kpV bV .nil pass0 (pa_cons (pv 0) pa_nil)))) (pss_one (ps_raise rfl (takes_of rfl rfl rfl rfl) (pmk_B (Classical.choose_spec kV.made).1 GI (hr.mono (by omega)) (by rfl) gcV bI .nil pass0 (pa_cons pe_str pa_nil)))) pss_nil), ?_⟩
    refine ⟨_, rfl, S0, v, d, rfl, hd, sm, sh, fun H1 s1 => ⟨_, rfl, ?_⟩⟩
    cases hk : isValD d with
    | false => exact iteT (mk0 kV fun H' s' => e hk H' (s1.trans s'))
    | true => exact iteF (q hk H1 s1)
theorem scPa : FnScope ["value", "function", "sign", "inside"] ["value"] (defScope sParts) := ⟨rfl, rfl, rfl, by decide +kernel, rfl, by decide +kernel, by decide +kernel⟩
theorem ok_parts (F : Fun K "parts" "parts" sParts f fd) (gC : mg "_check_value" = some (.ref fC)) (kC : PySem.W.keepIn K (.ref fC) = true) (bC : Binds K dC ["value"] []) (GC : FnOk P w K mg base (L2.CX P w) (k + 1) fC dC ["value"] (spCheck cV))
    (gD : mg "_divided" = some (.ref fD)) (kD : PySem.W.keepIn K (.ref fD) = true) (bD : Binds K dD ["inside"] []) (GD : FnOk P w K mg base CX0 1 fD dD ["inside"] spDiv) : FnOk P w K mg base (L2.CX P w) (k + 2) f fd ["value"] (spParts cV) := by
  refine F.okX scPa (fun vs H Q E h => ?_) (fun cdv A outer s H vs Q E hr h => ?_)
  · obtain ⟨S0, v, d, rfl, _⟩ := h
    rfl
  · obtain ⟨S0, v, d, rfl, hd, sm, sh, h⟩ := h
    refine ⟨_, pss_cons (ps_expr (pe_call GC hr (by rfl) gC kC bC .nil (passes_call (takes_of rfl rfl rfl rfl) (fun _ _ _ _ h => h)) (pa_cons (pv 0) pa_nil)))
      (pss_cons (ps_asg (pe_bm PySem.F.plainAttrs_str PySem.F.slot_str_partition PySem.F.type_str_partition mt_partition (pv 0) (pa_cons pe_str pa_nil)) (pg_tup rfl (pgs_cons (pg_name (i := 1) scPa.nd rfl (Or.inl rfl)) (pgs_cons (pg_name (i := 2) scPa.nd rfl (Or.inl rfl)) (pgs_cons (pg_name (i := 3) scPa.nd rfl (Or.inl rfl)) pgs_nil)))))
      (pss_cons (ps_if (pt_not (pt_truth (pv 2) (fun _ => rfl))) (pss_one (ps_ret pe_non)) pss_nil)
      (pss_one (ps_ret (pe_tup (pa_cons (pv 1) (pa_cons (pe_call GD (hr.mono (by omega)) (by rfl) gD kD bD .nil pass0 (pa_cons (pe_slice sl_str (pv 3) po_none (po_some (pe_un un_neg pe_int))) pa_nil)) pa_nil))))))), ?_⟩
    rcases h with ⟨no, e⟩ | ⟨yes, t, ht, rfl, q⟩
    · exact ⟨_, rfl, S0, v, d, rfl, hd, sm, sh, (fun z => by rw [no] at z; cases z), fun _ => e⟩
    · refine ⟨_, rfl, S0, v, _, rfl, hd, sm, sh, (fun _ H1 s1 => ?_), fun z => by rw [yes] at z; cases z⟩
      obtain rfl : v = .str (S (tx t)) := by
        cases hd with
        | «at» a => cases a; rfl
      have ok : okS (tx t) := by
        have sm2 : (decide ((S (tx t)).length ≤ 1000) && PyData.strOk (S (tx t))) = true := by unfold smlD at sm; exact sm
        rw [Bool.and_eq_true, decide_eq_true_eq, SX.S_len] at sm2
        exact ⟨sm2.1, sm2.2⟩
      have e40 : ("(" : Str) = S [40] := by decide +kernel
      refine ⟨_, rfl, rfl, S (tx t), S [40], rfl, by rw [← e40], rfl, ok.len, fun p hp => ?_⟩
      have sp := s1.trans (same_upd (o := .tup [.str (Txt.partition (S (tx t)) (S [40])).1, .str (Txt.partition (S (tx t)) (S [40])).2.1, .str (Txt.partition (S (tx t)) (S [40])).2.2]) hp)
      refine ⟨p, _, rfl, SqT.of upd_same, rfl, _, _, rfl, _, _, rfl, _, _, rfl, rfl, ?_⟩
      generalize upd H1 p _ = H2 at sp
      rcases tx_form t ht with ⟨e, h40⟩ | ⟨fn, i, e, h40, ep⟩
      · rw [part40n h40]
        refine ⟨_, rfl, false, ⟨Nat.zero_le _, rfl⟩, iteT (q H2 .non sp ?_)⟩
        rw [e]
        exact .at .non
      · rw [e] at ok ⊢
        rw [part40 h40]
        have hi : okS (i ++ [41]) := okS.right (a := [40]) (ok.right)
        have h1 : okS i := hi.left
        have cl : cutS (S (i ++ [41])) none (some (-1)) = S i := by
          rw [cut_lastN, List.dropLast_concat]
        refine ⟨_, rfl, true, ⟨(by show (1 : Nat) ≤ sizeLine; decide), rfl⟩, iteF ⟨_, rfl, _, rfl, 1, rfl, _, rfl, S (i ++ [41]), rfl, hi.len, i, ?_, h1, fun H3 b s3 nb eb => ⟨(by show 2 ≤ sizeLine; decide), fun p2 hp2 => ?_⟩⟩⟩
        · rw [← cl]
          rfl
        · refine q _ (.ref p2) ((sp.trans s3).trans (same_upd hp2)) ?_
          rw [ep]
          have l2 := div_len i
          have nb0 : H b = none := (sp).free nb
          have np0 : H p2 = none := (sp.trans s3).free hp2
          refine .tup np0 upd_same (by show 2 ≤ 1000; decide) (.cons (.at (.str _)) (.cons (.tup nb0 (same_upd hp2 _ _ eb) (by rw [List.length_map]; omega) (dt_vS _)) .nil))
end
end OM

/-! sets of texts: their members as a list without repeats -/
namespace OM
open PySem PySem.Spec PyProof.Rows L2
/-- the text of an entry -/
def keyT : Int × Value → Str
  | (_, .str x _) => x
  | _ => ""
/-- an entry that is a text -/
def IsTx (w : World) (e : Int × Value) : Prop := ∃ x tk, e = (hashStr w x, Value.str x tk)
structure TabX (w : World) (es : Array (Int × Value)) (t : SetTable) (L : List Str) : Prop where
  tx : ∀ e ∈ es.toList, IsTx w e
  pm : (es.toList.map keyT).Perm L
  nd : L.Nodup
  few : L.length < scanBound
  fit : t.fits es.size = true
  ris : Ris t.place.toList
  led : w.params.followText "set-order" = true ∨ t.led = true
def SetTx (w : World) (h : Heap) (a : Addr) (L : List Str) : Prop := ∃ o es ep t, h.get? a = some o ∧ o.ExactSet ∧ o.data = .set es ep t ∧ TabX w es t L
def addX (L : List Str) (x : Str) : List Str := if x ∈ L then L else x :: L
section
variable {P : Program} {w : World} {h h' : Heap} {a : Addr} {L : List Str} {es : Array (Int × Value)} {t : SetTable}
theorem TabX.size (T : TabX w es t L) : es.size = L.length := by
  have e := T.pm.length_eq
  rw [List.length_map, Array.length_toList] at e
  exact e
theorem TabX.bound (T : TabX w es t L) : es.size < scanBound := by
  rw [T.size]
  exact T.few
theorem SetTx.mv (R : SetTx w h a L) (k : ∀ o, h.get? a = some o → h'.get? a = some o) : SetTx w h' a L :=
  let ⟨o, es, ep, t, ho, r⟩ := R
  ⟨o, es, ep, t, k o ho, r⟩
theorem tx_elems {l : List (Int × Value)} (g : ∀ e ∈ l, IsTx w e) : ElemsOf (strKind P w) l := by
  intro e he
  obtain ⟨x, tk, rfl⟩ := g e he
  exact ⟨⟨x, beq_self_eq_true x, rfl⟩, rfl⟩
theorem tx_is {e : Int × Value} (g : IsTx w e) (x : Str) : (strKind P w).is x e.2 = true ↔ keyT e = x := by
  obtain ⟨y, tk, rfl⟩ := g
  exact beq_iff_eq (a := y) (b := x)
theorem tx_mem {l : List (Int × Value)} (g : ∀ e ∈ l, IsTx w e) (x : Str) : x ∈ l.map keyT ↔ ∃ e ∈ l, (strKind P w).is x e.2 = true := by
  rw [List.mem_map]
  exact ⟨fun ⟨e, he, q⟩ => ⟨e, he, (tx_is (g e he) x).mpr q⟩, fun ⟨e, he, q⟩ => ⟨e, he, (tx_is (g e he) x).mp q⟩⟩
theorem SetTx.of (R : SetTx w h a L) : h.SetOf (strKind P w) a (fun x => decide (x ∈ L)) L.length := by
  obtain ⟨o, es, ep, t, ho, hx, hd, T⟩ := R
  exact ⟨o, es, ep, t, ho, hx, hd, tx_elems T.tx, fun x => by rw [decide_eq_true_iff, ← T.pm.mem_iff, tx_mem T.tx], T.bound, T.fit, T.size⟩
end
section
variable {P : Program} {w : World} {A : Around} {E : Value → Shared → Prop} {s : Shared} {a : Addr} {L : List Str}
/-- a table that is put in, and laid anew where it is too full -/
theorem tx_stored {g : Bool → Sem Unit} (quiet : ∀ b s1 (Z : Unit → Shared → Prop), Z () s1 → wpAny (model P w) A (g b) Z E s1) {o : Obj} {es : Array (Int × Value)} {ep : Nat} {t : SetTable} (at_ : s.heap.get? a = some o) (hex : o.ExactSet) (hd : o.data = .set es ep t)
    {es1 : Array (Int × Value)} {t2 : SetTable} {L' : List Str} (T : TabX w es1 t2 L') {wasDummy : Bool} {R : Option Bool → Shared → Prop} (fin : ∀ h', Heap.SameBut a s.heap h' → SetTx w h' a L' → R (some true) { s with heap := h' }) :
    wpAny (model P w) A (storeSet a es1 t2 >>= fun _ => if (!wasDummy && t2.tooFull) = true then (g (relayAll t2 es1 (SetTable.grown es1.size)).2.2 >>= fun _ => storeSet a (relayAll t2 es1 (SetTable.grown es1.size)).1 (relayAll t2 es1 (SetTable.grown es1.size)).2.1 >>= fun _ => pure (some true)) else pure (some true)) R E s := by
  have one := store_at (es' := es1) (t' := t2) at_ hd
  have b1 := Heap.SameBut.update s.heap a (Obj.putSet es1 t2)
  refine wpAny_bind (wpAny_storeSet_of at_ hd ?_ (fits_of_scanBound T.bound))
  by_cases full : (!wasDummy && t2.tooFull) = true
  · rw [if_pos full]
    have q1 := relayAll_perm t2 es1 (SetTable.grown es1.size)
    have q2 := relayAll_fits t2 es1 (SetTable.grown es1.size)
    have q3 := relayAll_ris t2 es1 (SetTable.grown es1.size)
    have q4 := relayAll_led t2 es1 (SetTable.grown es1.size)
    revert q1 q2 q3 q4
    rcases relayAll t2 es1 (SetTable.grown es1.size) with ⟨es2, t3, gave⟩
    intro q1 q2 q3 q4
    have T3 : TabX w es2 t3 L' := ⟨fun e he => T.tx e (q1.mem_iff.mp he), (q1.map keyT).trans T.pm, T.nd, T.few, q2, q3, T.led.imp id fun z => q4.trans z⟩
    refine wpAny_bind (quiet _ _ _ (wpAny_bind (wpAny_storeSet_of one rfl ?_ (fits_of_scanBound T3.bound))))
    exact wpAny_pure (fin _ (b1.trans (Heap.SameBut.update _ a _)) ⟨_, es2, _, t3, store_at (es' := es2) (t' := t3) one rfl, hex, rfl, T3⟩)
  · rw [if_neg full]
    exact wpAny_pure (fin _ b1 ⟨_, es1, _, t2, one, hex, rfl, T⟩)
theorem TabX.more {es es1 : Array (Int × Value)} {t t1 : SetTable} {x : Str} {tk : Tok} (T : TabX w es t L) (new : x ∉ L) (room : L.length + 1 < scanBound) (pm : es1.toList.Perm (es.push (hashStr w x, Value.str x tk)).toList) (f : t1.fits es1.size = true) (r : Ris t1.place.toList) (l : t1.led = t.led) : TabX w es1 t1 (x :: L) := by
  rw [Array.toList_push] at pm
  have pc := pm.trans (List.perm_append_singleton _ _)
  refine ⟨fun e he => ?_, (pc.map keyT).trans (T.pm.cons x), List.nodup_cons.mpr ⟨new, T.nd⟩, room, f, r, T.led.imp id fun z => l.trans z⟩
  rcases List.mem_cons.mp (pc.mem_iff.mp he) with z | z
  · exact ⟨x, tk, z⟩
  · exact T.tx e z
theorem tx_hashed {x : Str} {tk : Tok} {Q : Bool → Shared → Prop} (R : SetTx w s.heap a L) (room : L.length + 1 < scanBound) (fin : ∀ b h', Heap.SameBut a s.heap h' → SetTx w h' a (addX L x) → Q b { s with heap := h' }) :
    wpAny (model P w) A (setAddHashed a (.str x tk) (hashStr w x)) Q E s := by
  have R0 := R
  obtain ⟨o, es, ep, t, at_, hex, hd, T⟩ := R
  have own : (strKind P w).is x (.str x tk) = true := beq_self_eq_true x
  have scan : (Value.str x tk).scannable = true := rfl
  have els : ElemsOf (strKind P w) es.toList := tx_elems T.tx
  unfold setAddHashed setAddHashedIn
  refine wpAny_holding <| wpAny_bind <| wpAny_setState_of at_ hd T.fit ?_
  dsimp only
  rw [byScan_of scan T.bound els]
  simp only [↓reduceIte]
  unfold setAddByScan
  refine wpAny_bind <| wpAny_bind <| wpAny_rule <| wpAny_bind <| wpAny_setScan_of own at_ hd T.fit els ?_
  cases look : List.findIdx? (fun e => (strKind P w).is x e.2) es.toList with
  | some j =>
    obtain ⟨hj, pj, _⟩ := List.findIdx?_eq_some_iff_getElem.mp look
    have old : x ∈ L := T.pm.mem_iff.mp ((tx_mem (P := P) T.tx x).mpr ⟨_, List.getElem_mem hj, pj⟩)
    dsimp only
    refine wpAny_pure <| wpAny_pure <| fin _ s.heap (Heap.SameBut.refl a s.heap) ?_
    unfold addX
    rw [if_pos old]
    exact R0
  | none =>
    have new : x ∉ L := fun z => by
      obtain ⟨e, he, q⟩ := (tx_mem (P := P) T.tx x).mp (T.pm.mem_iff.mpr z)
      exact absurd q (by rw [List.findIdx?_eq_none_iff.mp look e he]; exact Bool.false_ne_true)
    have ea : addX L x = x :: L := if_neg new
    rw [ea] at fin
    dsimp only
    have q1 := layNew_perm t es (hashStr w x) (.str x tk)
    have q2 := layNew_fits t es (hashStr w x) (.str x tk)
    have q3 := layNew_ris t es (hashStr w x) (.str x tk) T.ris
    have q4 := layNew_led t es (hashStr w x) (.str x tk)
    revert q1 q2 q3 q4
    rcases layNew t es (hashStr w x) (.str x tk) with ⟨es1, t1, wd, gave⟩
    intro q1 q2 q3 q4
    have T1 : TabX w es1 t1 (x :: L) := T.more new room q1 q2 q3 q4
    have quiet : ∀ (b : Bool) (s1 : Shared) (Z : Unit → Shared → Prop), Z () s1 → wpAny (model P w) A (match b with | true => rule "set.scan.the-table-gave-way" | false => pure ()) Z E s1 := fun b s1 Z z => by
      cases b
      · exact wpAny_pure z
      · exact wpAny_rule z
    dsimp only
    refine wpAny_bind (quiet _ _ _ ?_)
    split
    · refine wpAny_bind ?_
      rw [hashByValue_scannable 8 scan]
      refine wpAny_pure ?_
      refine tx_stored (L' := x :: L) quiet at_ hex hd ?_ fun h' sb r => by dsimp only; exact wpAny_pure (fin _ h' sb r)
      refine ⟨T1.tx, T1.pm, T1.nd, T1.few, ?_, ?_, ?_⟩
      · split
        · exact T1.fit
        · exact SetTable.fits_plain_off T1.fit
      · split <;> exact T1.ris
      · split <;> exact T1.led
    · refine wpAny_bind (wpAny_pure ?_)
      simp only [↓reduceIte]
      exact tx_stored quiet at_ hex hd T1 fun h' sb r => by dsimp only; exact wpAny_pure (fin _ h' sb r)
/-- a.add(x) -/
theorem tx_add {x : Str} {tk : Tok} {Q : Value → Shared → Prop} (R : SetTx w s.heap a L) (room : L.length + 1 < scanBound) (fin : ∀ h', Heap.SameBut a s.heap h' → SetTx w h' a (addX L x) → Q .none { s with heap := h', toks := s.toks + 1 }) : wpAny (model P w) A (call (.builtin "set.add") [.ref a, .str x tk]) Q E s := by
  have R0 : s.heap.SetOf (strKind P w) a _ _ := R.of
  refine wpAny_call_entry F.slot_set_add R0.typeIs F.entry_set_add ?_ (F.args_set_add_2 _ _)
  unfold Builtin.«set.add» Builtin.Frozenset.oneOther
  simp only [List.isEmpty_nil, bind_assoc]
  unfold Builtin.Frozenset.addrOf setAdd
  refine wpAny_bind <| wpAny_pure ?_
  try dsimp only
  refine wpAny_bind <| wpAny_pure ?_
  try dsimp only
  refine wpAny_bind <| wpAny_holding <| wpAny_bind <| (strKind P w).pyHash (k := x) (beq_self_eq_true x) ?_
  refine tx_hashed (s := { s with toks := s.toks + 1 }) R room fun b h' sb r => ?_
  show wpAny _ _ (ret Value.none) _ _ _
  exact wpAny_pure ⟨_, rfl, fin h' sb r⟩
theorem tx_fresh {h : Heap} (w : World) : SetTx w (h.push { cls := .type "set", dict := none, data := .set #[] 0 (.fresh 0 0 (!w.params.followText "set-order")) }) h.objs.size [] := by
  refine ⟨_, #[], 0, _, Heap.get?_push_size _ rfl, ⟨rfl, rfl, rfl⟩, rfl, ⟨(fun e he => by simp at he), .refl _, .nil, by decide, rfl, .nil, ?_⟩⟩
  show _ ∨ (!w.params.followText "set-order") = true
  cases w.params.followText "set-order"
  · exact .inr rfl
  · exact .inl rfl
end
/-! ### as tracked things -/
def SetTO (w : World) (a : Addr) (L : List Str) : HO := .ext fun h => SetTx w h a L
theorem txo_new {w : World} {P : Program} {H : Hp} {h : Heap} {a : Addr} {L : List Str} (R : SetTx w h a L) : ObjOk P w H h a (SetTO w a L) := by
  have ⟨o, _, _, _, ho, _⟩ := R
  exact ⟨R, ⟨o, ho⟩, fun h1 h2 p k => SetTx.mv p k⟩
section
variable {X : Cx} {pins : List (Addr × Obj)} {σ : L2.St} {H : Hp} {s : Shared} {D : Addr} {L : List Str}
theorem txo_get (I : Inv X pins σ H s) (ha : H D = some (SetTO X.w D L)) : SetTx X.w s.heap D L := (I.hok D _ ha).1
theorem tx_add_ok {E : Value → Shared → Prop} {x : Str} {tk : Tok} {Q : Value → Shared → Prop} (I : Inv X pins σ H s) (hD : H D = some (SetTO X.w D L)) (room : L.length + 1 < scanBound) (h : ∀ s', Inv X pins σ (upd H D (SetTO X.w D (addX L x))) s' → Q .none s') :
    wpAny (model X.prog X.w) X.A (call (.builtin "set.add") [.ref D, .str x tk]) Q E s := by
  refine tx_add (txo_get I hD) room fun h' sb new => ?_
  have he : ∃ u, h'.get? D = some u := by
    have ⟨o, _, _, _, ho, _⟩ := new
    exact ⟨o, ho⟩
  exact h _ (I.write (e := D) (t' := s.toks + 1) (by rw [hD]; trivial) (.inl rfl) (fun b u hb hu => (sb.2 b hb).trans hu) he (txo_new new))
end
end OM

/-! comprehensions that make a set of texts, with one for or two -/
namespace OM
open PySem PySem.Spec PyProof.Rows L2
section
variable {prog : Program} {w : World} {A : Around} {R : Result → Shared → Prop} {s : Shared} {env : Env}
/-- the tests of a clause -/
def testsOf (ifs : List Expr) (env : Env) : Sem Bool := forIn ifs true fun c r => if r = true then do let ok ← isTrue c env (eval c env); pure (ForInStep.yield ok) else pure (ForInStep.yield r)
/-- a turn of any comprehension, by what its emission does -/
def turnOf (e : Expr) (d : Nat) (it acc : Value) (env : Env) (ip : Pos) (tgt : Expr) (ifs : List Expr) (emit : Sem Fin → Sem Fin) : Sem Fin := do
  standAt ip
  match ← pyNext it with
  | none => pure (.done .next)
  | some v =>
    letOwnedTupleGo tgt it v
    assign tgt env v
    let ok ← testsOf ifs env
    if ok then emit (again (.compLoop e d it acc env)) else again (.compLoop e d it acc env)
theorem loop_any {elt : Expr} {gens : List Comprehension} {scope : Scope} {pos : Pos} {d : Nat} {it acc : Value} {ip : Pos} {tgt : Expr} {ifs : List Expr} {emit : Sem Fin → Sem Fin} {em : (Shared → Prop) → Shared → Prop} (hem : ∀ (k : Sem Fin) (Z : Fin → Shared → Prop) (s : Shared) (Y : Shared → Prop), em Y s → (∀ s', Y s' → wpAny (model prog w) A k Z (notedBy (model prog w) A env fun e s' => R (.error e) s') s') → wpAny (model prog w) A (emit k) Z (notedBy (model prog w) A env fun e s' => R (.error e) s') s) (ht : compTurn (.SetComp elt gens scope pos) d it acc env = turnOf (.SetComp elt gens scope pos) d it acc env ip tgt ifs emit) (I : Nat → Shared → Prop)
    (turn : ∀ n s, I n s → wpAny (model prog w) A (pyNext it) (fun r s1 => match r with
      | none => R (.ok .next) s1
      | some v => wpAny (model prog w) A (letOwnedTupleGo tgt it v) (fun _ s2 => wpAny (model prog w) A (assign tgt env v) (fun _ s3 => wpAny (model prog w) A (testsOf ifs env) (fun ok s4 => if ok = true then em (fun s5 => ∃ m, m < n ∧ I m s5) s4 else ∃ m, m < n ∧ I m s4)
          (notedBy (model prog w) A env fun e s' => R (.error e) s') s3) (notedBy (model prog w) A env fun e s' => R (.error e) s') s2) (notedBy (model prog w) A env fun e s' => R (.error e) s') s1) (notedBy (model prog w) A env fun e s' => R (.error e) s') s)
    (n : Nat) (h : I n s) : codeAny (model prog w) A (.compLoop (.SetComp elt gens scope pos) d it acc env) R s := by
  have up : ∀ {x : Value} {s' : Shared}, notedBy (model prog w) A env (fun e s' => R (.error e) s') x s' → notedBy (model prog w) A env (fun e s' => R (.error e) s') x s' := id
  refine codeAny_loop rfl I (fun n s hI => ?_) n h
  show wpAny _ A ((compTurn (.SetComp elt gens scope pos) d it acc env).onRaise fun x => do noteFrame x env; theTreesLotGoes x) _ _ s
  refine wpAny_noted ?_
  rw [ht]
  refine wpAny_bind <| wpAny_standAt <| wpAny_bind <| wpAny_mono (turn n s hI) (fun r s1 h1 => ?_) fun _ _ => up
  cases r with
  | none => exact wpAny_pure h1
  | some v =>
    refine wpAny_bind <| wpAny_mono h1 (fun _ s2 h2 => ?_) fun _ _ => up
    refine wpAny_bind <| wpAny_mono h2 (fun _ s3 h3 => wpAny_bind <| wpAny_mono h3 (fun ok s4 h4 => ?_) fun _ _ => up) fun _ _ => up
    cases ok with
    | false => exact wpAny_pure ⟨rfl, h4⟩
    | true => exact hem _ _ _ _ h4 fun s5 h5 => wpAny_pure ⟨rfl, h5⟩
theorem start_any {elt : Expr} {gens : List Comprehension} {scope : Scope} {pos : Pos} {d : Nat} {it acc : Value} {g : Comprehension} (hg : gens[d]? = some g) (na : (g.is_async != 0) = false) (h0 : codeAny (model prog w) A (.compLoop (.SetComp elt gens scope pos) d it acc env) R s)
    (h : wpAny (model prog w) A (pyIter it) (fun it' s' => codeAny (model prog w) A (.compLoop (.SetComp elt gens scope pos) d it' acc env) R s') (notedBy (model prog w) A env fun x s' => R (.error x) s') s) : codeAny (model prog w) A (.compStart (.SetComp elt gens scope pos) d it acc env) R s := by
  refine codeAny_of_tree ?_
  show wpAny _ _ ((compStart (.SetComp elt gens scope pos) d it acc env).onRaise fun x => do noteFrame x env; standAt theWindowsPlace) _ _ s
  refine wpAny_notedAt ?_
  unfold compStart
  show wpAny _ _ (do if (gens[d]?).elim false (·.is_async != 0) then _ else _) _ _ s
  rw [hg]
  simp only [Option.elim, na, Bool.false_eq_true, if_false]
  refine wpAny_bind <| wpAny_askSetting <| ?_
  have hg' : (clausesOf (.SetComp elt gens scope pos))[d]? = some g := hg
  rw [hg']
  split
  · exact wpAny_pure ⟨rfl, h0⟩
  · refine wpAny_bind <| wpAny_rule ?_
    exact wpAny_bind <| wpAny_standAt <| wpAny_bind <| wpAny_mono h (fun it' s' h' => wpAny_pure ⟨rfl, h'⟩) fun _ _ z => z
end
end OM

namespace OM
open PySem PySem.Spec PyProof.Rows L2
section
variable {elt t0 i0 t1 i1 : Expr} {c0 c1 : List Expr} {scope : Scope} {pos : Pos}
def addS (elt : Expr) (acc : Value) (env : Env) (k : Sem Fin) : Sem Fin := do
  (do let v ← eval elt env; standAt elt.pos; let _ ← call (.builtin "set.add") [acc, v])
  k
def intoS (e : Expr) (i1 : Expr) (acc : Value) (env : Env) (k : Sem Fin) : Sem Fin := do
  let x ← eval i1 env
  standAt i1.pos
  let x ← foldedSetIterable i1 env x
  let _ ← runOwn (.compStart e 1 (← holding [x] (pyIter x)) acc env) env
  k
theorem turn_s1 (it acc : Value) (env : Env) : compTurn (.SetComp elt [⟨t0, i0, c0, 0⟩] scope pos) 0 it acc env = turnOf (.SetComp elt [⟨t0, i0, c0, 0⟩] scope pos) 0 it acc env i0.pos t0 c0 (addS elt acc env) := by rfl
theorem turn_s2 (it acc : Value) (env : Env) : compTurn (.SetComp elt [⟨t0, i0, c0, 0⟩, ⟨t1, i1, c1, 0⟩] scope pos) 0 it acc env = turnOf (.SetComp elt [⟨t0, i0, c0, 0⟩, ⟨t1, i1, c1, 0⟩] scope pos) 0 it acc env i0.pos t0 c0 (intoS (.SetComp elt [⟨t0, i0, c0, 0⟩, ⟨t1, i1, c1, 0⟩] scope pos) i1 acc env) := by rfl
theorem turn_s2in (it acc : Value) (env : Env) : compTurn (.SetComp elt [⟨t0, i0, c0, 0⟩, ⟨t1, i1, c1, 0⟩] scope pos) 1 it acc env = turnOf (.SetComp elt [⟨t0, i0, c0, 0⟩, ⟨t1, i1, c1, 0⟩] scope pos) 1 it acc env i1.pos t1 c1 (addS elt acc env) := by rfl
end
/-- what an emission asks -/
def emS (P : Program) (w : World) (A : Around) (E : Value → Shared → Prop) (elt : Expr) (acc : Value) (env : Env) (Y : Shared → Prop) (s : Shared) : Prop := wpAny (model P w) A (eval elt env) (fun x s1 => wpAny (model P w) A (call (.builtin "set.add") [acc, x]) (fun _ s2 => Y s2) E s1) E s
def emI (P : Program) (w : World) (A : Around) (E : Value → Shared → Prop) (e i1 : Expr) (acc : Value) (env : Env) (Y : Shared → Prop) (s : Shared) : Prop := wpAny (model P w) A (eval i1 env) (fun x s1 => wpAny (model P w) A (pyIter x) (fun it s2 => codeAny (model P w) A (.compStart e 1 it acc env) (fun r s3 => match r with
  | .ok _ => Y s3
  | .error _ => False) s2) E s1) E s
section
variable {prog : Program} {w : World} {A : Around} {env : Env} {E : Value → Shared → Prop}
theorem emS_ok {elt : Expr} {acc : Value} (k : Sem Fin) (Z : Fin → Shared → Prop) (s : Shared) (Y : Shared → Prop) (h : emS prog w A E elt acc env Y s) (hk : ∀ s', Y s' → wpAny (model prog w) A k Z E s') : wpAny (model prog w) A (addS elt acc env k) Z E s :=
  wpAny_bind <| wpAny_bind <| wpAny_mono h (fun x s1 h1 => wpAny_bind <| wpAny_standAt <| wpAny_bind <| wpAny_mono h1 (fun _ s2 h2 => wpAny_pure (hk s2 h2)) fun _ _ z => z) fun _ _ z => z
theorem emI_ok {e i1 : Expr} {acc : Value} (hs : ∀ x, foldedSetIterable i1 env x = pure x) (k : Sem Fin) (Z : Fin → Shared → Prop) (s : Shared) (Y : Shared → Prop) (h : emI prog w A E e i1 acc env Y s) (hk : ∀ s', Y s' → wpAny (model prog w) A k Z E s') : wpAny (model prog w) A (intoS e i1 acc env k) Z E s := by
  refine wpAny_bind <| wpAny_mono h (fun x s1 h1 => ?_) fun _ _ z => z
  refine wpAny_bind <| wpAny_standAt <| wpAny_bind <| wpAny_of_eq (hs x) <| wpAny_bind <| wpAny_holding <| wpAny_mono h1 (fun it s2 h2 => ?_) fun _ _ z => z
  refine wpAny_bind <| wpAny_runOwn ?_
  rw [Around.mark_none]
  refine codeAny_mono h2 fun r s3 hr => ?_
  cases r with
  | ok f => exact hk s3 hr
  | error x => exact hr.elim
end
section
variable {X : Cx}
/-- σ' knows what σ knows -/
def Knows (σ σ' : L2.St) : Prop := σ.length = σ'.length ∧ ∀ (j : Nat) v, σ[j]? = some (some v) → σ'[j]? = some (some v)
/-- a loop of a block over what T walks -/
theorem blk_loop {s3 : Shared} {H3 : Hp} {scope : Scope} {ce : Env} {fp0 : List Addr} {pins : List (Addr × Obj)} {σ0 : L2.St} {elt tgt : Expr} {gens : List Comprehension} {pos ip : Pos} {d : Nat} {ifs : List Expr} {it : Addr} {acc : Value} {emit : Sem Fin → Sem Fin} {em : (Shared → Prop) → Shared → Prop} {R : Result → Shared → Prop} {fp : List Addr} {tn : Nat → Heap → Prop} {J : It} {g : TG} {tt : TT} {emH : L2.St → Hp → (Hp → Prop) → Prop} {kn : L2.St → Prop} (hkn : ∀ σ2, kn σ2 → Knows σ0 σ2)
    (hc : X.calm = true) (T : Turn X.prog X.w X.K tgt J fp it tn) (stat : ∀ {H' : Hp}, (∀ b ∈ fp, H' b = none) → ∀ b ∈ fp, FpOk (X.blk s3 H3 scope ce fp0) pins H' b) (pg : PG (X.blk s3 H3 scope ce fp0) tgt g) (pt : PTs (X.blk s3 H3 scope ce fp0) ifs tt)
    (hem : ∀ (k : Sem Fin) (Z : Fin → Shared → Prop) (s : Shared) (Y : Shared → Prop), em Y s → (∀ s', Y s' → wpAny (model X.prog X.w) X.A k Z (notedBy (model X.prog X.w) X.A ce fun e s' => R (.error e) s') s') → wpAny (model X.prog X.w) X.A (emit k) Z (notedBy (model X.prog X.w) X.A ce fun e s' => R (.error e) s') s)
    (ht : compTurn (.SetComp elt gens scope pos) d (.ref it) acc ce = turnOf (.SetComp elt gens scope pos) d (.ref it) acc ce ip tgt ifs emit) {W : Nat → Nat → Hp → Prop} {Z : Hp → Prop}
    (turn : ∀ i m H, W i m H → (J.stop i H ∧ Z H) ∨ (J.go i H ∧ ∃ Nx : Hp → Prop, (∀ H', Nx H' → ∃ m', m' < m ∧ W (i + 1) m' H') ∧ ∀ x H', J.yld i H x H' → g x σ0 H' fun σ2 H2 => kn σ2 ∧ tt σ2 H2 fun b H4 => if b = true then emH σ2 H4 Nx else Nx H4))
    (emM : ∀ {Y Y' : Shared → Prop} {s : Shared}, em Y s → (∀ s', Y s' → Y' s') → em Y' s) (emR : ∀ (σ2 : L2.St) (H4 : Hp) (Nx : Hp → Prop) (s : Shared) (pl : List (Addr × Obj)), Inv (X.blk s3 H3 scope ce fp0) (pins ++ pl) σ2 H4 s → Knows σ0 σ2 → emH σ2 H4 Nx → em (fun s' => ∃ σ' H', Inv (X.blk s3 H3 scope ce fp0) (pins ++ pl) σ' H' s' ∧ Knows σ0 σ' ∧ Nx H') s)
    (fin : ∀ s' H', Inv (X.blk s3 H3 scope ce fp0) pins σ0 H' s' → Z H' → R (.ok .next) s') {m0 : Nat} {H0 : Hp} {s : Shared} (I0 : Inv (X.blk s3 H3 scope ce fp0) pins σ0 H0 s) (st0 : tn 0 s.heap) (n0 : ∀ b ∈ fp, H0 b = none) (w0 : W 0 m0 H0) :
    codeAny (model X.prog X.w) X.A (.compLoop (.SetComp elt gens scope pos) d (.ref it) acc ce) R s := by
  refine loop_any hem ht (fun m s' => ∃ i H', Inv (X.blk s3 H3 scope ce fp0) pins σ0 H' s' ∧ tn i s'.heap ∧ (∀ b ∈ fp, H' b = none) ∧ W i m H') ?_ m0 ⟨0, H0, I0, st0, n0, w0⟩
  rintro m s5 ⟨i, H5, I5, st5, n5, w5⟩
  rcases turn i m H5 w5 with ⟨stop, z⟩ | ⟨go, Nx, hNx, step⟩
  · refine thnF (T.done (X.blk s3 H3 scope ce fp0) rfl rfl rfl hc i pins s5 σ0 H5 (fun _ _ => False) I5 (stat n5) st5 stop) fun r s6 ⟨hr, I6⟩ => ?_
    subst hr
    exact fin s6 H5 I6 z
  · refine thnF (T.item (X.blk s3 H3 scope ce fp0) rfl rfl rfl hc i pins s5 σ0 H5 (fun _ _ => False) I5 (stat n5) st5 go) fun r s6 ⟨u, hr, h6⟩ => ?_
    subst hr
    refine thnF h6 fun _ s7 ⟨x, H7, I7, r7, y7, st7, n7⟩ => ?_
    refine thnF (pg.run _ s7 σ0 H7 x u _ (I7.pinned (stat n7) (T.obj _ _ st7)) r7 (step x H7 y7)) fun _ s8 ⟨σ8, H8, I8, kn8, q8⟩ => ?_
    have hk8 := hkn σ8 kn8
    refine thnF (pt.run _ s8 σ8 H8 _ I8 q8) fun b s9 ⟨H9, I9, q9⟩ => ?_
    have back : ∀ {s' : Shared} {σ' : L2.St} {H' : Hp}, Inv (X.blk s3 H3 scope ce fp0) (pins ++ pinsAt fp s7.heap) σ' H' s' → σ0.length = σ'.length → (∀ (j : Nat) v, σ0[j]? = some (some v) → σ'[j]? = some (some v)) → Nx H' → ∃ m', m' < m ∧ ∃ i H', Inv (X.blk s3 H3 scope ce fp0) pins σ0 H' s' ∧ tn i s'.heap ∧ (∀ b ∈ fp, H' b = none) ∧ W i m' H' := by
      intro s' σ' H' I' hl hk nx
      obtain ⟨m', hm, w'⟩ := hNx H' nx
      have held : ∀ b ∈ fp, ∀ o, s7.heap.get? b = some o → s'.heap.get? b = some o ∧ H' b = none := fun b hb o e =>
        have z := I'.pin (b, o) (List.mem_append_right _ (List.mem_append_right _ (mem_pinsAt hb e)))
        ⟨z.1, z.2.1⟩
      exact ⟨m', hm, i + 1, H', I'.unpinned.weak hl hk, T.keep _ _ _ st7 fun b hb o e => (held b hb o e).1, fun b hb => let ⟨o, e, _⟩ := T.obj _ _ st7 b hb; (held b hb o e).2, w'⟩
    cases b with
    | false => exact back I9 hk8.1 hk8.2 q9
    | true =>
      exact emM (emR σ8 H9 Nx s9 _ I9 hk8 q9) fun s' ⟨σ', H', I', hk, nx⟩ => back I' hk.1 hk.2 nx
end
end OM

namespace OM
open PySem PySem.Spec PyProof.Rows L2
def goes (J : It) (W : Nat → Nat → Hp → Prop) (Z : Hp → Prop) (step : V → Hp → (Hp → Prop) → Prop) : Prop := ∀ i m H, W i m H → (J.stop i H ∧ Z H) ∨ (J.go i H ∧ ∃ Nx : Hp → Prop, (∀ H', Nx H' → ∃ m', m' < m ∧ W (i + 1) m' H') ∧ ∀ x H', J.yld i H x H' → step x H' Nx)
/-- a text comes into the set at D -/
def tInto (w : World) (D : Addr) (Nx : Hp → Prop) : VK := fun y H => ∃ x L, y = .str x ∧ H D = some (SetTO w D L) ∧ L.length + 1 < scanBound ∧ Nx (upd H D (SetTO w D (addX L x)))
/-- {elt for tg in iter if ..}, texts -/
def tSx (w : World) (wi : TI) (g : TG) (tt : TT) (te : TE) (vs : List Nat) : TE := fun σ H Q => wi σ H fun J H1 => ∀ D, H1 D = none → ∃ W : Nat → Nat → Hp → Prop, (∃ m, W 0 m (upd H1 D (SetTO w D []))) ∧ goes J W (fun H => Q (.ref D) H) fun x H' Nx => g x (wipe σ vs) H' fun σ2 H2 => wipe σ2 vs = wipe σ vs ∧ tt σ2 H2 fun b H3 => if b = true then te σ2 H3 (tInto w D Nx) else Nx H3
/-- .. with a second for, its names vs1 -/
def tSx2 (w : World) (wi : TI) (g : TG) (tt : TT) (wi1 : TI) (g1 : TG) (tt1 : TT) (te : TE) (vs vs1 : List Nat) : TE := fun σ H Q => wi σ H fun J H1 => ∀ D, H1 D = none → ∃ W : Nat → Nat → Hp → Prop, (∃ m, W 0 m (upd H1 D (SetTO w D []))) ∧ goes J W (fun H => Q (.ref D) H) fun x H' Nx => g x (wipe σ vs) H' fun σ2 H2 => wipe σ2 vs = wipe σ vs ∧ tt σ2 H2 fun b H3 => if b = true then
  wi1 σ2 H3 (fun J1 H4 => ∃ W1 : Nat → Nat → Hp → Prop, (∃ m, W1 0 m H4) ∧ goes J1 W1 Nx fun x H' Nx1 => g1 x (wipe σ2 vs1) H' fun σ3 H5 => wipe σ3 vs1 = wipe σ2 vs1 ∧ tt1 σ3 H5 fun b H6 => if b = true then te σ3 H6 (tInto w D Nx1) else Nx1 H6) else Nx H3
theorem wiped {σ σ2 : L2.St} {vs : List Nat} (h : wipe σ2 vs = wipe σ vs) : Knows (wipe σ vs) σ2 := by
  rw [← h]
  exact ⟨wipe_length _ _, fun j v e => (wipe_some e).1⟩
theorem Knows.tr {a b c : L2.St} (h : Knows a b) (k : Knows b c) : Knows a c := ⟨h.1.trans k.1, fun j v e => k.2 j v (h.2 j v e)⟩
section
variable {X : Cx} {elt tg iter tg1 iter1 : Expr} {ifs ifs1 : List Expr} {scope : Scope} {own : List (Str × Nat)} {vs1 : List Nat} {pos : Pos} {wi wi1 : TI} {g g1 : TG} {tt tt1 : TT} {te : TE}
/-- the innermost emission, within a block -/
theorem into_ok {s3 : Shared} {H3 : Hp} {ce : Env} {fp0 : List Addr} {pins : List (Addr × Obj)} {σ2 σ0 : L2.St} {H4 : Hp} {Nx : Hp → Prop} {s : Shared} {D : Addr} {E : Value → Shared → Prop} (pe : PE (X.blk s3 H3 scope ce fp0) elt te) (I : Inv (X.blk s3 H3 scope ce fp0) pins σ2 H4 s) (hk : Knows σ0 σ2) (h : te σ2 H4 (tInto X.w D Nx)) :
    emS X.prog X.w X.A E elt (.ref D) ce (fun s' => ∃ σ' H', Inv (X.blk s3 H3 scope ce fp0) pins σ' H' s' ∧ Knows σ0 σ' ∧ Nx H') s := by
  refine thnF (pe.run _ s σ2 H4 _ I h) fun z s1 ⟨y, H5, I5, r5, x, L, ey, hD, room, nx⟩ => ?_
  subst ey
  obtain ⟨tk, rfl⟩ := r5
  exact tx_add_ok (X := X.blk s3 H3 scope ce fp0) I5 hD room fun s6 I6 => ⟨σ2, _, I6, hk, nx⟩
theorem sx2_core {pins : List (Addr × Obj)} {s : Shared} {σ : L2.St} {H : Hp} {Q : VK} {pos' : Pos} {use : Option (Value → Sem Unit)} {Qf : Value → Shared → Prop} (hc : X.calm = true) (hN : X.N.Nodup) (I : Inv X pins σ H s) (hi : PI X tg iter wi) (ok : BlkOk X.N X.env.scope scope own) (hv : ∀ i ∈ vs1, i ∈ own.map (·.2))
    (hg : ∀ (s : Shared) (H : Hp) (C : Addr) (cl : List (Str × Addr)) (fp : List Addr), PG (X.blk s H scope (compEnvC scope cl C X.env) fp) tg g) (ht : ∀ (s : Shared) (H : Hp) (C : Addr) (cl : List (Str × Addr)) (fp : List Addr), PTs (X.blk s H scope (compEnvC scope cl C X.env) fp) ifs tt)
    (hi1 : ∀ (s : Shared) (H : Hp) (C : Addr) (cl : List (Str × Addr)) (fp : List Addr), PI (X.blk s H scope (compEnvC scope cl C X.env) fp) tg1 iter1 wi1) (hg1 : ∀ (s : Shared) (H : Hp) (C : Addr) (cl : List (Str × Addr)) (fp : List Addr), PG (X.blk s H scope (compEnvC scope cl C X.env) fp) tg1 g1)
    (ht1 : ∀ (s : Shared) (H : Hp) (C : Addr) (cl : List (Str × Addr)) (fp : List Addr), PTs (X.blk s H scope (compEnvC scope cl C X.env) fp) ifs1 tt1) (he : ∀ (s : Shared) (H : Hp) (C : Addr) (cl : List (Str × Addr)) (fp : List Addr), PE (X.blk s H scope (compEnvC scope cl C X.env) fp) elt te)
    (hs : ∀ x, foldedSetIterable iter X.env x = pure x) (hs1 : ∀ env x, foldedSetIterable iter1 env x = pure x) (h : tSx2 X.w wi g tt wi1 g1 tt1 te (own.map (·.2)) vs1 σ H Q)
    (hRR : ∀ D C s' m H', Inv X pins σ H' s' → Q (.ref D) H' → s'.heap.Ns C m → FpOk X pins H' C → compPost (model X.prog X.w) X.A X.xe use Qf (.ref D) C (.ok .next) s') :
    wpAny (model X.prog X.w) X.A (comprehension (.SetComp elt [⟨tg, iter, ifs, 0⟩, ⟨tg1, iter1, ifs1, 0⟩] scope pos) scope X.env pos' (newSet (.type "set")) false (eval iter X.env) use) Qf X.xe s := by
  have cells : ∀ y ∈ scope.names, y.2 = .free → ∃ c, X.env.cells.lookup y.1 = some c := fun y hy e => (ok.free y hy e).elim (fun k => I.ok.has _ (.inl k)) fun k => I.ok.has _ (.inr k)
  refine wpAny_comprehension_free (use := use) rfl hs (closure_ok cells) ok.kind (fun y hy e => by rw [ok.uniq y hy, e]) (thn (hi.run pins s σ H _ I h) fun xv s1 hx => thn hx fun itv s2 h2 => ?_)
  obtain ⟨it, fp, tn, J, H2, rfl, I2, T, st2, f2, q⟩ := h2
  refine PpSet.newSet_ok (newEnv_comp ?_)
  obtain ⟨D, hD⟩ : ∃ D, s2.heap.objs.size = D := ⟨_, rfl⟩
  obtain ⟨W, ⟨m0, w0⟩, turn⟩ := q D (I2.hok.fresh (Nat.le_of_eq hD))
  have fresh := tx_fresh (h := s2.heap) X.w
  rw [hD] at fresh ⊢
  obtain ⟨s3, es3⟩ : ∃ s3 : Shared, s3 = { s2 with heap := s2.heap.push { cls := .type "set", dict := none, data := .set #[] 0 (.fresh 0 0 (!X.w.params.followText "set-order")) } } := ⟨_, rfl⟩
  have h3 : s3.heap = s2.heap.push { cls := .type "set", dict := none, data := .set #[] 0 (.fresh 0 0 (!X.w.params.followText "set-order")) } := by rw [es3]
  have I3 : Inv X pins σ (upd H2 D (SetTO X.w D [])) s3 := by
    rw [es3]
    exact I2.laid (t' := s2.toks) (fun b o e => Heap.get?_push_of_some _ e) (Nat.le_of_eq hD) (txo_new fresh)
  rw [← es3]
  have f3 : ∀ b ∈ fp, FpOk X pins (upd H2 D (SetTO X.w D [])) b ∧ b < s3.heap.objs.size := fun b hb => by
    obtain ⟨o, e, _⟩ := T.obj _ _ st2 b hb
    have lt := Heap.lt_size e
    exact ⟨⟨by rw [upd_ne (by rw [← hD]; exact Nat.ne_of_lt lt)]; exact (f2 b hb).1, (f2 b hb).2⟩, by rw [h3, Heap.size_push]; exact Nat.lt_succ_of_lt lt⟩
  have st3 : tn 0 s3.heap := T.keep _ _ _ st2 fun b _ o e => by rw [h3]; exact Heap.get?_push_of_some _ e
  have I4 := block_start I3 ok hN f3
  have pg := hg s3 (upd H2 D (SetTO X.w D [])) s3.heap.objs.size (cellsFrom (s3.heap.objs.size + 1) scope.names (cloFrom X.env.cells scope.names [])) fp
  have pt := ht s3 (upd H2 D (SetTO X.w D [])) s3.heap.objs.size (cellsFrom (s3.heap.objs.size + 1) scope.names (cloFrom X.env.cells scope.names [])) fp
  have pe := he s3 (upd H2 D (SetTO X.w D [])) s3.heap.objs.size (cellsFrom (s3.heap.objs.size + 1) scope.names (cloFrom X.env.cells scope.names [])) fp
  have pi1 := hi1 s3 (upd H2 D (SetTO X.w D [])) s3.heap.objs.size (cellsFrom (s3.heap.objs.size + 1) scope.names (cloFrom X.env.cells scope.names [])) fp
  have pg1 := hg1 s3 (upd H2 D (SetTO X.w D [])) s3.heap.objs.size (cellsFrom (s3.heap.objs.size + 1) scope.names (cloFrom X.env.cells scope.names [])) fp
  have pt1 := ht1 s3 (upd H2 D (SetTO X.w D [])) s3.heap.objs.size (cellsFrom (s3.heap.objs.size + 1) scope.names (cloFrom X.env.cells scope.names [])) fp
  show codeAny _ _ (.compStart (.SetComp elt [⟨tg, iter, ifs, 0⟩, ⟨tg1, iter1, ifs1, 0⟩] scope pos) 0 (.ref it) (.ref D) (compEnvC scope (cellsFrom (s3.heap.objs.size + 1) scope.names (cloFrom X.env.cells scope.names [])) s3.heap.objs.size X.env)) (compPost (model X.prog X.w) X.A X.xe use Qf (.ref D) s3.heap.objs.size) { s3 with heap := pushCells (s3.heap.push { cls := .type "dict", data := .dict #[] }) scope.names }
  obtain ⟨ce, ece⟩ : ∃ ce, ce = compEnvC scope (cellsFrom (s3.heap.objs.size + 1) scope.names (cloFrom X.env.cells scope.names [])) s3.heap.objs.size X.env := ⟨_, rfl⟩
  have cL : ce.locals = s3.heap.objs.size := by rw [ece]; rfl
  obtain ⟨s4, es4⟩ : ∃ s4 : Shared, s4 = { s3 with heap := pushCells (s3.heap.push { cls := .type "dict", data := .dict #[] }) scope.names } := ⟨_, rfl⟩
  rw [← ece] at I4 pg pt pe pi1 pg1 pt1 ⊢
  rw [← es4] at I4 ⊢
  have st4 : tn 0 s4.heap := T.keep _ _ _ st3 fun b _ o e => by rw [es4]; exact pushCells_keeps _ _ _ _ (Heap.get?_push_of_some _ e)
  generalize upd H2 D (SetTO X.w D []) = H3 at w0 I3 f3 I4 pg pt pe pi1 pg1 pt1
  have stat : ∀ {H' : Hp}, (∀ b ∈ fp, H' b = none) → ∀ b ∈ fp, FpOk (X.blk s3 H3 scope ce fp) [] H' b := fun {H'} hn b hb =>
    ⟨hn b hb, (I4.ok.exf b hb).1, I4.ok.exfs b hb, .inl hb, fun x c e => (I4.ok.exf b hb).2 x c e, fun p hp => absurd (show p ∈ ([] : List (Addr × Obj)) ++ [] from hp) (by simp)⟩
  have loop : codeAny (model X.prog X.w) X.A (.compLoop (.SetComp elt [⟨tg, iter, ifs, 0⟩, ⟨tg1, iter1, ifs1, 0⟩] scope pos) 0 (.ref it) (.ref D) ce) (compPost (model X.prog X.w) X.A X.xe use Qf (.ref D) s3.heap.objs.size) s4 := by
    refine blk_loop (kn := fun σ2 => wipe σ2 (own.map (·.2)) = wipe σ (own.map (·.2))) (W := W) (Z := fun H => Q (.ref D) H) (g := g) (tt := tt) (em := emI X.prog X.w X.A (notedBy (model X.prog X.w) X.A ce fun e s' => compPost (model X.prog X.w) X.A X.xe use Qf (.ref D) s3.heap.objs.size (.error e) s') (.SetComp elt [⟨tg, iter, ifs, 0⟩, ⟨tg1, iter1, ifs1, 0⟩] scope pos) iter1 (.ref D) ce)
      (emH := fun σ2 H3 Nx => wi1 σ2 H3 fun J1 H4 => ∃ W1 : Nat → Nat → Hp → Prop, (∃ m, W1 0 m H4) ∧ goes J1 W1 Nx fun x H' Nx1 => g1 x (wipe σ2 vs1) H' fun σ3 H5 => wipe σ3 vs1 = wipe σ2 vs1 ∧ tt1 σ3 H5 fun b H6 => if b = true then te σ3 H6 (tInto X.w D Nx1) else Nx1 H6)
      (fun _ z => wiped z) hc T stat pg pt (emI_ok (hs1 ce)) (turn_s2 _ _ _) ?_ ?_ ?_ ?_ I4 st4 (fun b hb => (f3 b hb).1.1) w0
    · exact turn
    · intro Y Y' s h k
      exact wpAny_mono h (fun x s1 h1 => wpAny_mono h1 (fun it s2 h2 => codeAny_mono h2 fun r s3 z => by cases r with | ok f => exact k _ z | error x => exact z) fun _ _ z => z) fun _ _ z => z
    · intro σ2 H4 Nx s pl I' hk q2
      refine thnF (pi1.run _ s σ2 H4 _ I' q2) fun xv s10 hx => thnF hx fun itv s11 h11 => ?_
      obtain ⟨it1, fp1, tn1, J1, H11, rfl, I11, T1, st11, f11, W1, ⟨m1, w1⟩, turn1⟩ := h11
      have kw : Knows (wipe σ (own.map (·.2))) (wipe σ2 vs1) := ⟨hk.1.trans (wipe_length σ2 vs1).symm, fun j v e => by
        rw [wipe_out fun z => (wipe_some e).2 (hv j z)]
        exact hk.2 j v e⟩
      have loop1 : codeAny (model X.prog X.w) X.A (.compLoop (.SetComp elt [⟨tg, iter, ifs, 0⟩, ⟨tg1, iter1, ifs1, 0⟩] scope pos) 1 (.ref it1) (.ref D) ce) (fun r s' => match r with
          | .ok _ => ∃ σ' H', Inv (X.blk s3 H3 scope ce fp) ([] ++ pl) σ' H' s' ∧ Knows (wipe σ (own.map (·.2))) σ' ∧ Nx H'
          | .error _ => False) s11 := by
        refine blk_loop (kn := fun σ3 => wipe σ3 vs1 = wipe σ2 vs1) (pins := [] ++ pl) (σ0 := wipe σ2 vs1) (W := W1) (Z := Nx) (g := g1) (tt := tt1) (em := emS X.prog X.w X.A (notedBy (model X.prog X.w) X.A ce fun e s' => False) elt (.ref D) ce) (emH := fun σ3 H6 Nx1 => te σ3 H6 (tInto X.w D Nx1))
          (fun _ z => wiped z) hc T1 (fun {H'} hn b hb => ⟨hn b hb, (f11 b hb).2⟩) pg1 pt1 emS_ok (turn_s2in _ _ _) ?_ ?_ ?_ ?_ (I11.weak (wipe_length _ _) fun j v e => (wipe_some e).1) st11 (fun b hb => (f11 b hb).1) w1
        · exact turn1
        · intro Y Y' s h k
          exact wpAny_mono h (fun x s1 h1 => wpAny_mono h1 (fun _ s2 h2 => k _ h2) fun _ _ z => z) fun _ _ z => z
        · intro σ3 H6 Nx1 s pl1 I6 hk6 q6
          exact into_ok pe I6 hk6 q6
        · exact fun s' H' I' z => ⟨_, H', I', kw, z⟩
      exact start_any rfl rfl loop1 (T1.self X.A 0 _ _ _ st11 loop1)
    · intro s6 H5 I6 qq
      have I7 : Inv X pins σ H5 s6 := I3.call' (ch := fp) I6.os I6.base I6.hok I6.bare fun b hb => ⟨(f3 b hb).1.2.2.2.1, (f3 b hb).1.2.1, (f3 b hb).1.2.2.2.2.1, (f3 b hb).1.2.2.2.2.2⟩
      have nC : H5 s3.heap.objs.size = none := by
        rw [← cL]
        exact I6.free
      obtain ⟨m, hn, _⟩ := I6.loc
      have hn : s6.heap.Ns ce.locals m := hn
      rw [cL] at hn
      exact hRR D s3.heap.objs.size s6 m H5 I7 qq hn (I3.fpOk (Nat.le_refl _) nC)
  exact start_any rfl rfl loop (T.self X.A 0 _ _ _ st4 loop)
theorem pe_sx2 (hc : X.calm = true) (hN : X.N.Nodup) (hi : PI X tg iter wi) (ok : BlkOk X.N X.env.scope scope own) (hv : ∀ i ∈ vs1, i ∈ own.map (·.2)) (hg : ∀ (s : Shared) (H : Hp) (C : Addr) (cl : List (Str × Addr)) (fp : List Addr), PG (X.blk s H scope (compEnvC scope cl C X.env) fp) tg g)
    (ht : ∀ (s : Shared) (H : Hp) (C : Addr) (cl : List (Str × Addr)) (fp : List Addr), PTs (X.blk s H scope (compEnvC scope cl C X.env) fp) ifs tt) (hi1 : ∀ (s : Shared) (H : Hp) (C : Addr) (cl : List (Str × Addr)) (fp : List Addr), PI (X.blk s H scope (compEnvC scope cl C X.env) fp) tg1 iter1 wi1)
    (hg1 : ∀ (s : Shared) (H : Hp) (C : Addr) (cl : List (Str × Addr)) (fp : List Addr), PG (X.blk s H scope (compEnvC scope cl C X.env) fp) tg1 g1) (ht1 : ∀ (s : Shared) (H : Hp) (C : Addr) (cl : List (Str × Addr)) (fp : List Addr), PTs (X.blk s H scope (compEnvC scope cl C X.env) fp) ifs1 tt1)
    (he : ∀ (s : Shared) (H : Hp) (C : Addr) (cl : List (Str × Addr)) (fp : List Addr), PE (X.blk s H scope (compEnvC scope cl C X.env) fp) elt te) (hs : ∀ x, foldedSetIterable iter X.env x = pure x := by intro _; rfl) (hs1 : ∀ env x, foldedSetIterable iter1 env x = pure x := by intro _ _; rfl) :
    PE X (.SetComp elt [⟨tg, iter, ifs, 0⟩, ⟨tg1, iter1, ifs1, 0⟩] scope pos) (tSx2 X.w wi g tt wi1 g1 tt1 te (own.map (·.2)) vs1) := by
  refine ⟨fun pins s σ H Q I h => ?_⟩
  rw [PpSet.eval_SetComp]
  refine sx2_core hc hN I hi ok hv hg ht hi1 hg1 ht1 he hs hs1 h fun D C s' m H' I' q hn ⟨f0, f1, f2, f3, f4, f5⟩ => ⟨m, hn, fun h'' sb => ?_⟩
  exact ⟨.ref D, H', I'.turned (t' := s'.toks) (fun b o hb e => (sb.2 b hb).trans e) f0 f1 f3 f4 f5, rfl, q⟩
end
end OM

namespace OM
open PySem PySem.Spec PyProof.Rows L2
section
variable {X : Cx} {elt tg iter : Expr} {ifs : List Expr} {scope : Scope} {own : List (Str × Nat)} {pos : Pos} {wi : TI} {g : TG} {tt : TT} {te : TE}
theorem sx1_core {pins : List (Addr × Obj)} {s : Shared} {σ : L2.St} {H : Hp} {Q : VK} {pos' : Pos} {use : Option (Value → Sem Unit)} {Qf : Value → Shared → Prop} (hc : X.calm = true) (hN : X.N.Nodup) (I : Inv X pins σ H s) (hi : PI X tg iter wi) (ok : BlkOk X.N X.env.scope scope own) 
    (hg : ∀ (s : Shared) (H : Hp) (C : Addr) (cl : List (Str × Addr)) (fp : List Addr), PG (X.blk s H scope (compEnvC scope cl C X.env) fp) tg g) (ht : ∀ (s : Shared) (H : Hp) (C : Addr) (cl : List (Str × Addr)) (fp : List Addr), PTs (X.blk s H scope (compEnvC scope cl C X.env) fp) ifs tt)
    (he : ∀ (s : Shared) (H : Hp) (C : Addr) (cl : List (Str × Addr)) (fp : List Addr), PE (X.blk s H scope (compEnvC scope cl C X.env) fp) elt te)
    (hs : ∀ x, foldedSetIterable iter X.env x = pure x) (h : tSx X.w wi g tt te (own.map (·.2)) σ H Q)
    (hRR : ∀ D C s' m H', Inv X pins σ H' s' → Q (.ref D) H' → s'.heap.Ns C m → FpOk X pins H' C → compPost (model X.prog X.w) X.A X.xe use Qf (.ref D) C (.ok .next) s') :
    wpAny (model X.prog X.w) X.A (comprehension (.SetComp elt [⟨tg, iter, ifs, 0⟩] scope pos) scope X.env pos' (newSet (.type "set")) false (eval iter X.env) use) Qf X.xe s := by
  have cells : ∀ y ∈ scope.names, y.2 = .free → ∃ c, X.env.cells.lookup y.1 = some c := fun y hy e => (ok.free y hy e).elim (fun k => I.ok.has _ (.inl k)) fun k => I.ok.has _ (.inr k)
  refine wpAny_comprehension_free (use := use) rfl hs (closure_ok cells) ok.kind (fun y hy e => by rw [ok.uniq y hy, e]) (thn (hi.run pins s σ H _ I h) fun xv s1 hx => thn hx fun itv s2 h2 => ?_)
  obtain ⟨it, fp, tn, J, H2, rfl, I2, T, st2, f2, q⟩ := h2
  refine PpSet.newSet_ok (newEnv_comp ?_)
  obtain ⟨D, hD⟩ : ∃ D, s2.heap.objs.size = D := ⟨_, rfl⟩
  obtain ⟨W, ⟨m0, w0⟩, turn⟩ := q D (I2.hok.fresh (Nat.le_of_eq hD))
  have fresh := tx_fresh (h := s2.heap) X.w
  rw [hD] at fresh ⊢
  obtain ⟨s3, es3⟩ : ∃ s3 : Shared, s3 = { s2 with heap := s2.heap.push { cls := .type "set", dict := none, data := .set #[] 0 (.fresh 0 0 (!X.w.params.followText "set-order")) } } := ⟨_, rfl⟩
  have h3 : s3.heap = s2.heap.push { cls := .type "set", dict := none, data := .set #[] 0 (.fresh 0 0 (!X.w.params.followText "set-order")) } := by rw [es3]
  have I3 : Inv X pins σ (upd H2 D (SetTO X.w D [])) s3 := by
    rw [es3]
    exact I2.laid (t' := s2.toks) (fun b o e => Heap.get?_push_of_some _ e) (Nat.le_of_eq hD) (txo_new fresh)
  rw [← es3]
  have f3 : ∀ b ∈ fp, FpOk X pins (upd H2 D (SetTO X.w D [])) b ∧ b < s3.heap.objs.size := fun b hb => by
    obtain ⟨o, e, _⟩ := T.obj _ _ st2 b hb
    have lt := Heap.lt_size e
    exact ⟨⟨by rw [upd_ne (by rw [← hD]; exact Nat.ne_of_lt lt)]; exact (f2 b hb).1, (f2 b hb).2⟩, by rw [h3, Heap.size_push]; exact Nat.lt_succ_of_lt lt⟩
  have st3 : tn 0 s3.heap := T.keep _ _ _ st2 fun b _ o e => by rw [h3]; exact Heap.get?_push_of_some _ e
  have I4 := block_start I3 ok hN f3
  have pg := hg s3 (upd H2 D (SetTO X.w D [])) s3.heap.objs.size (cellsFrom (s3.heap.objs.size + 1) scope.names (cloFrom X.env.cells scope.names [])) fp
  have pt := ht s3 (upd H2 D (SetTO X.w D [])) s3.heap.objs.size (cellsFrom (s3.heap.objs.size + 1) scope.names (cloFrom X.env.cells scope.names [])) fp
  have pe := he s3 (upd H2 D (SetTO X.w D [])) s3.heap.objs.size (cellsFrom (s3.heap.objs.size + 1) scope.names (cloFrom X.env.cells scope.names [])) fp
  show codeAny _ _ (.compStart (.SetComp elt [⟨tg, iter, ifs, 0⟩] scope pos) 0 (.ref it) (.ref D) (compEnvC scope (cellsFrom (s3.heap.objs.size + 1) scope.names (cloFrom X.env.cells scope.names [])) s3.heap.objs.size X.env)) (compPost (model X.prog X.w) X.A X.xe use Qf (.ref D) s3.heap.objs.size) { s3 with heap := pushCells (s3.heap.push { cls := .type "dict", data := .dict #[] }) scope.names }
  obtain ⟨ce, ece⟩ : ∃ ce, ce = compEnvC scope (cellsFrom (s3.heap.objs.size + 1) scope.names (cloFrom X.env.cells scope.names [])) s3.heap.objs.size X.env := ⟨_, rfl⟩
  have cL : ce.locals = s3.heap.objs.size := by rw [ece]; rfl
  obtain ⟨s4, es4⟩ : ∃ s4 : Shared, s4 = { s3 with heap := pushCells (s3.heap.push { cls := .type "dict", data := .dict #[] }) scope.names } := ⟨_, rfl⟩
  rw [← ece] at I4 pg pt pe ⊢
  rw [← es4] at I4 ⊢
  have st4 : tn 0 s4.heap := T.keep _ _ _ st3 fun b _ o e => by rw [es4]; exact pushCells_keeps _ _ _ _ (Heap.get?_push_of_some _ e)
  generalize upd H2 D (SetTO X.w D []) = H3 at w0 I3 f3 I4 pg pt pe
  have stat : ∀ {H' : Hp}, (∀ b ∈ fp, H' b = none) → ∀ b ∈ fp, FpOk (X.blk s3 H3 scope ce fp) [] H' b := fun {H'} hn b hb =>
    ⟨hn b hb, (I4.ok.exf b hb).1, I4.ok.exfs b hb, .inl hb, fun x c e => (I4.ok.exf b hb).2 x c e, fun p hp => absurd (show p ∈ ([] : List (Addr × Obj)) ++ [] from hp) (by simp)⟩
  have loop : codeAny (model X.prog X.w) X.A (.compLoop (.SetComp elt [⟨tg, iter, ifs, 0⟩] scope pos) 0 (.ref it) (.ref D) ce) (compPost (model X.prog X.w) X.A X.xe use Qf (.ref D) s3.heap.objs.size) s4 := by
    refine blk_loop (kn := fun σ2 => wipe σ2 (own.map (·.2)) = wipe σ (own.map (·.2))) (W := W) (Z := fun H => Q (.ref D) H) (g := g) (tt := tt) (em := emS X.prog X.w X.A (notedBy (model X.prog X.w) X.A ce fun e s' => compPost (model X.prog X.w) X.A X.xe use Qf (.ref D) s3.heap.objs.size (.error e) s') elt (.ref D) ce)
      (emH := fun σ2 H3 Nx => te σ2 H3 (tInto X.w D Nx)) (fun _ z => wiped z) hc T stat pg pt emS_ok (turn_s1 _ _ _) ?_ ?_ ?_ ?_ I4 st4 (fun b hb => (f3 b hb).1.1) w0
    · exact turn
    · intro Y Y' s h k
      exact wpAny_mono h (fun x s1 h1 => wpAny_mono h1 (fun _ s2 h2 => k _ h2) fun _ _ z => z) fun _ _ z => z
    · intro σ2 H4 Nx s pl I' hk q2
      exact into_ok pe I' hk q2
    · intro s6 H5 I6 qq
      have I7 : Inv X pins σ H5 s6 := I3.call' (ch := fp) I6.os I6.base I6.hok I6.bare fun b hb => ⟨(f3 b hb).1.2.2.2.1, (f3 b hb).1.2.1, (f3 b hb).1.2.2.2.2.1, (f3 b hb).1.2.2.2.2.2⟩
      have nC : H5 s3.heap.objs.size = none := by
        rw [← cL]
        exact I6.free
      obtain ⟨m, hn, _⟩ := I6.loc
      have hn : s6.heap.Ns ce.locals m := hn
      rw [cL] at hn
      exact hRR D s3.heap.objs.size s6 m H5 I7 qq hn (I3.fpOk (Nat.le_refl _) nC)
  exact start_any rfl rfl loop (T.self X.A 0 _ _ _ st4 loop)
theorem pe_sx1 (hc : X.calm = true) (hN : X.N.Nodup) (hi : PI X tg iter wi) (ok : BlkOk X.N X.env.scope scope own) (hg : ∀ (s : Shared) (H : Hp) (C : Addr) (cl : List (Str × Addr)) (fp : List Addr), PG (X.blk s H scope (compEnvC scope cl C X.env) fp) tg g)
    (ht : ∀ (s : Shared) (H : Hp) (C : Addr) (cl : List (Str × Addr)) (fp : List Addr), PTs (X.blk s H scope (compEnvC scope cl C X.env) fp) ifs tt)
    (he : ∀ (s : Shared) (H : Hp) (C : Addr) (cl : List (Str × Addr)) (fp : List Addr), PE (X.blk s H scope (compEnvC scope cl C X.env) fp) elt te) (hs : ∀ x, foldedSetIterable iter X.env x = pure x := by intro _; rfl) :
    PE X (.SetComp elt [⟨tg, iter, ifs, 0⟩] scope pos) (tSx X.w wi g tt te (own.map (·.2))) := by
  refine ⟨fun pins s σ H Q I h => ?_⟩
  rw [PpSet.eval_SetComp]
  refine sx1_core hc hN I hi ok hg ht he hs h fun D C s' m H' I' q hn ⟨f0, f1, f2, f3, f4, f5⟩ => ⟨m, hn, fun h'' sb => ?_⟩
  exact ⟨.ref D, H', I'.turned (t' := s'.toks) (fun b o hb e => (sb.2 b hb).trans e) f0 f1 f3 f4 f5, rfl, q⟩
/-- over a tuple that stays -/
theorem goes_tup {K : PySem.W.Frag} {a : Addr} {xs : List V} {H0 : Hp} {Z : Hp → Prop} {step : V → Hp → (Hp → Prop) → Prop} (Pv : Nat → Hp → Prop) (h0 : Pv 0 H0) (hl : ∀ i H, Pv i H → SqT K H a xs) (hs : ∀ i x H, xs[i]? = some x → Pv i H → step x H (Pv (i + 1))) (hd : ∀ H, Pv xs.length H → Z H) :
    ∃ W : Nat → Nat → Hp → Prop, (∃ m, W 0 m H0) ∧ goes (Itt K a) W Z step := by
  refine ⟨fun i m H => m = xs.length - i ∧ i ≤ xs.length ∧ Pv i H, ⟨_, rfl, Nat.zero_le _, h0⟩, ?_⟩
  rintro i m H ⟨rfl, hi, p⟩
  have q := hl i H p
  rcases Nat.lt_or_ge i xs.length with hlt | hge
  · refine .inr ⟨⟨xs, xs[i], q, by simp [hlt]⟩, Pv (i + 1), fun H' p' => ⟨xs.length - (i + 1), by omega, rfl, hlt, p'⟩, fun x H' y => ?_⟩
    obtain ⟨rfl, y⟩ := y
    exact hs i x _ (y xs q) p
  · obtain rfl : i = xs.length := by omega
    exact .inl ⟨⟨xs, q, Nat.le_refl _⟩, hd H p⟩
end
end OM

namespace OM
open PySem PySem.Spec PyProof.Rows L2
/-- the text of a value -/
def txV : Value → Str
  | .str x _ => x
  | _ => ""
theorem strs_txV : ∀ (l : List Value), (∀ v ∈ l, ∃ x tk, v = Value.str x tk) → StrsAre l (l.map txV)
  | [], _ => .nil
  | v :: l, h => by
    obtain ⟨x, tk, rfl⟩ := h v List.mem_cons_self
    exact .cons x tk (strs_txV l fun u hu => h u (List.mem_cons_of_mem _ hu))
section
variable {P : Program} {w : World} {A : Around} {E : Value → Shared → Prop} {s : Shared} {a : Addr} {L : List Str}
theorem sorted_tx {Q : Value → Shared → Prop} (R : SetTx w s.heap a L) (hh : A.handled = none)
    (fin : ∀ s' p (out : Array Value) (c : Nat) (ys : List Str), (∀ b o, s.heap.get? b = some o → s'.heap.get? b = some o) → s'.gens = s.gens → s'.os = s.os → s.heap.objs.size ≤ p → s'.heap.get? p = some (seqObj "list" out c) → StrsAre out.toList ys → ys.Perm L → sortedS ys = true → Q (.ref p) s') :
    wpAny (model P w) A (call (.builtin "sorted") [.ref a]) Q E s := by
  obtain ⟨o, es, ep, t, at_, hex, hd, T⟩ := R
  refine Calls.call_function_entry kind_sorted plain_sorted entry_sorted (args_sorted1 _) ?_
  unfold Builtin.«sorted»
  refine wpAny_bind (m := checkCount "sorted" 1 1 _) (wpAny_pure ?_)
  refine wpAny_bind <| collect_set (A := A.in1) hh ⟨o, at_, hex.1, hd⟩ T.fit T.bound T.ris T.led fun s1 vs k1 hz g1 o1 pm => ?_
  have vl : vs.length = L.length := by rw [pm.length_eq, List.length_map, Array.length_toList, T.size]
  have S : StrsAre vs (vs.map txV) := strs_txV vs fun v hv => by
    obtain ⟨e, he, q⟩ := List.mem_map.mp (pm.mem_iff.mp hv)
    obtain ⟨x, tk, h1⟩ := T.tx e he
    exact ⟨x, tk, by rw [← q, h1]⟩
  have pk : (vs.map txV).Perm L := by
    have q := pm.map txV
    rw [List.map_map] at q
    refine q.trans ?_
    have e : es.toList.map (txV ∘ (·.2)) = es.toList.map keyT := List.map_congr_left fun e he => by
      obtain ⟨x, tk, rfl⟩ := T.tx e he
      rfl
    rw [e]
    exact T.pm
  have line : vs.length ≤ sizeLine := by
    rw [vl]
    exact fits_of_scanBound T.few
  refine wpAny_bind (wpAny_newList ?_ line)
  have new : (s1.heap.push (seqObj "list" vs.toArray 0)).get? s1.heap.objs.size = some (seqObj "list" vs.toArray 0) := Heap.get?_push_size _ rfl
  refine wpAny_bind <| wpAny_holding <| wpAny_call_entry slot_list_sort ⟨_, new, rfl⟩ entry_list_sort (list_sort_treeKAny strKind_oneLt new S.keysOf (fun v₁ v₂ rest e => keyKind_strs (by rw [← e]; exact S)) line fun st' hp hs => ⟨_, rfl, ?_⟩) (args_list_sort _)
  obtain ⟨ys, q1, q2, q3⟩ := sorted_out_str S hp hs
  obtain ⟨c, hc⟩ := sortedHeap_at (vs := vs) (out := (arrOf st').map (·.2)) new
  refine wpAny_pure ⟨_, rfl, fin _ s1.heap.objs.size _ c ys (fun b u e => ?_) g1 o1 hz hc q1 (q2.trans pk) q3⟩
  have z := k1 b u e
  have lt := Heap.lt_size z
  exact (sortedHeap_old (Nat.ne_of_lt lt) (by rw [size_push']; exact Nat.lt_succ_of_lt lt)).trans (Heap.get?_push_of_some _ z)
end
section
variable {X : Cx}
/-- sorted(a set of texts) -/
def rSortX (w : World) : List V → Hp → VK → Prop := fun vs H Q => ∃ (a : Addr) (L : List Str), vs = [V.ref a] ∧ H a = some (SetTO w a L) ∧ ∀ (ys : List Str) (p : Addr), ys.Perm L → sortedS ys = true → H p = none → Q (.ref p) (upd H p (.lst (ys.map V.str)))
theorem cr_sortX (hc : X.calm = true) : CallR X (.builtin "sorted") (rSortX X.w) := by
  intro pins s σ H vs us Q I r h
  obtain ⟨a, L, rfl, ha, q⟩ := h
  have R := txo_get I ha
  have few : L.length < scanBound := by
    obtain ⟨_, _, _, _, _, _, _, T⟩ := R
    exact T.few
  rw [Vals.ref1 r]
  refine sorted_tx R (I.ok.hd hc) fun s' p out c ys k g o hp hg hi pm so => ?_
  have len : (ys.map V.str).length ≤ sizeLine := by
    rw [List.length_map, pm.length_eq]
    exact fits_of_scanBound few
  have hn : H p = none := I.hok.fresh hp
  have J : Inv X pins σ (upd H p (.lst (ys.map V.str))) { s with heap := s'.heap, gens := s'.gens, drawn := s'.drawn, toks := s'.toks } := I.call (ch := []) (Un.laid k hp hn) (I.hok.laid k hp ⟨len, out.toList, c, vals_of_strs hi, hg⟩) (by rw [g]; exact I.bare) (fun _ z => nomatch z)
  have e : s' = { s with heap := s'.heap, gens := s'.gens, drawn := s'.drawn, toks := s'.toks } := by
    cases s'
    cases s
    cases o
    rfl
  rw [e]
  exact ⟨.ref p, _, J, rfl, q ys p pm so hn⟩
end
end OM

namespace OM
open PySem PySem.Spec PyProof.Rows L2
def firsts (L : List Str) (xs : List Str) : List Str := xs.foldl addX L
theorem mem_addX {L : List Str} {x y : Str} : y ∈ addX L x ↔ y ∈ L ∨ y = x := by
  unfold addX
  split
  · rename_i h
    exact ⟨.inl, fun z => z.elim id fun e => e ▸ h⟩
  · rw [List.mem_cons]
    exact Or.comm
theorem len_addX (L : List Str) (x : Str) : (addX L x).length ≤ L.length + 1 := by
  unfold addX
  split
  · exact Nat.le_succ _
  · exact Nat.le_refl _
theorem nodup_addX {L : List Str} (h : L.Nodup) (x : Str) : (addX L x).Nodup := by
  unfold addX
  split
  · exact h
  · exact List.nodup_cons.mpr ⟨by assumption, h⟩
theorem mem_firsts {y : Str} : ∀ {xs L : List Str}, y ∈ firsts L xs ↔ y ∈ L ∨ y ∈ xs
  | [], L => by simp [firsts]
  | x :: r, L => by
    show y ∈ firsts (addX L x) r ↔ _
    rw [mem_firsts, mem_addX, List.mem_cons, or_assoc]
theorem len_firsts : ∀ (xs L : List Str), (firsts L xs).length ≤ L.length + xs.length
  | [], L => Nat.le_refl _
  | x :: r, L => by
    have h1 := len_firsts r (addX L x)
    have h2 := len_addX L x
    show (firsts (addX L x) r).length ≤ L.length + (r.length + 1)
    omega
theorem nodup_firsts : ∀ (xs : List Str) {L : List Str}, L.Nodup → (firsts L xs).Nodup
  | [], _, h => h
  | x :: r, _, h => nodup_firsts r (nodup_addX h x)
section
variable {P : Program} {w : World} {A : Around} {I : Addr} {fp wr : List Addr} {G : Array GenState → Array GenState → Prop} {n : Nat} {Pv : Nat → Value → Prop} {St : Nat → Shared → Prop} {R : Result → Shared → Prop}
/-- the loop of set.update over texts -/
theorem update_tx (W : WalksS P w A.in1 I fp wr G n Pv St) (S : Addr) (apart : S ∉ fp) (xs : List Str) (hn : xs.length = n) (val : ∀ i v, Pv i v → ∃ t, v = .str (xs.getD i Str.empty) t) : ∀ (k i : Nat) (s : Shared) (L : List Str), n - i = k → i ≤ n → St i s → SetTx w s.heap S L → L.length + k < scanBound →
    (∀ s', Moved (S :: wr) G s s' → SetTx w s'.heap S (firsts L (xs.drop i)) → R (.ok (.ret .none)) s') → codeAny (model P w) A (.builtin "set.update.loop" ⟨[.ref S, .ref I], []⟩) R s := by
  have nw : S ∉ wr := fun h => apart (W.sub _ h)
  have wider : ∀ b ∈ wr, b ∈ S :: wr := fun b hb => List.mem_cons_of_mem _ hb
  intro k
  induction k with
  | zero =>
    intro i s L hk hi st hS room fin
    obtain rfl : i = n := by omega
    refine codeAny_builtin F.entry_set_update_loop ?_
    rw [Around.under_plainId F.plain_set_update_loop _]
    show wpAny _ A.in1 (pyNext (.ref I) >>= _) _ _ s
    refine wpAny_bind <| W.done s _ _ st fun s' hm => ?_
    show wpAny _ A.in1 (ret Value.none) _ _ s'
    refine wpAny_pure <| fin s' (hm.mono wider) ?_
    rw [← hn, List.drop_length]
    exact hS.mv fun o e => hm.heap S o nw e
  | succ k ih =>
    intro i s L hk hi st hS room fin
    have lt : i < n := by omega
    refine codeAny_builtin F.entry_set_update_loop ?_
    rw [Around.under_plainId F.plain_set_update_loop _]
    show wpAny _ A.in1 (pyNext (.ref I) >>= _) _ _ s
    refine wpAny_bind <| W.item i s _ _ lt st fun v s' hP st' hm => ?_
    obtain ⟨tk, rfl⟩ := val i v hP
    have hS' : SetTx w s'.heap S L := hS.mv fun o e => hm.heap S o nw e
    have hx : xs.drop i = xs.getD i Str.empty :: xs.drop (i + 1) := by
      have h1 : i < xs.length := by omega
      rw [List.getD_eq_getElem?_getD, List.getElem?_eq_getElem h1]
      exact List.drop_eq_getElem_cons h1
    rw [hx] at fin
    revert fin
    generalize xs.getD i Str.empty = x
    intro fin
    show wpAny _ A.in1 (holding [Value.str x tk] (setAdd S (.str x tk)) >>= _) _ _ s'
    refine wpAny_bind <| wpAny_holding ?_
    unfold setAdd
    refine wpAny_holding <| wpAny_bind <| (strKind P w).pyHash (k := x) (beq_self_eq_true x) ?_
    refine tx_hashed (s := { s' with toks := s'.toks + 1 }) hS' (by omega) fun b h' sb r => ?_
    have la := len_addX L x
    refine wpAny_pure ⟨plainId_quiet F.plain_set_update_loop _, ih (i + 1) _ (addX L x) (by omega) lt (W.frame _ s' _ _ st' (Nat.le_succ _) fun b hb o e => ?_) r (by omega) fun s'' hm'' r'' => fin s'' (Moved.trans W.gtrans ((hm.mono wider).then_heap (Nat.le_succ _) fun b o hb e => ?_) hm'') r''⟩
    · exact (sb.2 b fun z => apart (by rw [← z]; exact hb)).trans e
    · exact (sb.2 b fun z => hb (by rw [z]; exact List.mem_cons_self)).trans e
end
end OM

namespace OM
open PySem PySem.Spec PyProof.Rows L2
abbrev blankSet (w : World) : Obj := { cls := .type "set", dict := none, data := .set #[] 0 (.fresh 0 0 (!w.params.followText "set-order")) }
section
variable {P : Program} {w : World} {A : Around} {E : Value → Shared → Prop} {s : Shared}
/-- set(x), by what its __init__ makes of the blank set -/
theorem set_made {x : Value} {Q : Value → Shared → Prop} {Z : Shared → Prop}
    (hT : codeAny (model P w) A.in1 (.call (.builtin "set.__init__") ⟨[.ref s.heap.objs.size, x], []⟩) (wants (fun r s2 => r = .none ∧ Z s2) E) { s with heap := s.heap.push (blankSet w) })
    (fin : ∀ s2, Z s2 → Q (.ref s.heap.objs.size) s2) : wpAny (model P w) A (call (.type "set") [x]) Q E s := by
  obtain ⟨c, tl, hmro⟩ := F.called_set.mro
  have f1 := F.called_set.made
  have f2 := F.called_set.sub
  refine wpAny_call <| codeAny_of_tree ?_
  show wpAny _ _ (callAny (.type "set") _) _ _ _
  refine wpAny_pure ⟨Code.quiet_builtin _ (by decide +kernel), codeAny_builtin F.entry_type_call ?_⟩
  rw [Around.under_plain (weight_type_call_type "set" [x] []) rfl]
  have f3 := F.called_set.notType
  have f4 := F.called_set.canCreate
  have f5 := F.typeCall_set_1 x
  repeat (any_goals (first | assumption | wp_step))
  refine codeAny_mono (code_set_led1 x (E := E) (Q₁ := fun obj s1 => obj = .ref s.heap.objs.size ∧ s1 = { s with heap := s.heap.push (blankSet w) }) ⟨rfl, rfl⟩) fun r s1 hr => ?_
  cases r with
  | error e => exact hr
  | ok fl =>
    cases fl with
    | ret obj =>
      obtain ⟨rfl, rfl⟩ := hr
      have at_ : (s.heap.push (blankSet w)).get? s.heap.objs.size = some (blankSet w) := Heap.get?_push_size _ rfl
      have ty : Shared.TypeIs { s with heap := s.heap.push (blankSet w) } (.ref s.heap.objs.size) "set" := ⟨_, at_, rfl⟩
      have f6 := F.called_set.init.lookup
      have f7 := F.called_set.init.bind (.ref s.heap.objs.size)
      repeat (any_goals (first | assumption | wp_step))
      refine codeAny_mono hT fun r2 s2 hr2 => ?_
      cases r2 with
      | error e => exact hr2
      | ok fl2 =>
        cases fl2 with
        | ret r =>
          obtain ⟨rfl, z⟩ := hr2
          have q := fin s2 z
          repeat (any_goals (first | assumption | wp_step))
        | _ => exact hr2.elim
    | _ => exact hr.elim
/-- set(xs), xs a list or a tuple of texts -/
theorem set_list {l : Addr} {items : Array Value} {xs : List Str} {Q : Value → Shared → Prop} (hh : A.handled = none) (hl : s.heap.IsList l items) (hi : StrsAre items.toList xs) (few : xs.length < scanBound)
    (fin : ∀ (h' : Heap) (tk : Nat), SetTx w h' s.heap.objs.size (firsts [] xs) → (∀ b o, b < s.heap.objs.size → s.heap.get? b = some o → h'.get? b = some o) → Q (.ref s.heap.objs.size) { s with heap := h', toks := tk }) : wpAny (model P w) A (call (.type "set") [.ref l]) Q E s := by
  refine set_made (Z := fun s2 => ∃ h' tk, s2 = { s with heap := h', toks := tk } ∧ SetTx w h' s.heap.objs.size (firsts [] xs) ∧ ∀ b o, b < s.heap.objs.size → s.heap.get? b = some o → h'.get? b = some o) ?_ fun s2 ⟨h', tk, e, a, b⟩ => by rw [e]; exact fin h' tk a b
  have at_ : (s.heap.push (blankSet w)).get? s.heap.objs.size = some (blankSet w) := Heap.get?_push_size _ rfl
  have ty : Shared.TypeIs { s with heap := s.heap.push (blankSet w) } (.ref s.heap.objs.size) "set" := ⟨_, at_, rfl⟩
  have hl1 : (s.heap.push (blankSet w)).IsList l items := hl.push _
  have size : (s.heap.push (blankSet w)).objs.size = s.heap.objs.size + 1 := Heap.size_push ..
  obtain ⟨ol, hol, hcl, nl, hdl⟩ := hl
  have lt := Heap.lt_size hol
  obtain ⟨ocls, odict, odata, oslots⟩ := ol
  simp only at hcl hdl
  subst hcl
  subst hdl
  have hol' : (s.heap.push (blankSet w)).get? l = some { cls := .type "list", dict := odict, data := .seq items nl, slots := oslots } := Heap.get?_push_of_some _ hol
  have g1 := F.sub_list_set
  have g2 := F.sub_list_frozenset
  have g3 : (Value.type "list" == Value.type "dict") = false := by decide
  refine codeAny_call_builtin F.called_set.init.plain F.entry_set_init (check_set_init_1 ty ?_)
  unfold Builtin.«set.__init__» noKeywords Builtin.Frozenset.updateFrom
  generalize iter : pyIter = it0
  wp_walk
  subst iter
  refine wpAny_pyIter_list hl1 <| wpAny_bind <| wpAny_runValue ?_
  have n1 : l ≠ (s.heap.push (blankSet w)).objs.size := by
    rw [Heap.size_push]
    exact Nat.ne_of_lt (Nat.lt_succ_of_lt lt)
  have n2 : s.heap.objs.size ∉ [(s.heap.push (blankSet w)).objs.size, l] := by
    rw [Heap.size_push]
    simp only [List.mem_cons, List.not_mem_nil, or_false, not_or]
    exact ⟨Nat.ne_of_lt (Nat.lt_succ_self _), Nat.ne_of_gt lt⟩
  have sz : xs.length = items.size := by rw [← StrsAre.len_eq hi, Array.length_toList]
  refine update_tx ((Walks.list (by simp [hh]) _ l n1 items).toS) s.heap.objs.size n2 xs sz (fun i v hv => SS.strs_at hi i v (by rw [Array.getElem?_toList]; exact hv)) (items.size - 0) 0 _ [] (by omega) (Nat.zero_le _) ⟨⟨_, Heap.get?_push_size _ rfl, rfl, rfl⟩, hl1.push _⟩ ?_ (by rw [← sz]; simpa using few) fun s' hm r => ?_
  · exact (tx_fresh (h := s.heap) w).mv fun o e => Heap.get?_push_of_some _ e
  · obtain ⟨h', g', d', tk', os'⟩ := s'
    obtain rfl : g' = s.gens := hm.gens
    obtain rfl : d' = s.drawn := hm.drawn
    obtain rfl : os' = s.os := hm.os
    show wpAny _ _ _ _ _ _
    refine wpAny_pure ?_
    show wpAny _ _ (ret Value.none) _ _ _
    refine wpAny_pure ⟨rfl, h', tk', rfl, r, fun b o hb e => hm.heap b o ?_ (Heap.get?_push_of_some _ (Heap.get?_push_of_some _ e))⟩
    rw [Heap.size_push]
    simp only [List.mem_cons, List.not_mem_nil, or_false, not_or]
    exact ⟨Nat.ne_of_lt hb, Nat.ne_of_lt (Nat.lt_succ_of_lt hb)⟩
theorem set_tuple {l : Addr} {items : Array Value} {xs : List Str} {Q : Value → Shared → Prop} (hh : A.handled = none) (hl : s.heap.IsTuple l items) (hi : StrsAre items.toList xs) (few : xs.length < scanBound)
    (fin : ∀ (h' : Heap) (tk : Nat), SetTx w h' s.heap.objs.size (firsts [] xs) → (∀ b o, b < s.heap.objs.size → s.heap.get? b = some o → h'.get? b = some o) → Q (.ref s.heap.objs.size) { s with heap := h', toks := tk }) : wpAny (model P w) A (call (.type "set") [.ref l]) Q E s := by
  refine set_made (Z := fun s2 => ∃ h' tk, s2 = { s with heap := h', toks := tk } ∧ SetTx w h' s.heap.objs.size (firsts [] xs) ∧ ∀ b o, b < s.heap.objs.size → s.heap.get? b = some o → h'.get? b = some o) ?_ fun s2 ⟨h', tk, e, a, b⟩ => by rw [e]; exact fin h' tk a b
  have at_ : (s.heap.push (blankSet w)).get? s.heap.objs.size = some (blankSet w) := Heap.get?_push_size _ rfl
  have ty : Shared.TypeIs { s with heap := s.heap.push (blankSet w) } (.ref s.heap.objs.size) "set" := ⟨_, at_, rfl⟩
  have hl1 : (s.heap.push (blankSet w)).IsTuple l items := hl.push _
  have size : (s.heap.push (blankSet w)).objs.size = s.heap.objs.size + 1 := Heap.size_push ..
  obtain ⟨ol, hol, hcl, nl, hdl⟩ := hl
  have lt := Heap.lt_size hol
  obtain ⟨ocls, odict, odata, oslots⟩ := ol
  simp only at hcl hdl
  subst hcl
  subst hdl
  have hol' : (s.heap.push (blankSet w)).get? l = some { cls := .type "tuple", dict := odict, data := .seq items nl, slots := oslots } := Heap.get?_push_of_some _ hol
  have g1 := F.sub_tuple_set
  have g2 := F.sub_tuple_frozenset
  have g3 : (Value.type "tuple" == Value.type "dict") = false := by decide
  refine codeAny_call_builtin F.called_set.init.plain F.entry_set_init (check_set_init_1 ty ?_)
  unfold Builtin.«set.__init__» noKeywords Builtin.Frozenset.updateFrom
  generalize iter : pyIter = it0
  wp_walk
  subst iter
  refine wpAny_pyIter_tuple hl1 <| wpAny_bind <| wpAny_runValue ?_
  have n1 : l ≠ (s.heap.push (blankSet w)).objs.size := by
    rw [Heap.size_push]
    exact Nat.ne_of_lt (Nat.lt_succ_of_lt lt)
  have n2 : s.heap.objs.size ∉ [(s.heap.push (blankSet w)).objs.size, l] := by
    rw [Heap.size_push]
    simp only [List.mem_cons, List.not_mem_nil, or_false, not_or]
    exact ⟨Nat.ne_of_lt (Nat.lt_succ_self _), Nat.ne_of_gt lt⟩
  have sz : xs.length = items.size := by rw [← StrsAre.len_eq hi, Array.length_toList]
  refine update_tx ((Walks.tuple (by simp [hh]) _ l n1 items).toS) s.heap.objs.size n2 xs sz (fun i v hv => SS.strs_at hi i v (by rw [Array.getElem?_toList]; exact hv)) (items.size - 0) 0 _ [] (by omega) (Nat.zero_le _) ⟨⟨_, Heap.get?_push_size _ rfl, rfl, rfl⟩, hl1.push _⟩ ?_ (by rw [← sz]; simpa using few) fun s' hm r => ?_
  · exact (tx_fresh (h := s.heap) w).mv fun o e => Heap.get?_push_of_some _ e
  · obtain ⟨h', g', d', tk', os'⟩ := s'
    obtain rfl : g' = s.gens := hm.gens
    obtain rfl : d' = s.drawn := hm.drawn
    obtain rfl : os' = s.os := hm.os
    show wpAny _ _ _ _ _ _
    refine wpAny_pure ?_
    show wpAny _ _ (ret Value.none) _ _ _
    refine wpAny_pure ⟨rfl, h', tk', rfl, r, fun b o hb e => hm.heap b o ?_ (Heap.get?_push_of_some _ (Heap.get?_push_of_some _ e))⟩
    rw [Heap.size_push]
    simp only [List.mem_cons, List.not_mem_nil, or_false, not_or]
    exact ⟨Nat.ne_of_lt hb, Nat.ne_of_lt (Nat.lt_succ_of_lt hb)⟩
end
section
variable {X : Cx}
/-- set(xs), xs a list or a tuple of texts -/
def rSetX (K : PySem.W.Frag) (w : World) : List V → Hp → VK → Prop := fun vs H Q => ∃ (l : Addr) (xs : List Str), vs = [V.ref l] ∧ (SqL K H l (xs.map V.str) ∨ SqT K H l (xs.map V.str)) ∧ xs.length < scanBound ∧ ∀ p, H p = none → Q (.ref p) (upd H p (SetTO w p (firsts [] xs)))
theorem cr_setX (hc : X.calm = true) : CallR X (.type "set") (rSetX X.K X.w) := by
  intro pins s σ H vs us Q I r h
  obtain ⟨l, xs, rfl, hq, few, q⟩ := h
  rw [Vals.ref1 r]
  have hn : H s.heap.objs.size = none := I.hok.fresh (Nat.le_refl _)
  have fin : ∀ (h' : Heap) (tk : Nat), SetTx X.w h' s.heap.objs.size (firsts [] xs) → (∀ b o, b < s.heap.objs.size → s.heap.get? b = some o → h'.get? b = some o) → EP X pins σ Q (.ref s.heap.objs.size) { s with heap := h', toks := tk } := fun h' tk R k =>
    ⟨.ref s.heap.objs.size, upd H s.heap.objs.size (SetTO X.w s.heap.objs.size (firsts [] xs)), I.laid (t' := tk) (fun b o e => k b o (Heap.lt_size e) e) (Nat.le_refl _) (txo_new R), rfl, q _ hn⟩
  rcases hq with hq | hq
  · obtain ⟨its, rv, pl, hz⟩ := I.list hq
    exact set_list (I.ok.hd hc) pl.isList (by simpa using rv.strs) few fin
  · obtain ⟨its, rv, pl, hz⟩ := I.tuple hq
    exact set_tuple (I.ok.hd hc) pl (by simpa using rv.strs) few fin
/-- len of a set of texts -/
def rLenX (w : World) : List V → Hp → VK → Prop := fun vs H Q => ∃ (a : Addr) (L : List Str), vs = [V.ref a] ∧ H a = some (SetTO w a L) ∧ Q (.int L.length) H
theorem cr_lenX : CallR X (.builtin "len") (rLenX X.w) := by
  intro pins s σ H vs us Q I r h
  obtain ⟨a, L, rfl, ha, q⟩ := h
  rw [Vals.ref1 r]
  obtain ⟨o, es, ep, t, ho, hex, hd, T⟩ := txo_get I ha
  have hf : (es.size : Int) < 2 ^ 63 := by
    have h1 := T.bound
    have h2 : scanBound < 2 ^ 62 := by decide
    omega
  refine call_len_set ho hex hd T.fit hf ⟨.int L.length, H, I.tok _, ⟨_, by rw [T.size]⟩, q⟩
end
end OM

namespace OM
open PySem PySem.Spec PyProof.Rows L2
def leS (a b : Str) : Prop := ltCps b.cps.toList a.cps.toList = false
theorem leS_iff {a b : Str} : leS a b ↔ a.cps.toList ≤ b.cps.toList := by
  unfold leS
  rw [ltCps_eq, decide_eq_false_iff_not, List.not_lt]
theorem leS_trans {a b c : Str} (h : leS a b) (k : leS b c) : leS a c := leS_iff.mpr (List.le_trans (leS_iff.mp h) (leS_iff.mp k))
theorem leS_anti {a b : Str} (h : leS a b) (k : leS b a) : a = b := by
  have e := List.le_antisymm (leS_iff.mp h) (leS_iff.mp k)
  cases a with
  | mk x =>
    cases b with
    | mk y =>
      have : x = y := Array.ext' e
      rw [this]
theorem pair_of_rising : ∀ {p : Str} {l : List Str}, risingS p l = true → (p :: l).Pairwise leS
  | p, [], _ => List.pairwise_singleton _ _
  | p, x :: r, h => by
    have h : (!ltCps x.cps.toList p.cps.toList && risingS x r) = true := h
    obtain ⟨h1, h2⟩ := Bool.and_eq_true_iff.mp h
    have ih := pair_of_rising h2
    have hp : leS p x := by
      unfold leS
      simpa using h1
    refine List.pairwise_cons.mpr ⟨fun y hy => ?_, ih⟩
    rcases List.mem_cons.mp hy with rfl | hy
    · exact hp
    · exact leS_trans hp ((List.pairwise_cons.mp ih).1 y hy)
theorem pair_of_sorted {l : List Str} (h : sortedS l = true) : l.Pairwise leS := by
  cases l with
  | nil => exact List.Pairwise.nil
  | cons x r => exact pair_of_rising h
theorem sorted_uniq {xs ys : List Str} (h : sortedS xs = true) (k : sortedS ys = true) (p : xs.Perm ys) : xs = ys :=
  p.eq_of_pairwise (fun _ _ _ _ => leS_anti) (pair_of_sorted h) (pair_of_sorted k)
/-- the names of l, each once, ascending -/
def IsSet (ys l : List Str) : Prop := sortedS ys = true ∧ ys.Perm (firsts [] l)
theorem firsts_perm {l k : List Str} (h : ∀ x, x ∈ l ↔ x ∈ k) : (firsts [] l).Perm (firsts [] k) :=
  (List.perm_ext_iff_of_nodup (nodup_firsts _ List.nodup_nil) (nodup_firsts _ List.nodup_nil)).mpr fun x => by
    rw [mem_firsts, mem_firsts, h x]
theorem IsSet.uniq {xs ys l k : List Str} (h : IsSet xs l) (h2 : IsSet ys k) (e : ∀ x, x ∈ l ↔ x ∈ k) : xs = ys := sorted_uniq h.1 h2.1 ((h.2.trans (firsts_perm e)).trans h2.2.symm)
theorem IsSet.mem {ys l : List Str} (h : IsSet ys l) {x : Str} : x ∈ ys ↔ x ∈ l := by
  rw [h.2.mem_iff, mem_firsts]
  simp
noncomputable def theOne (p : List Str → Prop) : List Str := open Classical in if h : ∃ ys, p ys then Classical.choose h else []
/-- the set of names of l, written down -/
noncomputable def canon (l : List Str) : List Str := theOne fun ys => IsSet ys l
theorem IsSet.canon {ys l : List Str} (h : IsSet ys l) : ys = canon l := by
  unfold OM.canon theOne
  rw [dif_pos ⟨ys, h⟩]
  exact h.uniq (Classical.choose_spec (⟨ys, h⟩ : ∃ ys, IsSet ys l)) fun _ => Iff.rfl
theorem canon_congr {l k : List Str} (h : ∀ x, x ∈ l ↔ x ∈ k) : canon l = canon k :=
  congrArg theOne (funext fun ys => propext ⟨fun z => ⟨z.1, z.2.trans (firsts_perm h)⟩, fun z => ⟨z.1, z.2.trans (firsts_perm h).symm⟩⟩)
end OM

namespace OM
open PySem PySem.Spec PyProof.Rows L2
def rTupO (K : PySem.W.Frag) : List V → Hp → VK → Prop := fun xs H Q => ∃ p ys, xs = [.ref p] ∧ ((SqL K H p ys ∧ ∀ l, H l = none → Q (.ref l) (upd H l (.tup ys))) ∨ (SqT K H p ys ∧ Q (.ref p) H))
def strT (l : List Str) : PyData := .tuple (l.map PyData.str)
theorem dt_strL {S : Addr → Prop} {H : Hp} : ∀ {xs : List V} {l : List Str}, DtAll S H xs (l.map PyData.str) → xs = l.map V.str
  | [], [], _ => rfl
  | x :: xs, a :: l, h => by
    cases h with
    | cons h r =>
      rw [dt_strL r]
      cases h with
      | «at» a => cases a <;> rfl
theorem dt_str1 {S : Addr → Prop} {H : Hp} {v : V} {x : Str} (h : Dt S H v (.str x)) : v = .str x := by
  cases h with
  | «at» a => cases a <;> rfl
theorem dt_ofStrs {S : Addr → Prop} {H : Hp} : ∀ l : List Str, DtAll S H (l.map V.str) (l.map PyData.str)
  | [] => .nil
  | x :: l => .cons (.at (.str x)) (dt_ofStrs l)
end OM

namespace OM
open PySem PySem.Spec PyProof.Rows L2 VL
abbrev sAtoms : Stmt := top 31
/-- over two lists side by side that stay -/
theorem goes_zip {K : PySem.W.Frag} {a b : Addr} {xs ys : List V} {H0 : Hp} {Z : Hp → Prop} {step : V → Hp → (Hp → Prop) → Prop} (hlen : xs.length = ys.length) (Pv : Nat → Hp → Prop) (h0 : Pv 0 H0) (hl : ∀ i H, Pv i H → SqL K H a xs ∧ SqL K H b ys)
    (hs : ∀ i x y T H, xs[i]? = some x → ys[i]? = some y → Pv i H → H T = none → step (.ref T) (upd H T (.tup [x, y])) (Pv (i + 1))) (hd : ∀ H, Pv xs.length H → Z H) : ∃ W : Nat → Nat → Hp → Prop, (∃ m, W 0 m H0) ∧ goes (Itz K a b) W Z step := by
  refine ⟨fun i m H => m = xs.length - i ∧ i ≤ xs.length ∧ Pv i H, ⟨_, rfl, Nat.zero_le _, h0⟩, ?_⟩
  rintro i m H ⟨rfl, hi, p⟩
  obtain ⟨qx, qy⟩ := hl i H p
  rcases Nat.lt_or_ge i xs.length with hlt | hge
  · have hx : xs[i]? = some xs[i] := List.getElem?_eq_getElem hlt
    have hy : ys[i]? = some (ys[i]'(by omega)) := List.getElem?_eq_getElem (by omega)
    refine .inr ⟨⟨xs, ys, _, _, qx, qy, hx, hy⟩, Pv (i + 1), fun H' p' => ⟨xs.length - (i + 1), by omega, rfl, hlt, p'⟩, fun v H' y => ?_⟩
    obtain ⟨T, x', y', rfl, hT, rfl, f1, f2⟩ := y
    exact hs i x' y' T H (f1 xs qx) (f2 ys qy) p hT
  · obtain rfl : i = xs.length := by omega
    exact .inl ⟨⟨xs, ys, qx, qy, .inl (Nat.le_refl _)⟩, hd H p⟩
theorem firsts_snoc (l : List Str) (z : Str) : firsts [] (l ++ [z]) = addX (firsts [] l) z := by
  unfold firsts
  rw [List.foldl_append]
  rfl
def atomsD : PyData → List Str
  | .str x => (atomsT x.cps.toList).map S
  | _ => []
def spAtoms (cV : Addr) : Sp := fun vs H Q E => ∃ (S0 : Addr → Prop) (v : V) (d : PyData), vs = [v] ∧ Dt S0 H v d ∧ smlD d = true ∧ shortD d = true ∧
  ((isValD d = false ∧ OutN E cV H) ∨ (isValD d = true ∧ ∀ H' b ys, Same H H' → H b = none → H' b = some (.tup (ys.map V.str)) → IsSet ys (atomsD d) → Q (.ref b) H'))
theorem kd_atom (k : Kd) : decide (V.str (kdS k) = V.str "atom") = decide (k = Kd.at) := by cases k <;> decide +kernel
/-- the names and unknowns among the first words and signs -/
def aT (l : List Nat) (i : Nat) : List Str := ((((toks [] l).zip (KS l)).take i).filter fun p => decide (p.2 = Kd.at)).map fun p => S p.1
theorem aT_next {l : List Nat} {i : Nat} {p : List Nat} {k : Kd} (h1 : (toks [] l)[i]? = some p) (h2 : (KS l)[i]? = some k) : aT l (i + 1) = if k = Kd.at then aT l i ++ [S p] else aT l i := by
  unfold aT
  have e : ((toks [] l).zip (KS l))[i]? = some (p, k) := by
    rw [List.getElem?_zip_eq_some]
    exact ⟨h1, h2⟩
  rw [List.take_add_one, e, List.filter_append, List.map_append]
  by_cases hk : k = Kd.at
  · rw [if_pos hk]
    have : List.filter (fun p => decide (p.2 = Kd.at)) (some (p, k)).toList = [(p, k)] := by
      show List.filter _ [(p, k)] = _
      rw [List.filter_cons, if_pos (decide_eq_true hk)]
      rfl
    rw [this]
    rfl
  · rw [if_neg hk]
    have : List.filter (fun p => decide (p.2 = Kd.at)) (some (p, k)).toList = [] := by
      show List.filter _ [(p, k)] = _
      rw [List.filter_cons, if_neg (by simpa using hk)]
      rfl
    rw [this]
    show _ ++ [] = _
    rw [List.append_nil]
theorem aT_len (l : List Nat) (i : Nat) : (aT l i).length ≤ (toks [] l).length := by
  unfold aT
  rw [List.length_map]
  have h1 := List.length_filter_le (fun p : List Nat × Kd => decide (p.2 = Kd.at)) (((toks [] l).zip (KS l)).take i)
  rw [List.length_take, List.length_zip] at h1
  omega
theorem aT_all (l : List Nat) : aT l (toks [] l).length = (atomsT l).map S := by
  unfold aT atomsT
  rw [List.take_of_length_le (by rw [List.length_zip]; omega), List.map_map]
  rfl
section
variable {P : Program} {w : World} {K : PySem.W.Frag} {mg : Str → Option Value} {base : Heap} {f fC fP fK cV : Addr} {fd dC dP dK : FuncData} {k : Nat}
theorem scAs : FnScope ["value", "pieces", "piece", "kind"] ["value"] (defScope sAtoms) := ⟨rfl, rfl, rfl, by decide +kernel, rfl, by decide +kernel, by decide +kernel⟩
theorem ok_atoms (F : Fun K "atoms" "atoms" sAtoms f fd) (tp : mg "tuple" = none) (so : mg "sorted" = none) (zp : mg "zip" = none) (gC : mg "_check_value" = some (.ref fC)) (kC : PySem.W.keepIn K (.ref fC) = true) (bC : Binds K dC ["value"] []) (GC : FnOk P w K mg base (L2.CX P w) (k + 4) fC dC ["value"] (spCheck cV))
    (gP : mg "_pieces" = some (.ref fP)) (kP : PySem.W.keepIn K (.ref fP) = true) (bP : Binds K dP ["text"] []) (GP : FnOk P w K mg base CX0 1 fP dP ["text"] spPieces)
    (gK : mg "_kinds" = some (.ref fK)) (kK : PySem.W.keepIn K (.ref fK) = true) (bK : Binds K dK ["pieces"] []) (GK : FnOk P w K mg base CX0 4 fK dK ["pieces"] spKinds) : FnOk P w K mg base (L2.CX P w) (k + 5) f fd ["value"] (spAtoms cV) := by
  refine F.okX scAs (fun vs H Q E h => ?_) (fun cdv A outer s H vs Q E hr h => ?_)
  · obtain ⟨S0, v, d, rfl, _⟩ := h
    rfl
  · obtain ⟨S0, v, d, rfl, hd, sm, sh, h⟩ := h
    refine ⟨_, pss_cons (ps_expr (pe_call GC hr (by rfl) gC kC bC .nil (passes_call (takes_of rfl rfl rfl rfl) (fun _ _ _ _ h => h)) (pa_cons (pv 0) pa_nil)))
      (pss_cons (ps_set (i := 1) scAs.nd rfl (Or.inl rfl) (pe_call GP (hr.mono (by omega)) (by rfl) gP kP bP .nil pass0 (pa_cons (pv 0) pa_nil)))
      (pss_one (ps_ret (pe_callTy call_tuple_of (by rfl) tp (by decide +kernel) (pa_cons (pe_callB (cr_sortX rfl) (by rfl) so (by decide +kernel) (pa_cons (pe_sx1 (g := gTup K 2 (gCons (gName 2) (gCons (gName 3) gNil))) (own := [("piece", 2), ("kind", 3)]) rfl scAs.nd
        (pi_zip (by rfl) zp (pa_cons (pv 1) (pa_cons (pe_call GK (hr.mono (by omega)) (by rfl) gK kK bK .nil pass0 (pa_cons (pv 1) pa_nil)) pa_nil))) (blkOk_by (N := ["value", "pieces", "piece", "kind"]) (sc := defScope sAtoms) (by decide +kernel))
        (fun _ _ _ _ _ => pg_tup rfl (pgs_cons (pg_name (i := 2) scAs.nd rfl (Or.inl rfl)) (pgs_cons (pg_name (i := 3) scAs.nd rfl (Or.inl rfl)) pgs_nil))) (fun _ _ _ _ _ => pts_one (pt_cmpR op_eq (pv 3) pe_str (nomark _))) (fun _ _ _ _ _ => pv 2)) pa_nil)) pa_nil))))), ?_⟩
    rcases h with ⟨no, e⟩ | ⟨yes, q⟩
    · exact ⟨_, rfl, S0, v, d, rfl, hd, sm, sh, (fun z => by rw [no] at z; cases z), fun _ => e⟩
    · refine ⟨_, rfl, S0, v, _, rfl, hd, sm, sh, (fun _ H1 s1 => ?_), fun z => by rw [yes] at z; cases z⟩
      cases d with
      | str x =>
        obtain rfl : v = .str x := by
          cases hd with
          | «at» a => cases a; rfl
        obtain ⟨l, rfl⟩ : ∃ l : List Nat, x = S l := ⟨x.cps.toList, (SX.S_tl x).symm⟩
        have ok : okS l := by
          have sm2 : (decide ((S l).length ≤ 1000) && PyData.strOk (S l)) = true := by unfold smlD at sm; exact sm
          rw [Bool.and_eq_true, decide_eq_true_eq, SX.S_len] at sm2
          exact ⟨sm2.1, sm2.2⟩
        have l9 : l.length ≤ 900 := by
          have : decide ((S l).length ≤ 900) = true := sh
          rw [decide_eq_true_eq, SX.S_len] at this
          exact this
        have n10 : 10 ∉ l := fun z => by
          have y : (!l.contains 10 && valueL l) = true := yes
          rw [List.contains_iff_mem.mpr z] at y
          cases y
        have many := (toks_many l.length l [] (Nat.le_refl _)).2 rfl
        refine ⟨_, rfl, l, rfl, ok, l9, n10, fun H2 b s2 nb eb => ?_⟩
        refine ⟨_, rfl, _, rfl, b, toks [] l, rfl, eb, fun p hp => toks_ok ok hp, by omega, fun H3 k' s3 nk ek => ?_⟩
        have s12 := s1.trans s2
        have s13 := s12.trans s3
        have eb3 := s3 _ _ eb
        have lk : (KS l).length = (toks [] l).length := kinds_len _
        have lz : ((toks [] l).zip (KS l)).length = (toks [] l).length := by
          rw [List.length_zip, lk, Nat.min_self]
        refine ⟨b, k', _, _, rfl, SqL.of eb3, SqL.of ek, fun D hD => ?_⟩
        refine goes_zip (by rw [List.length_map, List.length_map, lk]) (fun i G => Same H3 G ∧ G D = some (SetTO w D (firsts [] (aT l i)))) ⟨same_upd hD, upd_same⟩ (fun i G p => ⟨SqL.of (p.1 _ _ eb3), SqL.of (p.1 _ _ ek)⟩) (fun i x y T G hi hj p hT => ?_) (fun G p => ?_)
        · rw [List.getElem?_map] at hi hj
          obtain ⟨pp, g1, rfl⟩ := Option.map_eq_some_iff.mp hi
          obtain ⟨kk, g2, rfl⟩ := Option.map_eq_some_iff.mp hj
          obtain ⟨sG, eD⟩ := p
          have sT := same_upd (o := .tup [vS pp, vK kk]) hT
          refine ⟨T, _, rfl, SqT.of upd_same, rfl, _, _, rfl, _, _, rfl, rfl, rfl, _, rfl, rfl, _, rfl, ?_⟩
          rw [kd_atom]
          have ea := aT_next g1 g2
          by_cases hk : kk = Kd.at
          · rw [if_pos hk] at ea
            rw [decide_eq_true hk]
            refine iteT ⟨_, rfl, S pp, _, rfl, sT _ _ eD, ?_, same_put hD (sG.trans sT), ?_⟩
            · have l1 := len_firsts (aT l i) []
              have l2 := aT_len l i
              have l5 : scanBound = 4096 := rfl
              simp only [List.length_nil] at l1
              omega
            · rw [upd_same, ea, firsts_snoc]
              rfl
          · rw [if_neg hk] at ea
            rw [decide_eq_false hk]
            refine iteF ⟨sG.trans sT, ?_⟩
            rw [ea]
            exact sT _ _ eD
        · obtain ⟨sG, eD⟩ := p
          rw [List.length_map, aT_all] at eD
          refine ⟨D, _, rfl, eD, fun ys p3 pm so hp3 => ⟨p3, _, rfl, .inl ⟨SqL.of upd_same, fun p4 hp4 => ?_⟩⟩⟩
          have s3 := (s13.trans sG).trans (same_upd (o := .lst (ys.map V.str)) hp3)
          exact q _ p4 ys (s3.trans (same_upd hp4)) (s3.free hp4) upd_same ⟨so, pm⟩
      | _ => cases yes
end
end OM

namespace OM
open PySem PySem.Spec PyProof.Rows L2
abbrev sNumber : Stmt := top 22
abbrev sWhole : Stmt := top 23
def spWholeD : Sp := fun vs H Q _ => ∃ (S : Addr → Prop) (v : V) (d : PyData), vs = [v] ∧ Dt S H v d ∧ ∀ H', Same H H' → Q (.bl (match d with | .int _ => true | _ => false)) H'
def numB (lo hi : Int) : PyData → Bool
  | .int i => decide (lo ≤ i) && decide (i ≤ hi)
  | _ => false
def spNumD : Sp := fun vs H Q _ => ∃ (S : Addr → Prop) (v : V) (d : PyData) (lo hi : Int), vs = [v, .int lo, .int hi] ∧ Dt S H v d ∧ ∀ H', Same H H' → Q (.bl (numB lo hi d)) H'
theorem kit_int (d : PyData) : kitB (tyN d) "int" = some (match d with | .int _ => true | .bool _ => true | _ => false) := by
  have k0 : kitB "NoneType" "int" = some false := by decide +kernel
  have k1 : kitB "bool" "int" = some true := by decide +kernel
  have k2 : kitB "int" "int" = some true := by decide +kernel
  have k3 : kitB "str" "int" = some false := by decide +kernel
  have k4 : kitB "list" "int" = some false := by decide +kernel
  have k5 : kitB "tuple" "int" = some false := by decide +kernel
  have k6 : kitB "dict" "int" = some false := by decide +kernel
  cases d <;> assumption
section
variable {P : Program} {w : World} {K : PySem.W.Frag} {mg : Str → Option Value} {base : Heap} {f fN fW : Addr} {fd dN dW : FuncData}
theorem scWh : FnScope ["value"] ["value"] (defScope sWhole) := ⟨rfl, rfl, rfl, by decide +kernel, rfl, by decide +kernel, by decide +kernel⟩
theorem scNu : FnScope ["value", "low", "high"] ["value", "low", "high"] (defScope sNumber) := ⟨rfl, rfl, rfl, by decide +kernel, rfl, by decide +kernel, by decide +kernel⟩
theorem ok_wholeD (F : Fun K "is_whole" "is_whole" sWhole f fd) (isi : mg "isinstance" = none) (it : mg "int" = none) (bo : mg "bool" = none) : FnOk P w K mg base CX0 1 f fd ["value"] spWholeD := by
  refine F.ok scWh (fun vs H Q E h => ?_) (fun cdv A outer s H vs Q E hr h => ?_)
  · obtain ⟨S, v, d, rfl, _⟩ := h
    rfl
  · obtain ⟨S, v, d, rfl, hd, q⟩ := h
    refine ⟨_, pss_one (ps_ret (pe_and (pe_callB call_isi (by rfl) isi (by decide +kernel) (pa_cons (pv 0) (pa_cons (pe_bltn (v := .ty "int") (u := .type "int") (by rfl) it (by decide +kernel) rfl) pa_nil)))
      (pe_one (pe_not (pe_callB call_isi (by rfl) isi (by decide +kernel) (pa_cons (pv 0) (pa_cons (pe_bltn (v := .ty "bool") (u := .type "bool") (by rfl) bo (by decide +kernel) rfl) pa_nil))))))), ?_⟩
    have q := q H (Same.refl H)
    refine isi_te (x := v) rfl hd.tyx (kit_int d) ⟨_, rfl, ?_⟩
    cases d with
    | int i => exact iteT (isi_te (x := v) rfl hd.tyx (r := false) (show kitB "int" "bool" = some false by decide +kernel) ⟨_, rfl, q⟩)
    | bool b => exact iteT (isi_te (x := v) rfl hd.tyx (r := true) (show kitB "bool" "bool" = some true by decide +kernel) ⟨_, rfl, q⟩)
    | _ => exact iteF q
theorem ok_numD (F : Fun K "is_number" "is_number" sNumber f fd) (gW : mg "is_whole" = some (.ref fW)) (kW : PySem.W.keepIn K (.ref fW) = true) (bW : Binds K dW ["value"] []) (GW : FnOk P w K mg base CX0 1 fW dW ["value"] spWholeD) : FnOk P w K mg base CX0 2 f fd ["value", "low", "high"] spNumD := by
  refine F.ok scNu (fun vs H Q E h => ?_) (fun cdv A outer s H vs Q E hr h => ?_)
  · obtain ⟨S, v, d, lo, hi, rfl, _⟩ := h
    rfl
  · obtain ⟨S, v, d, lo, hi, rfl, hd, q⟩ := h
    refine ⟨_, pss_one (ps_ret (pe_and (pe_call GW hr (by rfl) gW kW bW .nil pass0 (pa_cons (pv 0) pa_nil)) (pe_one (pe_chain op_le op_le (pv 1) (pv 0) (pv 2))))), ?_⟩
    refine ⟨_, rfl, S, v, d, rfl, hd, fun H1 s1 => ⟨_, rfl, ?_⟩⟩
    have q := q H1 s1
    cases d with
    | int i =>
      obtain rfl : v = .int i := by
        cases hd with
        | «at» a => cases a; rfl
      refine iteT ⟨_, rfl, _, rfl, lo, i, rfl, rfl, _, rfl, ?_⟩
      have q : Q (.bl (decide (lo ≤ i) && decide (i ≤ hi))) H1 := q
      cases h1 : decide (lo ≤ i) with
      | true =>
        rw [h1, Bool.true_and] at q
        exact iteT ⟨_, rfl, i, hi, rfl, rfl, q⟩
      | false =>
        rw [h1, Bool.false_and] at q
        exact iteF q
    | _ => exact iteF q
end
end OM

namespace OM
open PySem PySem.Spec PyProof.Rows L2
open AutoSeq1 (wpAny_loadPart')
open MeetsSeq MeetsSeq2 MeetsSeq3 SeqRoads2
/-! a plain call of a def that is known by its positional promise -/
section
variable {X : Cx} {CX : CXT} {k : Nat} {f : Addr} {sp : Sp} {E : XK} {x : Str} {e : Expr} {es : List Expr} {t : TA} {p pos : Pos}
theorem pe_callFR (F : FnR X.prog X.w X.K X.mg X.base CX k f sp) (hr : Room k X.A) (hg : Gl X x) (hm : X.mg x = some (.ref f)) (hk : PySem.W.keepIn X.K (.ref f) = true) (hx : Passes CX X E) (ha : PA X (e :: es) t) (hdb : (x == ("__debug__" : Str)) = false := by decide)
    (h1 : starEach (e :: es) X.env = (false, eval e X.env) :: starEach es X.env := by rfl) (h2 : (backTo pos (starEach es X.env)).any (·.1) = false := by rfl) :
    PE X (.Call (.Name x p) (e :: es) [] pos) (fun σ H Q => t σ H fun vs H1 => sp vs H1 Q E) := by
  refine ⟨fun pins s σ H Q I h => ?_⟩
  refine wpAny_Call_Name_kw (ld_glob I hg hm ?_ hdb)
  refine PySem.W.callWith_K (h₀ := X.base) I.ok.mod.kin hk (thn (ha.run pos pins s σ H _ I h) fun us z ⟨vs, H1, I1, r, q⟩ => ⟨I1.kIn, ?_⟩) h1 h2
  exact wpAny_call (run_fnR F hr hx I1 r q)
end
/-! any datum != a text -/
theorem dict_ne_declines_str (l : Addr) (o : Obj) (es : Array DictEntry) (n : Nat) (b : Str) (u : Tok) (hc : o.cls = .type "dict") (hd : o.data = .dict es n) :
    Meets (Builtin.«dict.__ne__» ⟨[.ref l, .str b u], []⟩) (fun _ R s => s.heap.get? l = some o ∧ R (.ok (.ret .notImplemented)) s) :=
  .of_wp fun prog w A R s h => by
    obtain ⟨hp, g, d, tk, os⟩ := s
    obtain ⟨hl, h⟩ := h
    have f1 : isSubtype (.type "str") (.type "dict") = pure false := by rw [isSubtype_type]; kernel_rfl
    obtain ⟨c0, d0, dt0, sl0⟩ := o
    simp only at hc hd
    subst hc hd
    wp_walk using wpAny_loadPart' hl, wpAny_load hl
    exact ⟨_, rfl, h⟩
theorem str_ne_declines_dict (l : Addr) (o : Obj) (es : Array DictEntry) (n : Nat) (b : Str) (u : Tok) (hc : o.cls = .type "dict") (hd : o.data = .dict es n) :
    Meets (Builtin.«str.__ne__» ⟨[.str b u, .ref l], []⟩) (fun _ R s => s.heap.get? l = some o ∧ R (.ok (.ret .notImplemented)) s) :=
  .of_wp fun prog w A R s h => by
    obtain ⟨hp, g, d, tk, os⟩ := s
    obtain ⟨hl, h⟩ := h
    obtain ⟨c0, d0, dt0, sl0⟩ := o
    simp only at hc hd
    subst hc hd
    wp_walk using wpAny_loadPart' hl, wpAny_load hl
    exact ⟨_, rfl, h⟩
theorem neAt_dict_str {A : Around} {s : Shared} {l : Addr} {o : Obj} {es : Array DictEntry} {n : Nat} (b : Str) (u : Tok) (ho : s.heap.get? l = some o) (hc : o.cls = .type "dict") (hd : o.data = .dict es n) (hu : A.units < cLine) : SeqAt.RcNeAt A s (.ref l) (.str b u) true := fun prog w E Q h => by
  have f1 : isSubtype (.type "str") (.type "dict") = pure false := by rw [isSubtype_type]; kernel_rfl
  exact SeqAt.rc_ne_decline_or (k := false) ⟨_, ho, hc⟩ (typeIs_str s b u) (by decide) f1 F.slot_dict_ne F.slot_str_ne_refl
    (fun _ hq => call_meets F.slot_dict_ne ⟨_, ho, hc⟩ F.entry_dict_ne (F.args_dict_ne_2 _ _) (dict_ne_declines_str l o es n b u hc hd) ⟨ho, hq⟩)
    (fun _ hq => call_meets F.slot_str_ne_refl (typeIs_str s b u) F.entry_str_ne (F.args_str_ne_2 _ _) (str_ne_declines_dict l o es n b u hc hd) ⟨ho, hq⟩)
    (fun _ hq => wpAny_of_eq (rfl : isSame (.ref l) (.str b u) = pure false) hq) (.inr hu) h
def neT : PyData → Str → Bool
  | .str x, t => !decide (x = t)
  | _, _ => true
def rNeTx : V → V → Hp → VK → Prop := fun x y H Q => ∃ (S : Addr → Prop) (d : PyData) (t : Str), Dt S H x d ∧ y = .str t ∧ Q (.bl (neT d t)) H
theorem op_neTx {X : Cx} (hu : X.A.units < cLine) : OpR X (compareOp .NotEq) rNeTx := by
  intro pins s σ H y t u v Q I ry rt h
  obtain ⟨S, d, z, hd, rfl, q⟩ := h
  obtain ⟨tk, rfl⟩ : ∃ tk, v = Value.str z tk := rt
  have fin : ∀ {a : Value}, neT d z = true → SeqAt.RcNeAt X.A s a (.str z tk) true → wpAny (model X.prog X.w) X.A (compareOp .NotEq a (.str z tk)) (EP X pins σ Q) X.xe s := fun {a} e r => by
    rw [e] at q
    exact r X.prog X.w X.xe _ ⟨.bl true, H, I, rfl, q⟩
  cases hd with
  | «at» h =>
    cases h with
    | non =>
      obtain rfl : u = Value.none := ry
      exact fin rfl (SeqAt.RcNeAt.none_str z tk)
    | bl x =>
      obtain rfl : u = Value.bool x := ry
      exact fin rfl (SeqAt.RcNeAt.bool_str x z tk)
    | int i =>
      obtain ⟨t, rfl⟩ : ∃ t, u = Value.int i t := ry
      exact fin rfl (SeqAt.RcNeAt.int_str i t z tk)
    | str x =>
      refine op_ne pins s σ H (.str x) (.str z) u (.str z tk) Q I ry (show RelV (.str z) (.str z tk) from ⟨tk, rfl⟩) ⟨rfl, ?_⟩
      have e : decide (V.str x = V.str z) = decide (x = z) := decide_eq_decide.mpr ⟨fun z => V.str.inj z, fun z => by rw [z]⟩
      rw [e]
      exact q
  | lst s e hl h =>
    rename_i a xs ds
    obtain rfl : u = Value.ref a := ry
    obtain ⟨its, r, pl, hz⟩ := I.list (SqL.of e)
    exact fin rfl (SeqAt.RcNeAt.list_str z tk pl.isList hu)
  | tup s e hl h =>
    rename_i a xs ds
    obtain rfl : u = Value.ref a := ry
    obtain ⟨its, r, pl, hz⟩ := I.tuple (SqT.of e)
    exact fin rfl (SeqAt.RcNeAt.tuple_str z tk pl hu)
  | dic0 s e =>
    rename_i a
    obtain rfl : u = Value.ref a := ry
    obtain ⟨_, _, vs, kv, o, es, ep, eo, ex, ed, ks, ps, _⟩ := (show ObjOk X.prog X.w H _ a (.dK []) from I.hok a _ e)
    exact fin rfl (neAt_dict_str z tk eo ex.1 ed hu)
  | dic1 s e h =>
    rename_i a k v d
    obtain rfl : u = Value.ref a := ry
    obtain ⟨_, _, vs, kv, o, es, ep, eo, ex, ed, ks, ps, _⟩ := (show ObjOk X.prog X.w H _ a (.dK [(k, v)]) from I.hok a _ e)
    exact fin rfl (neAt_dict_str z tk eo ex.1 ed hu)
end OM

namespace OM
open PySem PySem.Spec PyProof.Rows L2 VL
abbrev sUnk : Stmt := top 27
abbrev sApp : Stmt := top 28
def numS (i : Int) : Str := (toString i : String)
theorem num_small : ∀ n : Nat, n < 1000 → (numS n).length ≤ 3 := by decide +kernel
theorem log_small {n : Nat} (h : n < 1000) : ((n : Int)).natAbs.log2 < 1920 := by
  have h1 : ((n : Int)).natAbs = n := rfl
  rw [h1]
  have h2 : n.log2 ≤ 10 := by
    rcases Nat.eq_zero_or_pos n with z | z
    · rw [z]; decide
    · have := (Nat.log2_lt (by omega : n ≠ 0) (k := 10)).mpr (by omega)
      omega
  omega
/-- a name, or get -/
def nogD (d : PyData) : Bool := isNameD d || !neT d "get"
/-- the text of an unknown -/
def unkT (x : Str) (i : Int) : Str := x ++ "." ++ numS i
def spUnk (cO cN : Addr) : Sp := fun vs H Q E => ∃ (Sa Sb : Addr → Prop) (a b : V) (da db : PyData), vs = [a, b] ∧ Dt Sa H a da ∧ Dt Sb H b db ∧ smlD da = true ∧ db.depth ≤ 4 ∧
  ((nogD da = false ∧ OutN E cO H) ∨ (nogD da = true ∧ numB 1 999 db = false ∧ OutD E cN H [("value", db)]) ∨ (∃ (x : Str) (i : Int), da = .str x ∧ db = .int i ∧ nogD da = true ∧ numB 1 999 db = true ∧ ∀ H', Same H H' → Q (.str (unkT x i)) H'))
theorem cutI {A C : Prop} (p : Prop) (f : (p → C) → A) (b : p → C) : A := f b
section
variable {P : Program} {w : World} {K : PySem.W.Frag} {mg : Str → Option Value} {base : Heap} {f fI fN fM fJ fV fW cO cN cV : Addr} {fd dI dN dM dJ dV dW : FuncData} {k : Nat}
theorem scUn : FnScope ["name", "number"] ["name", "number"] (defScope sUnk) := ⟨rfl, rfl, rfl, by decide +kernel, rfl, by decide +kernel, by decide +kernel⟩
theorem ok_unknown (F : Fun K "unknown" "unknown" sUnk f fd) (mu : ∃ t, mg "MAX_UNKNOWN" = some (.int 999 t)) (kO : KCls K cO fI "ValueError" []) (gcO : mg "InvalidOperation" = some (.ref cO)) (GI : FnOk P w K mg base CX0 1 fI dI ["self", "why"] (spI0 K "ValueError")) (bI : Binds K dI ["self", "why"] [])
    (kC : KCls K cN fJ "RuntimeError" ["value"]) (gcN : mg "InvalidNumber" = some (.ref cN)) (GJ : FnOk P w K mg base CX0 6 fJ dJ ["self", "value"] (spI1 K "RuntimeError" "value" 4)) (bJ : Binds K dJ ["self", "value"] [])
    (gN : mg "is_name" = some (.ref fN)) (kN : PySem.W.keepIn K (.ref fN) = true) (bN : Binds K dN ["value"] []) (GN : FnOk P w K mg base CX0 1 fN dN ["value"] spName)
    (gM : mg "is_number" = some (.ref fM)) (kM : PySem.W.keepIn K (.ref fM) = true) (bM : Binds K dM ["value", "low", "high"] []) (GM : FnOk P w K mg base CX0 2 fM dM ["value", "low", "high"] spNumD) : FnOk P w K mg base (L2.CX P w) 8 f fd ["name", "number"] (spUnk cO cN) := by
  obtain ⟨tm, gm⟩ := mu
  refine F.okX scUn (fun vs H Q E h => ?_) (fun cdv A outer s H vs Q E hr h => ?_)
  · obtain ⟨Sa, Sb, a, b, da, db, rfl, _⟩ := h
    rfl
  · obtain ⟨Sa, Sb, a, b, da, db, rfl, ha, hb, sm, dep, h⟩ := h
    have hu : (A.deeper (envOfC "unknown" (defScope sUnk) s.heap.objs.size f cdv)).units < cLine := by
      have := hr.un
      omega
    refine ⟨_, pss_cons (ps_if (PW.pt (pw_and (pt_not (pt_val (pe_call GN (hr.mono (by decide)) (by rfl) gN kN bN .nil pass0 (pa_cons (pv 0) pa_nil)))) (pw_and1 (pt_cmpR (op_neTx hu) (pv 0) pe_str (nomark _)))))
        (pss_one (ps_raise rfl (takes_of rfl rfl rfl rfl) (pmk_B (Classical.choose_spec kO.made).1 GI (hr.mono (by decide)) (by rfl) gcO bI .nil pass0 (pa_cons pe_str pa_nil)))) pss_nil)
      (pss_cons (ps_if (pt_not (pt_val (pe_call GM (hr.mono (by decide)) (by rfl) gM kM bM .nil pass0 (pa_cons (pv 1) (pa_cons pe_int (pa_cons (pe_glob (v := .int 999) (by rfl) gm ⟨tm, rfl⟩) pa_nil))))))
        (pss_one (ps_raise rfl (takes_of rfl rfl rfl rfl) (pmk_B (Classical.choose_spec kC.made).1 GJ hr (by rfl) gcN bJ .nil pass0 (pa_cons (pv 1) pa_nil)))) pss_nil)
      (pss_one (ps_ret (pe_joined (.cons (pe_fmt (pv 0)) (.cons pe_str (.cons (pe_fmt (pv 1)) .nil))))))), ?_⟩
    refine ⟨_, rfl, Sa, a, da, rfl, ha, sm, fun H1 s1 => ⟨_, rfl, ?_⟩⟩
    have hd1 := ha.mv (fun _ z => z) (fun b o _ z => s1 b o z)
    apply cutI (nogD da = true)
    · intro rest
      cases hn : isNameD da with
      | true => exact iteF (rest (by unfold nogD; rw [hn]; rfl))
      | false =>
        refine iteT ⟨_, rfl, Sa, da, "get", hd1, rfl, _, rfl, ?_⟩
        cases hg : neT da "get" with
        | false => exact iteF (rest (by unfold nogD; rw [hn, hg]; rfl))
        | true =>
          have no : nogD da = false := by unfold nogD; rw [hn, hg]; rfl
          rcases h with ⟨_, e⟩ | ⟨z, _⟩ | ⟨_, _, _, _, z, _⟩
          · exact iteT (mk0 kO fun H' s' => e H' (s1.trans s'))
          · rw [no] at z; cases z
          · rw [no] at z; cases z
    · intro hn
      refine ⟨_, rfl, Sb, b, db, 1, 999, rfl, hb.mv (fun _ z => z) (fun b o _ z => s1 b o z), fun H2 s2 => ⟨_, rfl, ?_⟩⟩
      have s12 := s1.trans s2
      rcases h with ⟨z, _⟩ | ⟨_, nb, e⟩ | ⟨x, i, rfl, rfl, _, nb, q⟩
      · rw [hn] at z; cases z
      · rw [nb]
        exact iteT ⟨_, rfl, mk9 kC (hb.mv (fun _ z => z) (fun b o _ z => s12 b o z)) dep fun H' dx fs s' nx ex hs => e H' dx fs (s12.trans s') (s12.free nx) ex fun g y hg => by
          obtain ⟨z, z1, z2⟩ := hs g y hg
          exact ⟨z, z1, z2.mv (fun b zb => ⟨s12.free zb.1, zb.2⟩) fun _ _ _ z => z⟩⟩
      · obtain rfl : a = .str x := by
          cases ha with
          | «at» a => cases a; rfl
        obtain rfl : b = .int i := by
          cases hb with
          | «at» a => cases a; rfl
        have sm2 : (decide (x.length ≤ 1000) && PyData.strOk x) = true := by unfold smlD at sm; exact sm
        rw [Bool.and_eq_true, decide_eq_true_eq] at sm2
        have hi : 1 ≤ i ∧ i ≤ 999 := by
          have : (decide (1 ≤ i) && decide (i ≤ 999)) = true := nb
          rw [Bool.and_eq_true, decide_eq_true_eq, decide_eq_true_eq] at this
          exact this
        obtain ⟨n, rfl⟩ : ∃ n : Nat, i = (n : Int) := ⟨i.toNat, by omega⟩
        have line : (100000 : Nat) ≤ sizeLine := by decide
        have nl := num_small n (by omega)
        have l3 : ("." : Str).length = 1 := by decide +kernel
        have l0 : Str.empty.length = 0 := rfl
        rw [nb]
        refine iteF ⟨_, rfl, .inl ⟨x, rfl, by omega, x, rfl, by rw [strLen_append]; omega, ".", rfl, by rw [strLen_append, strLen_append]; omega, _, rfl, .inr ⟨(n : Int), rfl, log_small (by omega), numS n, rfl, by rw [strLen_append, strLen_append, strLen_append]; omega, ?_⟩⟩⟩
        have e5 : Str.empty ++ x ++ "." ++ numS n = unkT x n := by
          apply TL.ext_tl
          unfold unkT
          rw [TL.tl_append, TL.tl_append, TL.tl_append, TL.tl_append, TL.tl_append]
          rfl
        rw [e5]
        exact q H2 s12
end
end OM

namespace OM
open PySem PySem.Spec PyProof.Rows L2 VL
def shortAll (ds : List PyData) : Bool := ds.all shortD
/-- `applied`, its values in a tuple -/
def spAppI (K : PySem.W.Frag) (cO cV : Addr) : Sp := fun vs H Q E => ∃ (Sa Sb : Addr → Prop) (a : V) (p : Addr) (xs : List V) (da : PyData) (ds : List PyData), vs = [a, .ref p] ∧ H p = some (.tup xs) ∧ Dt Sa H a da ∧ DtAll Sb H xs ds ∧ smlD da = true ∧ smlAll ds = true ∧ shortAll ds = true ∧ xs.length ≤ 10 ∧
  ((isNameD da = false ∧ OutN E cO H) ∨ (isNameD da = true ∧ 2 < xs.length ∧ OutN E cO H) ∨ (isNameD da = true ∧ xs.length ≤ 2 ∧ ds.all isValD = false ∧ OutN E cV H) ∨
    ∃ (fn : List Nat) (ls : List (List Nat)), da = .str (S fn) ∧ xs = ls.map vS ∧ isNameD da = true ∧ ls.length ≤ 2 ∧ ds.all isValD = true ∧ (ls.map List.length).sum + ls.length * 2 ≤ 1000 ∧ ∀ H', Same H H' → Q (.str (S (wrL fn ls))) H')
/-- `applied`, as it is called -/
def spApp (K : PySem.W.Frag) (cO cV : Addr) : Sp := fun vs H Q E => ∃ ws rest : List V, vs = ws ++ rest ∧ ws.length = ["function"].length ∧ rest.length ≤ sizeLine ∧ ∀ p, H p = none → spAppI K cO cV (ws ++ [V.ref p]) (upd H p (.tup rest)) Q E
section
variable {P : Program} {w : World} {K : PySem.W.Frag} {mg : Str → Option Value} {base : Heap} {f fI fN fV fW cO cV : Addr} {fd dI dN dV dW : FuncData} {k : Nat}
theorem scAp : FnScope ["function", "values", "value"] (([("function" : Str)] : List Str) ++ [("values" : Str)]) (defScope sApp) := ⟨rfl, rfl, rfl, by decide +kernel, rfl, by decide +kernel, by decide +kernel⟩
theorem ok_applied (F : Fun K "applied" "applied" sApp f fd) (ma : ∃ t, mg "MAX_ARGUMENTS" = some (.int 2 t)) (ln : mg "len" = none) (al : mg "all" = none) (kO : KCls K cO fI "ValueError" []) (gcO : mg "InvalidOperation" = some (.ref cO)) (kV : KCls K cV fI "ValueError" []) (gcV : mg "InvalidValue" = some (.ref cV))
    (GI : FnOk P w K mg base CX0 1 fI dI ["self", "why"] (spI0 K "ValueError")) (bI : Binds K dI ["self", "why"] []) (gN : mg "is_name" = some (.ref fN)) (kN : PySem.W.keepIn K (.ref fN) = true) (bN : Binds K dN ["value"] []) (GN : FnOk P w K mg base CX0 1 fN dN ["value"] spName)
    (gV : mg "is_value" = some (.ref fV)) (kpV : PySem.W.keepIn K (.ref fV) = true) (bV : Binds K dV ["value"] []) (GV : FnOk P w K mg base CX0 (k + 2) fV dV ["value"] spVal)
    (gW : mg "written" = some (.ref fW)) (kW : PySem.W.keepIn K (.ref fW) = true) (bW : Binds K dW ["function", "values"] []) (GW : FnOk P w K mg base CX0 1 fW dW ["function", "values"] (spWritten K)) : FnR P w K mg base (L2.CX P w) (k + 3) f (spApp K cO cV) := by
  obtain ⟨oc, od, kV', doc, pm, an, cdv, ct, osl, rfl, lk, hcd⟩ := F.ex
  obtain ⟨tm, gm⟩ := ma
  have bd : ∀ us rest : List Value, us.length = ([("function" : Str)] : List Str).length → bindArgs (PySem.W.fnOf "applied" "applied" (defArgs sApp) (defBody sApp) (defScope sApp) .none kV' doc pm an cdv ct) ⟨us ++ rest, []⟩ = (newTuple rest >>= fun t => pure (([("function" : Str)] : List Str).zip us ++ [(("values" : Str), t)])) := fun us rest hl => match us, rest, hl with
    | [a], [], _ => rfl
    | [a], r :: rs, _ => rfl
  refine StX.fn_star (k := k + 2) (ps := [("function" : Str)]) (pv := "values") lk hcd scAp StX.cxUp bd (fun A outer s H vs Q E hr h => ?_)
  obtain ⟨Sa, Sb, a, p, xs, da, ds, rfl, ep, ha, hx, sm, sml, sh, xl, h⟩ := h
  refine ⟨_, pss_cons (ps_if (pt_not (pt_val (pe_call GN (hr.mono (by omega)) (by rfl) gN kN bN .nil pass0 (pa_cons (pv 0) pa_nil)))) (pss_one (ps_raise rfl (takes_of rfl rfl rfl rfl) (pmk_B (Classical.choose_spec kO.made).1 GI (hr.mono (by omega)) (by rfl) gcO bI .nil pass0 (pa_cons pe_str pa_nil)))) pss_nil)
    (pss_cons (ps_if (pt_cmpR op_gt (pe_callB call_len_seq (by rfl) ln PySem.boot_len (pa_cons (pv 1) pa_nil)) (pe_glob (v := .int 2) (by rfl) gm ⟨tm, rfl⟩) (nomark _)) (pss_one (ps_raise rfl (takes_of rfl rfl rfl rfl) (pmk_B (Classical.choose_spec kO.made).1 GI (hr.mono (by omega)) (by rfl) gcO bI .nil pass0 (pa_cons pe_str pa_nil)))) pss_nil)
    (pss_cons (ps_if (pt_not (pt_val (pe_callB (cr_all rfl) (by rfl) al (by decide +kernel) (pa_cons (pe_lc (own := [("value", 2)]) rfl scAp.nd (pi_tup (pv 1)) (blkOk_by (N := ["function", "values", "value"]) (sc := defScope sApp) (by decide +kernel))
          (fun _ _ _ _ _ => pg_name (i := 2) scAp.nd rfl (Or.inl rfl)) (fun _ _ _ _ _ => pts_nil) (fun _ _ _ _ _ => pe_call GV hr (by rfl) gV kpV bV .nil pass0 (pa_cons (pv 2) pa_nil))) pa_nil))))
        (pss_one (ps_raise rfl (takes_of rfl rfl rfl rfl) (pmk_B (Classical.choose_spec kV.made).1 GI (hr.mono (by omega)) (by rfl) gcV bI .nil pass0 (pa_cons pe_str pa_nil)))) pss_nil)
    (pss_one (ps_ret (pe_call GW (hr.mono (by omega)) (by rfl) gW kW bW .nil pass0 (pa_cons (pv 0) (pa_cons (pv 1) pa_nil))))))), ?_⟩
  refine ⟨_, rfl, Sa, a, da, rfl, ha, sm, fun H1 s1 => ⟨_, rfl, ?_⟩⟩
  cases hn : isNameD da with
  | false =>
    rcases h with ⟨_, e⟩ | ⟨z, _⟩ | ⟨z, _⟩ | ⟨_, _, _, _, z, _⟩
    · exact iteT (mk0 kO fun H' s' => e H' (s1.trans s'))
    all_goals rw [hn] at z; cases z
  | true =>
    refine iteF ⟨_, rfl, p, _, rfl, .inr (SqT.of (s1 _ _ ep)), _, _, rfl, rfl, _, rfl, ?_⟩
    have dg : decide (((xs.length : Nat) : Int) > 2) = decide (2 < xs.length) := decide_eq_decide.mpr (by omega)
    rw [dg]
    by_cases h2 : 2 < xs.length
    · rw [decide_eq_true h2]
      rcases h with ⟨z, _⟩ | ⟨_, _, e⟩ | ⟨_, z, _⟩ | ⟨fn, ls, _, rfl, _, z, _⟩
      · rw [hn] at z; cases z
      · exact iteT (mk0 kO fun H' s' => e H' (s1.trans s'))
      · omega
      · rw [List.length_map] at h2; omega
    · rw [decide_eq_false h2]
      have xl2 := hx.length
      refine iteF ⟨_, rfl, p, rfl, ⟨xs, SqT.of (s1 _ _ ep)⟩, fun D hD => lc_tup (PvM H1 D (ds.map isValD)) (PvM.zero hD) (fun i H' _ q => SqT.of (q.1 _ _ (s1 _ _ ep))) (fun i x H3 hi q => ?_) (fun H5 q => ?_)⟩
      · obtain ⟨e, he, hde⟩ := hx.get hi
        refine ⟨rfl, _, rfl, Sb, x, e, rfl, hde.mv (fun _ z => z) (fun b o _ eb => q.1 b o (s1 b o eb)), sml_get sml he, List.all_eq_true.mp sh e (List.mem_of_getElem? he), fun H4 s4 => q.step hD (by rw [List.length_map]; omega) (by rw [List.getElem?_map, he]; rfl) s4⟩
      · obtain ⟨s5, e5⟩ := q.all (by rw [List.length_map]; exact xl2)
        have s15 := s1.trans s5
        refine ⟨D, _, rfl, SqL.of e5, _, rfl, ?_⟩
        rw [all_map_id]
        rcases h with ⟨z, _⟩ | ⟨_, z, _⟩ | ⟨_, _, av, e⟩ | ⟨fn, ls, rfl, rfl, _, l2, av, sz, q2⟩
        · rw [hn] at z; cases z
        · omega
        · rw [av]
          exact iteT (mk0 kV fun H' s' => e H' (s15.trans s'))
        · rw [av]
          obtain rfl : a = .str (S fn) := by
            cases ha with
            | «at» a => cases a; rfl
          have fl : fn.length ≤ 1000 := by
            have sm2 : (decide ((S fn).length ≤ 1000) && PyData.strOk (S fn)) = true := by unfold smlD at sm; exact sm
            rw [Bool.and_eq_true, decide_eq_true_eq, SX.S_len] at sm2
            exact sm2.1
          exact iteF ⟨_, rfl, _, rfl, fn, p, ls, rfl, fl, SqT.of (s15 _ _ ep), sz, fun H' s' => q2 H' (s15.trans s')⟩
end
end OM

namespace OM
open PySem PySem.Spec PyProof.Rows L2
theorem all_true (n : Nat) : ((List.range n).all fun _ => true) = true := List.all_eq_true.mpr fun _ _ => rfl
def rL0 (K : PySem.W.Frag) (neg : Bool) : R2 := fun x y H Q => ∃ a b xs, x = .ref a ∧ y = .ref b ∧ SqL K H a xs ∧ SqL K H b [] ∧ Q (.bl (if neg then !xs.isEmpty else xs.isEmpty)) H
theorem op_eqL0 {X : Cx} (hu : X.A.units < cLine) : OpR X (compareOp .Eq) (rL0 X.K false) := by
  intro pins s σ H x y v u Q I rx ry h
  obtain ⟨a, b, xs, rfl, rfl, ha, hb, q⟩ := h
  obtain rfl : v = Value.ref a := rx
  obtain rfl : u = Value.ref b := ry
  obtain ⟨us, r1, p1, _⟩ := I.list ha
  obtain ⟨ws, r2, p2, _⟩ := I.list hb
  cases r2
  have l := r1.length
  cases xs with
  | nil =>
    obtain rfl : us = [] := List.length_eq_zero_iff.mp l.symm
    refine SeqAt.eq_listAt (e := fun _ => true) p1.isList p2.isList rfl hu (fun j h1 h2 => absurd h2 (by simp)) ⟨.bl _, H, I, rfl, ?_⟩
    rw [all_true]
    exact q
  | cons x0 xr =>
    refine SeqAt.eq_list_lengthsAt p1.isList p2.isList ?_ hu ⟨.bl false, H, I, rfl, q⟩
    cases us with
    | nil => simp at l
    | cons u us => simp
theorem op_neL0 {X : Cx} (hu : X.A.units < cLine) : OpR X (compareOp .NotEq) (rL0 X.K true) := by
  intro pins s σ H x y v u Q I rx ry h
  obtain ⟨a, b, xs, rfl, rfl, ha, hb, q⟩ := h
  obtain rfl : v = Value.ref a := rx
  obtain rfl : u = Value.ref b := ry
  obtain ⟨us, r1, p1, _⟩ := I.list ha
  obtain ⟨ws, r2, p2, _⟩ := I.list hb
  cases r2
  have l := r1.length
  cases xs with
  | nil =>
    obtain rfl : us = [] := List.length_eq_zero_iff.mp l.symm
    refine SeqAt.RcNeAt.lists (e := fun _ => true) p1.isList p2.isList rfl hu (fun j h1 h2 => absurd h2 (by simp)) X.prog X.w X.xe _ ⟨.bl _, H, I, rfl, ?_⟩
    rw [all_true]
    exact q
  | cons x0 xr =>
    refine SeqAt.RcNeAt.lists_lengths p1.isList p2.isList ?_ hu X.prog X.w X.xe _ ⟨.bl true, H, I, rfl, q⟩
    cases us with
    | nil => simp at l
    | cons u us => simp
def PvQ (H : Hp) (D : Addr) (bs : List Bool) (i : Nat) (H' : Hp) : Prop := Same H H' ∧ ∃ acc : List V, H' D = some (.lst acc) ∧ acc.length ≤ i ∧ acc.isEmpty = (bs.take i).all id
theorem PvQ.zero {H : Hp} {D : Addr} {bs : List Bool} (hD : H D = none) : PvQ H D bs 0 (upd H D (.lst [])) := ⟨same_upd hD, [], upd_same, Nat.le_refl _, rfl⟩
theorem PvQ.yes {H H3 H4 : Hp} {D : Addr} {bs : List Bool} {i : Nat} (hb : bs[i]? = some true) (p : PvQ H D bs i H3) (s : Same H3 H4) : PvQ H D bs (i + 1) H4 := by
  obtain ⟨sm, acc, e, l, z⟩ := p
  refine ⟨sm.trans s, acc, s _ _ e, by omega, ?_⟩
  rw [List.take_add_one, hb, List.all_append, z]
  simp
theorem PvQ.no {H H3 H4 : Hp} {D : Addr} {bs : List Bool} {i : Nat} {y : V} (hD : H D = none) (hl : bs.length ≤ 1000) (hb : bs[i]? = some false) (p : PvQ H D bs i H3) (s : Same H3 H4) : ∃ acc, H4 D = some (.lst acc) ∧ acc.length < sizeLine ∧ PvQ H D bs (i + 1) (upd H4 D (.lst (acc ++ [y]))) := by
  obtain ⟨sm, acc, e, l, z⟩ := p
  have hi : i < bs.length := (List.getElem?_eq_some_iff.mp hb).1
  refine ⟨acc, s _ _ e, Nat.lt_of_le_of_lt (show acc.length ≤ 1000 by omega) (by decide), same_put hD (sm.trans s), acc ++ [y], upd_same, by rw [List.length_append]; show acc.length + 1 ≤ _; omega, ?_⟩
  rw [List.take_add_one, hb, List.all_append]
  simp
theorem PvQ.all {H H5 : Hp} {D : Addr} {bs : List Bool} {n : Nat} (p : PvQ H D bs n H5) (hn : n = bs.length) : Same H H5 ∧ ∃ acc : List V, H5 D = some (.lst acc) ∧ acc.isEmpty = bs.all id := by
  obtain ⟨sm, acc, e, l, z⟩ := p
  rw [hn, List.take_length] at z
  exact ⟨sm, acc, e, z⟩
end OM

namespace OM.VL
theorem name_dot {l : List Nat} (h : l.all letC = true) : atomL l = nameL l := atom_plain (let_ne h let46)
theorem value_letters {l : List Nat} (h : l.all letC = true) : valueL l = nameL l := by
  cases hl : l with
  | nil => decide
  | cons c r =>
    rw [← hl]
    have hn : l ≠ [] := by rw [hl]; exact List.cons_ne_nil _ _
    have ht := toks_app (clean_let h) hn (d := []) rfl
    have hk := kind_app (clean_let h) hn (d := []) rfl
    rw [List.append_nil] at ht
    have e0 : toks [] ([] : List Nat) = [] := rfl
    rw [e0] at ht hk
    have eK : KS l = [wk l []] := by
      show kinds (toks [] l) = _
      rw [ht]
      show [kindOf l (([] : List (List Nat)).headD [])] = _
      rw [hk]
    have ew : wk l [] = if atomL l = true then Kd.at else Kd.wr := rfl
    unfold valueL
    rw [eK, ew, name_dot h]
    cases nameL l <;> decide
/-- a value of letters alone is a name -/
theorem value_name (l : List Nat) : (valueL l && l.all letC) = nameL l := by
  cases h : l.all letC with
  | true => rw [value_letters h, Bool.and_true]
  | false =>
    rw [Bool.and_false]
    cases hn : nameL l with
    | false => rfl
    | true => rw [name_let hn] at h; cases h
end OM.VL
namespace OM
open PySem PySem.Spec PyProof.Rows L2 VL
abbrev sLName : Stmt := top 48
abbrev sLSet : Stmt := top 49
/-! ascending lists of texts -/
theorem lt_pair : ∀ {ls : List Str}, (List.zipWith ltS ls ls.tail).all id = true → ls.Pairwise fun a b => a.cps.toList < b.cps.toList
  | [], _ => .nil
  | [x], _ => List.pairwise_singleton _ _
  | x :: y :: r, h => by
    have h : (ltS x y && (List.zipWith ltS (y :: r) r).all id) = true := h
    rw [Bool.and_eq_true] at h
    have ih := lt_pair (ls := y :: r) h.2
    have hxy : x.cps.toList < y.cps.toList := of_decide_eq_true h.1
    refine List.pairwise_cons.mpr ⟨fun z hz => ?_, ih⟩
    rcases List.mem_cons.mp hz with rfl | hz
    · exact hxy
    · exact List.lt_trans hxy ((List.pairwise_cons.mp ih).1 z hz)
theorem pair_lt : ∀ {ls : List Str}, ls.Pairwise leS → ls.Nodup → (List.zipWith ltS ls ls.tail).all id = true
  | [], _, _ => rfl
  | [x], _, _ => rfl
  | x :: y :: r, h, n => by
    have ih := pair_lt (ls := y :: r) (List.pairwise_cons.mp h).2 (List.nodup_cons.mp n).2
    have hxy : leS x y := (List.pairwise_cons.mp h).1 y (List.mem_cons_self ..)
    have ne : x ≠ y := fun z => (List.nodup_cons.mp n).1 (by rw [z]; exact List.mem_cons_self ..)
    have lt : ltS x y = true := by
      refine decide_eq_true ?_
      by_cases q : x.cps.toList < y.cps.toList
      · exact q
      · exact absurd (leS_anti hxy (leS_iff.mpr (List.not_lt.mp q))) ne
    show (ltS x y && (List.zipWith ltS (y :: r) r).all id) = true
    rw [lt]
    exact ih
theorem firsts_id : ∀ {l acc : List Str}, (l.reverse ++ acc).Nodup → firsts acc l = l.reverse ++ acc
  | [], acc, _ => rfl
  | x :: r, acc, h => by
    have n : x ∉ acc := fun z => by
      rw [List.reverse_cons, List.append_assoc] at h
      have h2 := (List.nodup_append.mp h).2.1
      exact (List.nodup_cons.mp h2).1 z
    show firsts (addX acc x) r = _
    have e : addX acc x = x :: acc := if_neg n
    rw [e, firsts_id (by rw [List.reverse_cons, List.append_assoc] at h; exact h), List.reverse_cons, List.append_assoc]
    rfl
theorem asc_iff {ls ys : List Str} (h : IsSet ys ls) : decide (ls = ys) = (List.zipWith ltS ls ls.tail).all id := by
  rw [Bool.eq_iff_iff, decide_eq_true_eq]
  constructor
  · intro e
    have p := h.2
    have s := pair_of_sorted h.1
    rw [← e] at p s
    exact pair_lt s (p.nodup_iff.mpr (nodup_firsts _ List.nodup_nil))
  · intro a
    have p := lt_pair a
    have nd : ls.Nodup := p.imp (fun {x y} hxy z => by rw [z] at hxy; exact absurd hxy (List.lt_irrefl _))
    have hp : ls.Pairwise leS := p.imp (fun {x y} hxy => leS_iff.mpr (List.le_of_lt hxy))
    have ef : firsts [] ls = ls.reverse := by
      have := firsts_id (l := ls) (acc := []) (by rw [List.append_nil]; exact (List.reverse_perm ls).nodup_iff.mpr nd)
      rw [List.append_nil] at this
      exact this
    have perm : ls.Perm ys := by
      refine List.Perm.symm (h.2.trans ?_)
      rw [ef]
      exact List.reverse_perm ls
    exact perm.eq_of_pairwise (fun _ _ _ _ => leS_anti) hp (pair_of_sorted h.1)
theorem eqv_strs : ∀ xs ys : List Str, PyData.eqvAll (xs.map PyData.str) (ys.map PyData.str) = decide (xs = ys)
  | [], [] => rfl
  | x :: xs, [] => by
    show PyData.eqvAll (.str x :: xs.map PyData.str) [] = false
    unfold PyData.eqvAll
    rfl
  | [], y :: ys => by
    show PyData.eqvAll [] (.str y :: ys.map PyData.str) = false
    unfold PyData.eqvAll
    rfl
  | x :: xs, y :: ys => by
    have h := eqv_strs xs ys
    show PyData.eqvAll (.str x :: xs.map PyData.str) (.str y :: ys.map PyData.str) = _
    unfold PyData.eqvAll
    have e : PyData.eqv (.str x) (.str y) = (x == y) := by unfold PyData.eqv; rfl
    rw [h, e, Bool.eq_iff_iff]
    simp
theorem eqv_listS (xs ys : List Str) : PyData.eqv (.list (xs.map PyData.str)) (.list (ys.map PyData.str)) = decide (xs = ys) := by
  rw [← eqv_strs]
  unfold PyData.eqv
  rfl
theorem lay_strs : ∀ xs : List Str, (∀ x ∈ xs, PyData.strOk x = true) → PyData.canLayAll0 (xs.map PyData.str) = true
  | [], _ => rfl
  | x :: xs, h => by
    show (PyData.canLay0 (.str x) && PyData.canLayAll0 (xs.map PyData.str)) = true
    rw [lay_strs xs fun y hy => h y (List.mem_cons_of_mem _ hy), Bool.and_true]
    have := h x (List.mem_cons_self ..)
    unfold PyData.canLay0
    exact this
theorem dep_strs : ∀ xs : List Str, PyData.depthAll (xs.map PyData.str) = 0
  | [] => rfl
  | x :: xs => by
    show max (PyData.depth (.str x)) (PyData.depthAll (xs.map PyData.str)) = 0
    rw [dep_strs xs]
    rfl
theorem sh_strs (xs : List Str) (h : ∀ x ∈ xs, PyData.strOk x = true) : SeqAt.shaped (.list (xs.map PyData.str)) = true := by
  show (PyData.canLay0 (.list (xs.map PyData.str)) && decide (PyData.depth (.list (xs.map PyData.str)) ≤ 64)) = true
  have h1 : PyData.canLay0 (.list (xs.map PyData.str)) = true := by
    unfold PyData.canLay0
    exact lay_strs xs h
  have h2 : PyData.depth (.list (xs.map PyData.str)) ≤ 64 := by
    unfold PyData.depth
    rw [dep_strs]
    decide
  rw [h1, decide_eq_true h2]
  rfl
theorem dp_strs {K : PySem.W.Frag} {H : Hp} : ∀ xs : List Str, DpAll K H (xs.map V.str) (xs.map PyData.str)
  | [] => .nil
  | x :: xs => .cons (.str x) (dp_strs xs)
def spLName (n : Nat) : Sp := fun vs H Q _ => ∃ (S0 : Addr → Prop) (v : V) (d : PyData), vs = [v] ∧ Dt S0 H v d ∧ smlD d = true ∧ parD n d = true ∧ ∀ H', Same H H' → Q (.bl (isNameD d)) H'
def parDs (n : Nat) : PyData → Bool
  | .tuple ds => ds.all (parD n)
  | _ => true
def spLSet (n : Nat) : Sp := fun vs H Q _ => ∃ (S0 : Addr → Prop) (v : V) (d : PyData), vs = [v] ∧ Dt S0 H v d ∧ smlD d = true ∧ parDs n d = true ∧ ∀ H', Same H H' → Q (.bl (setD d)) H'
theorem lval_name (d : PyData) : lvalD d = false → isNameD d = false := fun h => by
  cases d with
  | str x =>
    obtain ⟨l, rfl⟩ : ∃ l : List Nat, x = S l := ⟨x.cps.toList, (SX.S_tl x).symm⟩
    rw [name_S, ← value_name]
    have h : valueL l = false := h
    rw [h]
    rfl
  | _ => rfl
theorem setD_no {ds : List PyData} (h : ds.all isNameD = false) : setD (.tuple ds) = false := by
  show (ds.all isNameD && _) = false
  rw [h]
  rfl
theorem sml_ok {x : Str} (h : smlD (.str x) = true) : PyData.strOk x = true := by
  have h : (decide (x.length ≤ 1000) && PyData.strOk x) = true := by unfold smlD at h; exact h
  rw [Bool.and_eq_true] at h
  exact h.2
section
variable {P : Program} {w : World} {K : PySem.W.Frag} {mg : Str → Option Value} {base : Heap} {f fV fN : Addr} {fd dV dN : FuncData} {k n : Nat}
theorem scLN : FnScope ["_law_thing", "_law_sign"] ["_law_thing"] (defScope sLName) := ⟨rfl, rfl, rfl, by decide +kernel, rfl, by decide +kernel, by decide +kernel⟩
theorem ok_lname (F : Fun K "_law_is_name" "_law_is_name" sLName f fd) (gV : mg "_law_is_value" = some (.ref fV)) (kV : PySem.W.keepIn K (.ref fV) = true) (bV : Binds K dV ["_law_thing"] []) (GV : FnOk P w K mg base CX0 k fV dV ["_law_thing"] (spLVal n)) : FnOk P w K mg base CX0 (k + 1) f fd ["_law_thing"] (spLName n) := by
  refine F.ok scLN (fun vs H Q E h => ?_) (fun cdv A outer s H vs Q E hr h => ?_)
  · obtain ⟨_, v, d, rfl, _⟩ := h
    rfl
  · obtain ⟨S0, v, d, rfl, hd, sm, sh, q⟩ := h
    have hu : (A.deeper (envOfC "_law_is_name" (defScope sLName) s.heap.objs.size f cdv)).units < cLine := by
      have := hr.un
      omega
    refine ⟨_, pss_one (ps_ret (pe_and (pe_call GV hr (by rfl) gV kV bV .nil pass0 (pa_cons (pv 0) pa_nil)) (pe_one (pe_cmpR (op_eqL0 hu) (pe_lc (own := [("_law_sign", 1)]) rfl scLN.nd (pi_str (pv 0)) (blkOk_by (N := ["_law_thing", "_law_sign"]) (sc := defScope sLName) (by decide +kernel))
          (fun _ _ _ _ _ => pg_name (i := 1) scLN.nd rfl (Or.inl rfl)) (fun _ _ _ _ _ => pts_one (pt_not (pt_chain op_le_str op_le_str pe_str (pv 1) pe_str))) (fun _ _ _ _ _ => pv 1)) (pe_lst pa_nil) (by rfl))))), ?_⟩
    refine ⟨_, rfl, S0, v, d, rfl, hd, sm, sh, fun H1 s1 => ⟨_, rfl, ?_⟩⟩
    cases hv : lvalD d with
    | false =>
      have z := q H1 s1
      rw [lval_name d hv] at z
      exact iteF z
    | true =>
      cases d with
      | str x =>
        obtain rfl : v = .str x := by
          cases hd with
          | «at» a => cases a; rfl
        obtain ⟨l, rfl⟩ : ∃ l : List Nat, x = S l := ⟨x.cps.toList, (SX.S_tl x).symm⟩
        have ll : l.length ≤ 1000 := by
          have sm2 : (decide ((S l).length ≤ 1000) && PyData.strOk (S l)) = true := by unfold smlD at sm; exact sm
          rw [Bool.and_eq_true, decide_eq_true_eq, SX.S_len] at sm2
          exact sm2.1
        have hv : valueL l = true := hv
        refine iteT ⟨_, rfl, S l, rfl, fun Dl hD => lc_its (PvQ H1 Dl (l.map letC)) (PvQ.zero hD) (fun i c H3 hc p => ?_) (fun H5 p => ?_)⟩
        · have hb : (l.map letC)[i]? = some (letC c) := by
            rw [List.getElem?_map]
            have : l[i]? = some c := hc
            rw [this]
            rfl
          have lC : letC c = (decide (97 ≤ c) && decide (c ≤ 122)) := rfl
          have yes : letC c = true → PvQ H1 Dl (l.map letC) (i + 1) H3 := fun z => p.yes (by rw [hb, z]) (Same.refl _)
          have no : ∀ {y : V}, letC c = false → ∃ acc, H3 Dl = some (.lst acc) ∧ acc.length < sizeLine ∧ PvQ H1 Dl (l.map letC) (i + 1) (upd H3 Dl (.lst (acc ++ [y]))) := fun {y} z => p.no hD (by rw [List.length_map]; exact ll) (by rw [hb, z]) (Same.refl _)
          refine ⟨rfl, _, rfl, "a", ⟨#[c]⟩, rfl, rfl, _, rfl, ?_⟩
          rw [leA]
          cases h97 : decide (97 ≤ c) with
          | false => exact iteF ⟨_, rfl, iteT ⟨_, rfl, no (by rw [lC, h97]; rfl)⟩⟩
          | true =>
            refine iteT ⟨⟨#[c]⟩, "z", rfl, rfl, _, rfl, ?_⟩
            rw [leZ]
            cases h122 : decide (c ≤ 122) with
            | false => exact iteT ⟨_, rfl, no (by rw [lC, h97, h122]; rfl)⟩
            | true => exact iteF (yes (by rw [lC, h97, h122]; rfl))
        · obtain ⟨s5, acc, e5, z5⟩ := p.all (by rw [List.length_map])
          refine ⟨(by show 0 ≤ sizeLine; decide), fun p2 h2 => ⟨Dl, p2, acc, rfl, rfl, SqL.of (same_upd h2 _ _ e5), SqL.of upd_same, ?_⟩⟩
          have z := q _ ((s1.trans s5).trans (same_upd (o := .lst []) h2))
          rw [name_S, ← value_name, hv, Bool.true_and] at z
          rw [all_map_id] at z5
          show Q (.bl acc.isEmpty) _
          rw [z5]
          exact z
      | _ => cases hv
theorem scLS : FnScope ["_law_thing", "_law_name"] ["_law_thing"] (defScope sLSet) := ⟨rfl, rfl, rfl, by decide +kernel, rfl, by decide +kernel, by decide +kernel⟩
theorem ok_lset (F : Fun K "_law_is_set" "_law_is_set" sLSet f fd) (isi : mg "isinstance" = none) (tp : mg "tuple" = none) (ls : mg "list" = none) (so : mg "sorted" = none) (se : mg "set" = none) (gN : mg "_law_is_name" = some (.ref fN)) (kN : PySem.W.keepIn K (.ref fN) = true) (bN : Binds K dN ["_law_thing"] []) (GN : FnOk P w K mg base CX0 k fN dN ["_law_thing"] (spLName n)) :
    FnOk P w K mg base CX0 (k + 1) f fd ["_law_thing"] (spLSet n) := by
  refine F.ok scLS (fun vs H Q E h => ?_) (fun cdv A outer s H vs Q E hr h => ?_)
  · obtain ⟨_, v, d, rfl, _⟩ := h
    rfl
  · obtain ⟨S0, v, d, rfl, hd, sm, sh, q⟩ := h
    have hu : (A.deeper (envOfC "_law_is_set" (defScope sLSet) s.heap.objs.size f cdv)).units + 64 < cLine := by
      have := hr.un
      omega
    have hu2 : (A.deeper (envOfC "_law_is_set" (defScope sLSet) s.heap.objs.size f cdv)).units < cLine := by omega
    refine ⟨_, pss_cons (ps_if (PW.pt (pw_or (pt_not (pt_val (pe_callB call_isi (by rfl) isi (by decide +kernel) (pa_cons (pv 0) (pa_cons (pe_bltn (v := .ty "tuple") (u := .type "tuple") (by rfl) tp (by decide +kernel) rfl) pa_nil)))))
        (pw_or1 (pt_cmpR (op_neL0 hu2) (pe_lc (own := [("_law_name", 1)]) rfl scLS.nd (pi_tup (pv 0)) (blkOk_by (N := ["_law_thing", "_law_name"]) (sc := defScope sLSet) (by decide +kernel))
          (fun _ _ _ _ _ => pg_name (i := 1) scLS.nd rfl (Or.inl rfl)) (fun _ _ _ _ _ => pts_one (pt_not (pt_val (pe_call GN hr (by rfl) gN kN bN .nil pass0 (pa_cons (pv 1) pa_nil))))) (fun _ _ _ _ _ => pv 1)) (pe_lst pa_nil) (by rfl))))) (pss_one (ps_ret pe_bl)) pss_nil)
      (pss_one (ps_ret (pe_cmpR (op_eqD hu) (pe_callTy call_list_of (by rfl) ls (by decide +kernel) (pa_cons (pv 0) pa_nil)) (pe_callB (cr_sortX rfl) (by rfl) so (by decide +kernel) (pa_cons (pe_callTy (cr_setX rfl) (by rfl) se (by decide +kernel) (pa_cons (pv 0) pa_nil)) pa_nil)) (nomark _)))), ?_⟩
    cases ht : isTupD d with
    | false =>
      have e : setD d = false := by cases d <;> first | rfl | cases ht
      refine isi_te (x := v) rfl hd.tyx ((kit_tup d).trans (congrArg some ht)) ⟨_, rfl, iteT (iteT ?_)⟩
      have z := q H (Same.refl _)
      rw [e] at z
      exact z
    | true =>
      cases d with
      | tuple ds =>
        obtain ⟨a, xs, rfl, ea, hl, hx⟩ := hd.tup_of
        have sa : smlAll ds = true := by
          unfold smlD at sm
          exact sm
        have sh : ds.all (parD n) = true := sh
        have xl := hx.length
        refine isi_te (x := .ref a) rfl (.base (.tup ea)) (kit_tup (.tuple ds)) ⟨_, rfl, iteF ?_⟩
        refine ⟨_, rfl, a, rfl, ⟨xs, SqT.of ea⟩, fun Dl hD => lc_tup (PvQ H Dl (ds.map isNameD)) (PvQ.zero hD) (fun i H' _ p => SqT.of (p.1 _ _ ea)) (fun i x H3 hi p => ?_) (fun H5 p => ?_)⟩
        · obtain ⟨e, he, hde⟩ := hx.get hi
          have hb : (ds.map isNameD)[i]? = some (isNameD e) := by
            rw [List.getElem?_map, he]
            rfl
          refine ⟨rfl, _, rfl, S0, x, e, rfl, hde.mv (fun _ z => z) (fun b o _ eb => p.1 b o eb), sml_get sa he, List.all_eq_true.mp sh e (List.mem_of_getElem? he), fun H4 s4 => ⟨_, rfl, ?_⟩⟩
          cases hn : isNameD e with
          | true => exact iteF (p.yes (by rw [hb, hn]) s4)
          | false => exact iteT ⟨_, rfl, p.no hD (by rw [List.length_map]; omega) (by rw [hb, hn]) s4⟩
        · obtain ⟨s5, acc, e5, z5⟩ := p.all (by rw [List.length_map]; exact xl)
          rw [all_map_id] at z5
          refine ⟨(by show 0 ≤ sizeLine; decide), fun p2 h2 => ⟨Dl, p2, acc, rfl, rfl, SqL.of (same_upd h2 _ _ e5), SqL.of upd_same, ?_⟩⟩
          have s6 := s5.trans (same_upd (o := .lst []) h2)
          generalize upd H5 p2 (.lst []) = H6 at s6 ⊢
          refine ⟨_, rfl, ?_⟩
          show if (!acc.isEmpty) = true then _ else _
          rw [z5]
          cases hn : ds.all isNameD with
          | false =>
            have z := q H6 s6
            rw [setD_no hn] at z
            exact iteT z
          | true =>
            have exs := dt_names hx hn
            have oks : ∀ x ∈ ds.map strD, PyData.strOk x = true := fun x hx => by
              obtain ⟨e, he, rfl⟩ := List.mem_map.mp hx
              obtain ⟨j, hj⟩ := List.getElem?_of_mem he
              have s1 := sml_get sa hj
              have n1 := List.all_eq_true.mp hn e he
              cases e with
              | str y => exact sml_ok s1
              | _ => cases n1
            have q' : ∀ H', Same H6 H' → Q (.bl ((List.zipWith ltS (ds.map strD) (ds.map strD).tail).all id)) H' := fun H' s' => by
              have z := q H' (s6.trans s')
              rw [show setD (.tuple ds) = (ds.all isNameD && (List.zipWith ltS (ds.map strD) (ds.map strD).tail).all id) from rfl, hn, Bool.true_and] at z
              exact z
            have ll : (ds.map strD).length = ds.length := List.length_map _
            generalize ds.map strD = ls at exs oks q' ll
            subst exs
            have ea6 := s6 _ _ ea
            refine iteF ⟨_, rfl, a, _, rfl, .inr (SqT.of ea6), fun b hb => ?_⟩
            have s7 := same_upd (o := .lst (ls.map V.str)) hb
            refine ⟨_, rfl, a, ls, rfl, .inr (SqT.of (s7 _ _ ea6)), ?_, fun p3 hp3 => ?_⟩
            · have l5 : scanBound = 4096 := rfl
              omega
            have s8 := same_upd (o := SetTO w p3 (firsts [] ls)) hp3
            refine ⟨p3, _, rfl, upd_same, fun ys p4 pm sor hp4 => ?_⟩
            have s9 := same_upd (o := .lst (ys.map V.str)) hp4
            have oky : ∀ y ∈ ys, PyData.strOk y = true := fun y hy => oks y (by
              have := pm.mem_iff.mp hy
              rw [mem_firsts] at this
              simpa using this)
            refine ⟨.list (ls.map PyData.str), .list (ys.map PyData.str), .lst (SqL.of (s9 _ _ (s8 _ _ upd_same))) (dp_strs _), .lst (SqL.of upd_same) (dp_strs _), sh_strs _ oks, sh_strs _ oky, ?_⟩
            rw [eqv_listS, asc_iff ⟨sor, pm⟩]
            exact q' _ ((s7.trans s8).trans s9)
      | _ => cases ht
end
end OM

namespace OM.VL
/-! drawn trees: how deep, how long, of which signs -/
def dr : Nat → Tr → Bool
  | _, .lf w => atomL w && decide (w.length ≤ 12)
  | 0, _ => false
  | _ + 1, .nd0 f => nameL f
  | n + 1, .nd1 f t => nameL f && dr n t
  | n + 1, .nd2 f t u => nameL f && (dr n t && dr n u)
theorem dr_ok : ∀ {n : Nat} {t : Tr}, dr n t = true → okT t = true
  | _, .lf w, h => by
    unfold dr at h
    rw [Bool.and_eq_true] at h
    exact h.1
  | 0, .nd0 f, h => by unfold dr at h; cases h
  | 0, .nd1 f t, h => by unfold dr at h; cases h
  | 0, .nd2 f t u, h => by unfold dr at h; cases h
  | _ + 1, .nd0 f, h => h
  | n + 1, .nd1 f t, h => by
    unfold dr at h
    rw [Bool.and_eq_true] at h
    show (nameL f && okT t) = true
    rw [h.1, dr_ok h.2]
    rfl
  | n + 1, .nd2 f t u, h => by
    unfold dr at h
    rw [Bool.and_eq_true, Bool.and_eq_true] at h
    show (nameL f && (okT t && okT u)) = true
    rw [h.1, dr_ok h.2.1, dr_ok h.2.2]
    rfl
def bd : Nat → Nat
  | 0 => 12
  | n + 1 => 2 * bd n + 12
theorem bd12 (n : Nat) : 12 ≤ bd n := by
  cases n with
  | zero => exact Nat.le_refl _
  | succ n => show 12 ≤ 2 * bd n + 12; omega
theorem name_len {f : List Nat} (h : nameL f = true) : f.length ≤ 8 := by
  unfold nameL at h
  simp only [Bool.and_eq_true, decide_eq_true_eq] at h
  exact h.2.1
theorem dr_len : ∀ {n : Nat} {t : Tr}, dr n t = true → (tx t).length ≤ bd n
  | n, .lf w, h => by
    unfold dr at h
    rw [Bool.and_eq_true, decide_eq_true_eq] at h
    exact Nat.le_trans h.2 (bd12 n)
  | 0, .nd0 f, h => by unfold dr at h; cases h
  | 0, .nd1 f t, h => by unfold dr at h; cases h
  | 0, .nd2 f t u, h => by unfold dr at h; cases h
  | n + 1, .nd0 f, h => by
    have := name_len (f := f) h
    have := bd12 n
    show (f ++ [40, 41]).length ≤ 2 * bd n + 12
    simp
    omega
  | n + 1, .nd1 f t, h => by
    unfold dr at h
    rw [Bool.and_eq_true] at h
    have := name_len h.1
    have := dr_len h.2
    show (f ++ 40 :: (tx t ++ [41])).length ≤ 2 * bd n + 12
    simp
    omega
  | n + 1, .nd2 f t u, h => by
    unfold dr at h
    rw [Bool.and_eq_true, Bool.and_eq_true] at h
    have := name_len h.1
    have := dr_len h.2.1
    have := dr_len h.2.2
    show (f ++ 40 :: (tx t ++ 44 :: 32 :: (tx u ++ [41]))).length ≤ 2 * bd n + 12
    simp
    omega
theorem dr_lv : ∀ {n : Nat} {t : Tr}, dr n t = true → (lv t).length ≤ 2 ^ n
  | n, .lf w, h => Nat.one_le_two_pow
  | 0, .nd0 f, h => by unfold dr at h; cases h
  | 0, .nd1 f t, h => by unfold dr at h; cases h
  | 0, .nd2 f t u, h => by unfold dr at h; cases h
  | n + 1, .nd0 f, h => Nat.zero_le _
  | n + 1, .nd1 f t, h => by
    unfold dr at h
    rw [Bool.and_eq_true] at h
    have := dr_lv h.2
    show (lv t).length ≤ 2 ^ (n + 1)
    rw [Nat.pow_succ]
    omega
  | n + 1, .nd2 f t u, h => by
    unfold dr at h
    rw [Bool.and_eq_true, Bool.and_eq_true] at h
    have := dr_lv h.2.1
    have := dr_lv h.2.2
    show (lv t ++ lv u).length ≤ 2 ^ (n + 1)
    rw [Nat.pow_succ, List.length_append]
    omega
/-- how many opening parentheses -/
def cb : Nat → Nat
  | 0 => 0
  | n + 1 => 2 * cb n + 1
theorem cnt_clean {w : List Nat} (h : clean w = true) : w.count 40 = 0 := List.count_eq_zero.mpr fun z => by
  have := List.all_eq_true.mp h 40 z
  exact absurd this (by decide)
theorem dr_cnt : ∀ {n : Nat} {t : Tr}, dr n t = true → (tx t).count 40 ≤ cb n
  | n, .lf w, h => by
    unfold dr at h
    rw [Bool.and_eq_true] at h
    show w.count 40 ≤ _
    rw [cnt_clean (clean_atom h.1).1]
    exact Nat.zero_le _
  | 0, .nd0 f, h => by unfold dr at h; cases h
  | 0, .nd1 f t, h => by unfold dr at h; cases h
  | 0, .nd2 f t u, h => by unfold dr at h; cases h
  | n + 1, .nd0 f, h => by
    show (f ++ [40, 41]).count 40 ≤ 2 * cb n + 1
    rw [List.count_append, cnt_clean (clean_name (w := f) h).1]
    have : ([40, 41] : List Nat).count 40 = 1 := rfl
    omega
  | n + 1, .nd1 f t, h => by
    unfold dr at h
    rw [Bool.and_eq_true] at h
    have := dr_cnt h.2
    show (f ++ 40 :: (tx t ++ [41])).count 40 ≤ 2 * cb n + 1
    rw [List.count_append, cnt_clean (clean_name h.1).1, List.count_cons_self, List.count_append]
    have : ([41] : List Nat).count 40 = 0 := rfl
    omega
  | n + 1, .nd2 f t u, h => by
    unfold dr at h
    rw [Bool.and_eq_true, Bool.and_eq_true] at h
    have := dr_cnt h.2.1
    have := dr_cnt h.2.2
    show (f ++ 40 :: (tx t ++ ([44, 32] ++ (tx u ++ [41])))).count 40 ≤ 2 * cb n + 1
    rw [List.count_append, cnt_clean (clean_name h.1).1, List.count_cons_self, List.count_append, List.count_append, List.count_append]
    have : ([41] : List Nat).count 40 = 0 := rfl
    have : ([44, 32] : List Nat).count 40 = 0 := rfl
    omega
/-- plain signs -/
def asc (l : List Nat) : Bool := l.all fun c => decide (32 ≤ c) && decide (c ≤ 126)
theorem asc_app {a b : List Nat} : asc (a ++ b) = (asc a && asc b) := List.all_append
theorem asc_let {w : List Nat} (h : w.all letC = true) : asc w = true := List.all_eq_true.mpr fun c hc => by
  have := List.all_eq_true.mp h c hc
  unfold letC at this
  simp only [Bool.and_eq_true, decide_eq_true_eq] at this ⊢
  omega
theorem asc_dig {w : List Nat} (h : w.all digC = true) : asc w = true := List.all_eq_true.mpr fun c hc => by
  have := List.all_eq_true.mp h c hc
  unfold digC at this
  simp only [Bool.and_eq_true, decide_eq_true_eq] at this ⊢
  omega
theorem asc_atom {w : List Nat} (h : atomL w = true) : asc w = true := by
  rcases atom_split h with h | ⟨a, n, rfl, ha, hn, num⟩
  · exact asc_let (name_let h)
  · unfold numOk at num
    simp only [Bool.and_eq_true] at num
    rw [asc_app, asc_let ha]
    show asc (46 :: n) = true
    have := asc_dig num.2.2
    unfold asc at this ⊢
    rw [List.all_cons, this]
    rfl
theorem asc_tx : ∀ {t : Tr}, okT t = true → asc (tx t) = true
  | .lf w, h => asc_atom h
  | .nd0 f, h => by
    show asc (f ++ [40, 41]) = true
    rw [asc_app, asc_let (name_let h)]
    rfl
  | .nd1 f t, h => by
    obtain ⟨h1, h2⟩ := Bool.and_eq_true_iff.mp h
    show asc (f ++ 40 :: (tx t ++ [41])) = true
    rw [show f ++ 40 :: (tx t ++ [41]) = f ++ ([40] ++ (tx t ++ [41])) from rfl, asc_app, asc_app, asc_app, asc_let (name_let h1), asc_tx h2]
    rfl
  | .nd2 f t u, h => by
    obtain ⟨h1, h2⟩ := Bool.and_eq_true_iff.mp h
    obtain ⟨h2, h3⟩ := Bool.and_eq_true_iff.mp h2
    show asc (f ++ 40 :: (tx t ++ 44 :: 32 :: (tx u ++ [41]))) = true
    rw [show f ++ 40 :: (tx t ++ 44 :: 32 :: (tx u ++ [41])) = f ++ ([40] ++ (tx t ++ ([44, 32] ++ (tx u ++ [41])))) from rfl, asc_app, asc_app, asc_app, asc_app, asc_app, asc_let (name_let h1), asc_tx h2, asc_tx h3]
    rfl
theorem asc_sub {l m : List Nat} (h : asc l = true) (s : ∀ c ∈ m, c ∈ l) : asc m = true := List.all_eq_true.mpr fun c hc => List.all_eq_true.mp h c (s c hc)
theorem asc_take {l : List Nat} (h : asc l = true) (i : Nat) : asc (l.take i) = true := asc_sub h fun _ => List.mem_of_mem_take
theorem asc_drop {l : List Nat} (h : asc l = true) (i : Nat) : asc (l.drop i) = true := asc_sub h fun _ => List.mem_of_mem_drop
theorem asc_10 {l : List Nat} (h : asc l = true) : 10 ∉ l := fun z => by
  have := List.all_eq_true.mp h 10 z
  exact absurd this (by decide)
/-- a node of up to two trees -/
def mkN (f : List Nat) : List Tr → Tr
  | [t] => .nd1 f t
  | [t, u] => .nd2 f t u
  | _ => .nd0 f
theorem dr_mkN {n : Nat} {f : List Nat} {ts : List Tr} (hf : nameL f = true) (h : ∀ t ∈ ts, dr n t = true) : dr (n + 1) (mkN f ts) = true := by
  match ts, h with
  | [], _ => exact hf
  | [t], h =>
    show (nameL f && dr n t) = true
    rw [hf, h t (by simp)]
    rfl
  | [t, u], h =>
    show (nameL f && (dr n t && dr n u)) = true
    rw [hf, h t (by simp), h u (by simp)]
    rfl
  | _ :: _ :: _ :: _, _ => exact hf
end OM.VL

namespace OM
open PySem PySem.Spec PyProof.Rows L2 VL
abbrev sDrawn : Stmt := top 50
/-- a tree as a datum -/
def trD : Tr → PyData
  | .lf w => .str (S w)
  | .nd0 f => .list [.str (S f)]
  | .nd1 f t => .list [.str (S f), trD t]
  | .nd2 f t u => .list [.str (S f), trD t, trD u]
theorem trD_mkN {f : List Nat} {ts : List Tr} (h : ts.length ≤ 2) : trD (mkN f ts) = .list (.str (S f) :: ts.map trD) := by
  match ts, h with
  | [], _ => rfl
  | [t], _ => rfl
  | [t, u], _ => rfl
  | _ :: _ :: _ :: _, h => simp at h
def wds : List Str := ["a", "b", "f", "x", "zz", "ifs", "getter", "abcdefgh"]
def wds9 : List Str := ["a", "b", "f", "x", "zz", "ifs", "getter", "abcdefgh", "get"]
def nums6 : List Int := [1, 2, 9, 10, 100, 999]
theorem wds_ok : ∀ x ∈ wds, nameL x.cps.toList = true := by decide +kernel
theorem unk_ok : ∀ x ∈ wds9, ∀ i ∈ nums6, atomL (unkT x i).cps.toList = true ∧ (unkT x i).cps.toList.length ≤ 12 := by decide +kernel
theorem unk_sz : ∀ x ∈ wds9, x.length ≤ 8 := by decide +kernel
theorem nums_ok : ∀ i ∈ nums6, 0 ≤ i ∧ i < 1000 := by decide +kernel
def spDrawn : Nat → Sp
  | 0 => fun _ _ _ _ => False
  | n + 1 => fun vs H Q _ => ∃ d : Addr, vs = [.ref d, .int (n : Int)] ∧ Dice H d ∧ ∀ H' v t, But d H H' → Dice H' d → dr n t = true → Dt (fun b => H b = none) H' v (trD t) → Q v H'
/-- the functions of the dice -/
structure DiceF (K : PySem.W.Frag) (mg : Str → Option Value) (fR fO : Addr) (fdR fdO : FuncData) : Prop where
  FR : Fun K "_law_roll" "_law_roll" sRoll fR fdR
  FO : Fun K "_law_one_of" "_law_one_of" sOneOf fO fdO
  gR : mg "_law_roll" = some (.ref fR)
  gO : mg "_law_one_of" = some (.ref fO)
  bR : Binds K fdR ["_law_dice_here", "_law_total"] []
  bO : Binds K fdO ["_law_dice_here", "_law_items"] []
  T : TxtD mg
abbrev nDr : List Str := ["_law_dice_here", "_law_deep", "_law_words", "_law_way", "_law_turn"]
theorem But.tr {d : Addr} {H H1 H2 : Hp} (x : But d H H1) (y : But d H1 H2) : But d H H2 := fun c o h e => y c o h (x c o h e)
theorem Same.but {d : Addr} {H H' : Hp} (x : Same H H') : But d H H' := fun c o _ e => x c o e
theorem Dice.same {d : Addr} {H H' : Hp} (x : Same H H') (h : Dice H d) : Dice H' d := by
  obtain ⟨a1, a2, a3, e⟩ := h
  exact ⟨a1, a2, a3, x _ _ e⟩
theorem Dice.upd {d p : Addr} {H : Hp} {o : HO} (h : Dice H d) (ne : p ≠ d) : Dice (L2.upd H p o) d := by
  obtain ⟨a1, a2, a3, e⟩ := h
  exact ⟨a1, a2, a3, by rw [upd_ne (Ne.symm ne)]; exact e⟩
theorem free_but {d : Addr} {H G : Hp} (b : But d H G) (hd : Dice G d) : ∀ x, G x = none → H x = none := fun x hx => by
  cases y : H x with
  | none => rfl
  | some o =>
    by_cases e : x = d
    · subst e
      exact absurd hx hd.ne
    · rw [b x o e y] at hx
      cases hx
theorem dI (a b : Int) : decide (V.int a = V.int b) = decide (a = b) := decide_eq_decide.mpr ⟨fun z => V.int.inj z, fun z => by rw [z]⟩
section
variable {P : Program} {w : World} {K : PySem.W.Frag} {mg : Str → Option Value} {base : Heap} {f fR fO : Addr} {fd fdR fdO : FuncData} {n k : Nat}
theorem scDr : FnScope nDr ["_law_dice_here", "_law_deep"] (defScope sDrawn) := ⟨rfl, rfl, rfl, by decide +kernel, rfl, by decide +kernel, by decide +kernel⟩
theorem drawn_step (F : Fun K "_law_drawn" "_law_drawn" sDrawn f fd) (D : DiceF K mg fR fO fdR fdO) (rng : mg "range" = none) (st : mg "str" = none) (gS : mg "_law_drawn" = some (.ref f)) (bS : Binds K fd ["_law_dice_here", "_law_deep"] [])
    (G : FnOk P w K mg base CX0 (k + 2) f fd ["_law_dice_here", "_law_deep"] (spDrawn n)) : FnOk P w K mg base CX0 (k + 3) f fd ["_law_dice_here", "_law_deep"] (spDrawn (n + 1)) := by
  have GR : FnOk P w K mg base CX0 1 fR fdR ["_law_dice_here", "_law_total"] spRoll := ok_roll D.FR D.T
  have GO : FnOk P w K mg base CX0 2 fO fdO ["_law_dice_here", "_law_items"] (spOneOf K) := ok_oneof D.FO D.T D.FR D.gR D.bR
  refine F.ok scDr (fun vs H Q E h => ?_) (fun cdv A outer s H vs Q E hr h => ?_)
  · obtain ⟨d, rfl, _⟩ := h
    rfl
  · obtain ⟨d, rfl, hd, q⟩ := h
    refine ⟨_, pss_cons (ps_set (i := 2) scDr.nd rfl (Or.inl rfl) (pe_lst (pa_cons pe_str (pa_cons pe_str (pa_cons pe_str (pa_cons pe_str (pa_cons pe_str (pa_cons pe_str (pa_cons pe_str (pa_cons pe_str pa_nil))))))))))
      (pss_cons (ps_set (i := 3) scDr.nd rfl (Or.inl rfl) (pe_call GR (hr.mono (by omega)) (by rfl) D.gR D.FR.kp D.bR .nil pass0 (pa_cons (pv 0) (pa_cons pe_int pa_nil))))
      (pss_cons (ps_if (PW.pt (pw_or (pt_cmpR op_eq (pv 3) pe_int (nomark _)) (pw_or1 (PW.pt (pw_and (pt_cmpR op_eq (pv 1) pe_int (nomark _)) (pw_and1 (pt_cmpR op_gt (pv 3) pe_int (nomark _)))))))) (pss_one (ps_ret (pe_call GO (hr.mono (by omega)) (by rfl) D.gO D.FO.kp D.bO .nil pass0 (pa_cons (pv 0) (pa_cons (pv 2) pa_nil))))) pss_nil)
      (pss_cons (ps_if (pt_cmpR op_lt (pv 3) pe_int (nomark _)) (pss_one (ps_ret (pe_op op_add_str (pe_op op_add_str (pe_call GO (hr.mono (by omega)) (by rfl) D.gO D.FO.kp D.bO .nil pass0 (pa_cons (pv 0) (pa_cons (pe_op op_cat (pv 2) (pe_lst (pa_cons pe_str pa_nil))) pa_nil))) pe_str)
          (pe_callTy call_str_int (by rfl) st (by decide +kernel) (pa_cons (pe_call GO (hr.mono (by omega)) (by rfl) D.gO D.FO.kp D.bO .nil pass0 (pa_cons (pv 0) (pa_cons (pe_lst (pa_cons pe_int (pa_cons pe_int (pa_cons pe_int (pa_cons pe_int (pa_cons pe_int (pa_cons pe_int pa_nil))))))) pa_nil))) pa_nil))))) pss_nil)
      (pss_one (ps_ret (pe_op op_cat (pe_lst (pa_cons (pe_call GO (hr.mono (by omega)) (by rfl) D.gO D.FO.kp D.bO .nil pass0 (pa_cons (pv 0) (pa_cons (pv 2) pa_nil))) pa_nil))
        (pe_lc (own := [("_law_turn", 4)]) rfl scDr.nd (pi_range1 (by rfl) rng (pa_cons (pe_call GR (hr.mono (by omega)) (by rfl) D.gR D.FR.kp D.bR .nil pass0 (pa_cons (pv 0) (pa_cons pe_int pa_nil))) pa_nil)) (blkOk_by (N := nDr) (sc := defScope sDrawn) (by decide +kernel))
          (fun _ _ _ _ _ => pg_name (i := 4) scDr.nd rfl (Or.inl rfl)) (fun _ _ _ _ _ => pts_nil) (fun _ _ _ _ _ => pe_call G hr (by rfl) gS F.kp bS .nil pass0 (pa_cons (pv 0) (pa_cons (pe_op op_sub (pv 1) pe_int) pa_nil)))))))))), ?_⟩
    refine ⟨(by show 8 ≤ sizeLine; decide), fun pw hw => ?_⟩
    have sw := same_upd (o := .lst (wds.map V.str)) hw
    have wd : pw ≠ d := fun z => hd.ne (by rw [← z]; exact hw)
    have hd0 : Dice (upd H pw (.lst (wds.map V.str))) d := hd.same sw
    have ew0 : upd H pw (.lst (wds.map V.str)) pw = some (.lst (wds.map V.str)) := upd_same
    have fr0 : ∀ x, upd H pw (.lst (wds.map V.str)) x = none → H x = none := fun x hx => sw.free hx
    show gName 2 _ _ (upd H pw (.lst (wds.map V.str))) _
    generalize upd H pw (.lst (wds.map V.str)) = H0 at sw hd0 ew0 fr0 ⊢
    refine ⟨_, rfl, d, 5, rfl, hd0, by decide, by decide, fun H1 r r0 r5 b1 hd1 => ?_⟩
    have ew1 := b1 _ _ wd ew0
    have bt1 : But d H H1 := (Same.but sw).tr b1
    have sq1 : SqL K H1 pw (wds.map V.str) := SqL.of ew1
    -- a word
    have word : ∀ (H2 : Hp) (Z : VK), But d H1 H2 → Dice H2 d → (∀ H' x, x ∈ wds → But d H2 H' → Dice H' d → Z (.str x) H') → spOneOf K [.ref d, .ref pw] H2 Z E0 := fun H2 Z b2 hd2 z => by
      refine ⟨d, pw, wds.map V.str, rfl, hd2, SqL.of (b2 _ _ wd ew1), fun _ => wd, by decide, by decide, fun H' i v hv bt hd' => ?_⟩
      rw [List.getElem?_map] at hv
      obtain ⟨x, hx, rfl⟩ := Option.map_eq_some_iff.mp hv
      exact z H' x (List.mem_of_getElem? hx) bt hd'
    have leaf : ∀ (H2 : Hp) (w : List Nat), But d H1 H2 → Dice H2 d → atomL w = true → w.length ≤ 12 → Q (.str (S w)) H2 := fun H2 w b2 hd2 h1 h2 => q H2 _ (.lf w) (bt1.tr b2) hd2 (by
      unfold dr
      rw [h1, decide_eq_true h2]
      rfl) (.at (.str _))
    have leafW : ∀ H2 x, x ∈ wds → But d H1 H2 → Dice H2 d → Q (.str x) H2 := fun H2 x hx b2 hd2 => by
      have := wds_ok x hx
      have z := leaf H2 x.cps.toList b2 hd2 (by rw [name_dot (name_let this)]; exact this) (Nat.le_trans (name_len this) (by decide))
      rw [show S x.cps.toList = x from SX.S_tl x] at z
      exact z
    have line : (100000 : Nat) ≤ sizeLine := by decide
    refine ⟨_, rfl, rfl, _, rfl, ?_⟩
    rw [dI]
    apply cutI (n = 0 → r ≤ 2)
    · intro rest
      by_cases h0 : r = 0
      · rw [decide_eq_true h0]
        exact iteT (iteT ⟨_, rfl, _, rfl, word H1 _ (fun _ _ _ e => e) hd1 fun H' x hx b h => leafW H' x hx b h⟩)
      · rw [decide_eq_false h0]
        refine iteF ⟨_, rfl, rfl, _, rfl, ?_⟩
        rw [dI]
        by_cases hn : (n : Int) = 0
        · rw [decide_eq_true hn]
          refine iteT ⟨_, rfl, _, _, rfl, rfl, _, rfl, ?_⟩
          by_cases h2 : 2 < r
          · rw [decide_eq_true h2]
            exact iteT ⟨_, rfl, _, rfl, word H1 _ (fun _ _ _ e => e) hd1 fun H' x hx b h => leafW H' x hx b h⟩
          · rw [decide_eq_false h2]
            exact iteF (rest fun _ => by omega)
        · rw [decide_eq_false hn]
          exact iteF (iteF (rest fun z => absurd (by omega) hn))
    intro small
    refine ⟨_, rfl, _, _, rfl, rfl, _, rfl, ?_⟩
    by_cases h3 : r < 3
    · rw [decide_eq_true h3]
      refine iteT ⟨_, rfl, _, rfl, (by show 1 ≤ sizeLine; decide), fun p2 h2 => ?_⟩
      have s2 := same_upd (o := .lst [V.str "get"]) h2
      refine ⟨pw, p2, _, _, rfl, rfl, s2 _ _ ew1, upd_same, (by decide), fun p3 h3 => ?_⟩
      have s3 := s2.trans (same_upd (o := .lst (wds.map V.str ++ [V.str "get"])) h3)
      have e3 : upd (upd H1 p2 (.lst [V.str "get"])) p3 (.lst (wds.map V.str ++ [V.str "get"])) p3 = some (.lst (wds9.map V.str)) := upd_same
      have p3d : p3 ≠ d := fun z => hd1.ne (by rw [← z]; exact s2.free h3)
      have hd3 := hd1.same s3
      generalize upd _ p3 _ = H3 at s3 e3 hd3
      refine ⟨d, p3, wds9.map V.str, rfl, hd3, SqL.of e3, fun _ => p3d, by decide, by decide, fun H4 i v hv b4 hd4 => ?_⟩
      rw [List.getElem?_map] at hv
      obtain ⟨x, hx, rfl⟩ := Option.map_eq_some_iff.mp hv
      have hx := List.mem_of_getElem? hx
      have lx := unk_sz x hx
      have ld : ("." : Str).length = 1 := by decide +kernel
      refine ⟨x, ".", rfl, rfl, by omega, _, rfl, (by show 6 ≤ sizeLine; decide), fun p5 h5 => ?_⟩
      have s5 := same_upd (o := .lst (nums6.map V.int)) h5
      refine ⟨d, p5, nums6.map V.int, rfl, hd4.same s5, SqL.of upd_same, fun _ z => hd4.ne (by rw [← z]; exact h5), by decide, by decide, fun H6 j v hv b6 hd6 => ?_⟩
      rw [List.getElem?_map] at hv
      obtain ⟨y, hy, rfl⟩ := Option.map_eq_some_iff.mp hv
      have hy := List.mem_of_getElem? hy
      obtain ⟨y0, y1⟩ := nums_ok y hy
      obtain ⟨m, rfl⟩ : ∃ m : Nat, y = (m : Int) := ⟨y.toNat, by omega⟩
      have nl := num_small m (by omega)
      refine ⟨(m : Int), rfl, log_small (by omega), x ++ ".", numS m, rfl, rfl, by rw [strLen_append]; omega, ?_⟩
      obtain ⟨u1, u2⟩ := unk_ok x hx m hy
      have z := leaf H6 (unkT x m).cps.toList (((Same.but s3).tr b4).tr ((Same.but s5).tr b6)) hd6 u1 u2
      rw [show S (unkT x m).cps.toList = unkT x m from SX.S_tl _] at z
      exact z
    · rw [decide_eq_false h3]
      obtain ⟨m, rfl⟩ : ∃ m, n = m + 1 := ⟨n - 1, by
        have := fun z => small z
        omega⟩
      refine iteF ⟨_, rfl, _, rfl, word H1 _ (fun _ _ _ e => e) hd1 fun H2 x hx b2 hd2 => ⟨(by show 1 ≤ sizeLine; decide), fun p2 h2 => ?_⟩⟩
      have s2 := same_upd (o := .lst [V.str x]) h2
      have p2d : p2 ≠ d := fun z => hd2.ne (by rw [← z]; exact h2)
      have e2 : upd H2 p2 (.lst [V.str x]) p2 = some (.lst [V.str x]) := upd_same
      have hd2' := hd2.same s2
      have bt2 : But d H (upd H2 p2 (.lst [V.str x])) := (bt1.tr b2).tr (Same.but s2)
      have n2 : H p2 = none := free_but (bt1.tr b2) hd2 p2 h2
      generalize upd H2 p2 _ = H3 at s2 e2 hd2' bt2 ⊢
      refine ⟨_, rfl, d, 3, rfl, hd2', by decide, by decide, fun H4 r4 r40 r43 b4 hd4 => ⟨r4, rfl, by omega, by omega, fun Dl hD => ?_⟩⟩
      have bt4 := bt2.tr b4
      have Dd : Dl ≠ d := fun z => hd4.ne (by rw [← z]; exact hD)
      have e24 := b4 _ _ p2d e2
      have nD : H Dl = none := free_but bt4 hd4 Dl hD
      have p2D : p2 ≠ Dl := ne_of_none e24 hD
      refine lc_range (lo := 0) (n := r4.toNat) (fun i G => But d H4 G ∧ Dice G d ∧ ∃ acc ts, G Dl = some (.lst acc) ∧ ts.length = i ∧ DtAll (fun b => H b = none ∧ b ≠ Dl) G acc (ts.map trD) ∧ ∀ t ∈ ts, dr m t = true)
        ⟨Same.but (same_upd hD), hd4.same (same_upd hD), [], [], upd_same, rfl, .nil, fun t z => by cases z⟩ (fun i G hi p => ?_) (fun G p => ?_)
      · obtain ⟨bG, hdG, acc, ts, eD, tl, da, ht⟩ := p
        refine ⟨rfl, _, rfl, _, rfl, _, _, rfl, rfl, d, (by show [V.ref d, V.int (((m + 1 : Nat) : Int) - 1)] = [V.ref d, V.int (m : Int)]; rw [show (((m + 1 : Nat) : Int) - 1) = (m : Int) by omega]), hdG, fun H5 v t b5 hd5 hdr dt => ?_⟩
        have al := da.length
        rw [List.length_map] at al
        refine ⟨acc, b5 _ _ Dd eD, by omega, fun c o hc eo => ?_, hd5.upd Dd, acc ++ [v], ts ++ [t], upd_same, by rw [List.length_append, tl]; rfl, ?_, fun y hy => ?_⟩
        · rw [upd_ne (ne_of_none eo hD)]
          exact b5 c o hc (bG c o hc eo)
        · rw [List.map_append]
          refine DtAll.snoc (da.strong fun b o hb eo => ⟨hb, ?_⟩) (dt.strong fun b o hb eo => ?_)
          · rw [upd_ne hb.2]
            exact b5 b o (fun z => hd.ne (by rw [← z]; exact hb.1)) eo
          · have bD : b ≠ Dl := fun z => by
              have hb : G b = none := hb
              rw [z, eD] at hb
              cases hb
            exact ⟨⟨free_but (bt4.tr bG) hdG b hb, bD⟩, by rw [upd_ne bD]; exact eo⟩
        · rcases List.mem_append.mp hy with z | z
          · exact ht y z
          · rw [List.mem_singleton.mp z]
            exact hdr
      · obtain ⟨bG, hdG, acc, ts, eD, tl, da, ht⟩ := p
        have al := da.length
        rw [List.length_map] at al
        refine ⟨p2, Dl, _, _, rfl, rfl, bG _ _ p2d e24, eD, (by show 1 + acc.length ≤ sizeLine; omega), fun p5 h5 => ?_⟩
        have s5 := same_upd (o := .lst ([V.str x] ++ acc)) h5
        have btG := bt4.tr bG
        have hx8 := wds_ok x hx
        refine q _ (.ref p5) (mkN x.cps.toList ts) (btG.tr (Same.but s5)) (hdG.same s5) (dr_mkN hx8 ht) ?_
        rw [trD_mkN (by omega)]
        refine .lst (free_but btG hdG p5 h5) upd_same (by rw [List.length_append]; show 1 + acc.length ≤ 1000; omega) (.cons ?_ (da.strong fun b o hb eo => ⟨hb.1, s5 _ _ eo⟩))
        rw [show S x.cps.toList = x from SX.S_tl x]
        exact .at (.str x)
end
end OM

namespace OM
open PySem PySem.Spec PyProof.Rows L2 VL
abbrev sText : Stmt := top 51
abbrev sLAtoms : Stmt := top 52
/-- a drawn tree that is no leaf -/
theorem tr_form {n : Nat} {t : Tr} (h : dr n t = true) : (∃ w, t = .lf w) ∨ ∃ (m : Nat) (f : List Nat) (ts : List Tr), n = m + 1 ∧ trD t = .list (.str (S f) :: ts.map trD) ∧ tx t = wrL f (ts.map tx) ∧ lv t = ts.flatMap lv ∧ nameL f = true ∧ ts.length ≤ 2 ∧ ∀ u ∈ ts, dr m u = true := by
  cases t with
  | lf w => exact .inl ⟨w, rfl⟩
  | nd0 f =>
    cases n with
    | zero => unfold dr at h; cases h
    | succ m => exact .inr ⟨m, f, [], rfl, rfl, rfl, rfl, h, by decide, fun u z => by cases z⟩
  | nd1 f t =>
    cases n with
    | zero => unfold dr at h; cases h
    | succ m =>
      unfold dr at h
      rw [Bool.and_eq_true] at h
      exact .inr ⟨m, f, [t], rfl, rfl, rfl, by simp [lv], h.1, by simp, fun u z => by rw [List.mem_singleton.mp z]; exact h.2⟩
  | nd2 f t u =>
    cases n with
    | zero => unfold dr at h; cases h
    | succ m =>
      unfold dr at h
      rw [Bool.and_eq_true, Bool.and_eq_true] at h
      refine .inr ⟨m, f, [t, u], rfl, rfl, ?_, by simp [lv], h.1, by simp, fun y z => ?_⟩
      · show f ++ 40 :: (tx t ++ 44 :: 32 :: (tx u ++ [41])) = f ++ 40 :: ((tx t ++ ([44, 32] ++ tx u)) ++ [41])
        simp
      · rcases List.mem_cons.mp z with rfl | z
        · exact h.2.1
        · rw [List.mem_singleton.mp z]
          exact h.2.2
theorem bd_le : ∀ {n m : Nat}, n ≤ m → bd n ≤ bd m
  | n, m, h => by
    induction m with
    | zero => obtain rfl : n = 0 := by omega
              exact Nat.le_refl _
    | succ m ih =>
      rcases Nat.lt_or_ge n (m + 1) with z | z
      · have := ih (by omega)
        show bd n ≤ 2 * bd m + 12
        omega
      · obtain rfl : n = m + 1 := by omega
        exact Nat.le_refl _
theorem Dt.lst_of {S : Addr → Prop} {H : Hp} {v : V} {ds : List PyData} (h : Dt S H v (.list ds)) : ∃ a xs, v = .ref a ∧ S a ∧ H a = some (.lst xs) ∧ xs.length ≤ 1000 ∧ DtAll S H xs ds := by
  cases h with
  | «at» a => cases a
  | @lst a xs _ s e hl h => exact ⟨a, xs, rfl, s, e, hl, h⟩
def spText : Nat → Sp
  | 0 => fun _ _ _ _ => False
  | n + 1 => fun vs H Q _ => ∃ (S0 : Addr → Prop) (v : V) (t : Tr), vs = [v] ∧ n ≤ 4 ∧ Dt S0 H v (trD t) ∧ dr n t = true ∧ ∀ H', Same H H' → Q (.str (S (tx t))) H'
def spLAtoms : Nat → Sp
  | 0 => fun _ _ _ _ => False
  | n + 1 => fun vs H Q _ => ∃ (S0 : Addr → Prop) (v : V) (t : Tr), vs = [v] ∧ n ≤ 4 ∧ Dt S0 H v (trD t) ∧ dr n t = true ∧ ∀ H' b, Same H H' → H b = none → H' b = some (.lst ((lv t).map vS)) → Q (.ref b) H'
section
variable {P : Program} {w : World} {K : PySem.W.Frag} {mg : Str → Option Value} {base : Heap} {f fR fO : Addr} {fd fdR fdO : FuncData} {n k : Nat}
theorem ok_drawn (F : Fun K "_law_drawn" "_law_drawn" sDrawn f fd) (D : DiceF K mg fR fO fdR fdO) (rng : mg "range" = none) (st : mg "str" = none) (gS : mg "_law_drawn" = some (.ref f)) (bS : Binds K fd ["_law_dice_here", "_law_deep"] []) : ∀ n, FnOk P w K mg base CX0 (n + 2) f fd ["_law_dice_here", "_law_deep"] (spDrawn n)
  | 0 => ⟨fun _ _ _ _ h => h.elim, fun _ _ _ _ _ _ _ _ _ _ _ _ _ h => h.elim⟩
  | n + 1 => drawn_step F D rng st gS bS (ok_drawn F D rng st gS bS n)
theorem scTx : FnScope ["_law_tree", "_law_one"] ["_law_tree"] (defScope sText) := ⟨rfl, rfl, rfl, by decide +kernel, rfl, by decide +kernel, by decide +kernel⟩
theorem text_step (F : Fun K "_law_text" "_law_text" sText f fd) (isi : mg "isinstance" = none) (st : mg "str" = none) (gT : mg "_law_text" = some (.ref f)) (bT : Binds K fd ["_law_tree"] []) (G : FnOk P w K mg base CX0 k f fd ["_law_tree"] (spText n)) : FnOk P w K mg base CX0 (k + 1) f fd ["_law_tree"] (spText (n + 1)) := by
  refine F.ok scTx (fun vs H Q E h => ?_) (fun cdv A outer s H vs Q E hr h => ?_)
  · obtain ⟨_, v, t, rfl, _⟩ := h
    rfl
  · obtain ⟨S0, v, t, rfl, n4, hd, hdr, q⟩ := h
    refine ⟨_, pss_cons (ps_if (pt_val (pe_callB call_isi (by rfl) isi (by decide +kernel) (pa_cons (pv 0) (pa_cons (pe_bltn (v := .ty "str") (u := .type "str") (by rfl) st (by decide +kernel) rfl) pa_nil)))) (pss_one (ps_ret (pv 0))) pss_nil)
      (pss_one (ps_ret (pe_op op_add_str (pe_op op_add_str (pe_op op_add_str (pe_ix ix_list (pv 0) pe_int (fun _ _ => rfl)) pe_str) (pe_bm PySem.F.plainAttrs_str PySem.F.slot_str_join PySem.F.type_str_join mt_join pe_str
        (pa_cons (pe_lc (own := [("_law_one", 1)]) rfl scTx.nd (pi_list (pe_slice sl_list (pv 0) (po_some pe_int) po_none)) (blkOk_by (N := ["_law_tree", "_law_one"]) (sc := defScope sText) (by decide +kernel))
          (fun _ _ _ _ _ => pg_name (i := 1) scTx.nd rfl (Or.inl rfl)) (fun _ _ _ _ _ => pts_nil) (fun _ _ _ _ _ => pe_call G hr (by rfl) gT F.kp bT .nil pass0 (pa_cons (pv 1) pa_nil))) pa_nil))) pe_str))), ?_⟩
    rcases tr_form hdr with ⟨w, rfl⟩ | ⟨m, fn, ts, rfl, eT, eX, _, hf, l2, ht⟩
    · obtain rfl : v = .str (S w) := dt_str1 hd
      exact isi_te (x := .str (S w)) rfl hd.tyx ((kit_str (.str (S w))).trans rfl) ⟨_, rfl, iteT ⟨_, rfl, q H (Same.refl H)⟩⟩
    · rw [eT] at hd
      refine isi_te (x := v) rfl hd.tyx ((kit_str _).trans rfl) ⟨_, rfl, iteF ?_⟩
      obtain ⟨a, xs, rfl, _, ea, hl, hx⟩ := hd.lst_of
      cases hx with
      | @cons x0 _ xr _ h0 hx =>
        obtain rfl : x0 = .str (S fn) := dt_str1 h0
        have xl := hx.length
        rw [List.length_map] at xl
        have fl := name_len hf
        have l40 : ("(" : Str).length = 1 := by decide +kernel
        have l41 : (")" : Str).length = 1 := by decide +kernel
        have lf : (S fn).length = fn.length := SX.S_len fn
        have line : (100000 : Nat) ≤ sizeLine := by decide
        refine ⟨_, rfl, a, _, _, _, rfl, rfl, SqL.of ea, atI_nat (j := 0) rfl, S fn, "(", rfl, rfl, by omega, rfl, _, rfl, 1, rfl, a, _, rfl, SqL.of ea, fun pc hpc => ⟨pc, rfl, ⟨_, SqL.of upd_same⟩, fun D hD => ?_⟩⟩
        rw [cutT] at hD ⊢
        have sc := same_upd (o := .lst xr) hpc
        have ec : upd H pc (.lst xr) pc = some (.lst xr) := upd_same
        generalize upd H pc (.lst xr) = Hc at sc ec hD ⊢
        refine lc_list (xs := xr) (PvV Hc D ((ts.map tx).map vS)) (PvV.zero hD) (fun i G _ p => SqL.of (p.1 _ _ ec)) (fun i x G hi p => ?_) (fun G p => ?_)
        · obtain ⟨e, he, hde⟩ := hx.get hi
          rw [List.getElem?_map] at he
          obtain ⟨t', ht', rfl⟩ := Option.map_eq_some_iff.mp he
          refine ⟨rfl, _, rfl, S0, x, t', rfl, by omega, hde.mv (fun _ z => z) (fun b o _ eb => p.1 b o (sc b o eb)), ht t' (List.mem_of_getElem? ht'), fun G2 s2 => p.step hD s2 (by rw [List.getElem?_map, List.getElem?_map, ht']; rfl) (by simp; omega)⟩
        · obtain ⟨sD, eD⟩ := p.all (by simp; omega)
          have em : (ts.map tx).map vS = ((ts.map tx).map S).map V.str := by
            rw [List.map_map, List.map_map, List.map_map]
            rfl
          have sb : ((ts.map tx).map List.length).sum ≤ 2 * bd m := by
            have hb : ∀ y ∈ (ts.map tx).map List.length, y ≤ bd m := fun y hy => by
              obtain ⟨z, hz, rfl⟩ := List.mem_map.mp hy
              obtain ⟨u, hu, rfl⟩ := List.mem_map.mp hz
              exact dr_len (ht u hu)
            match ts, l2, hb with
            | [], _, _ => exact Nat.zero_le _
            | [t1], _, hb =>
              have := hb (tx t1).length (by simp)
              show (tx t1).length + 0 ≤ _
              omega
            | [t1, t2], _, hb =>
              have := hb (tx t1).length (by simp)
              have := hb (tx t2).length (by simp)
              show (tx t1).length + ((tx t2).length + 0) ≤ _
              omega
            | _ :: _ :: _ :: _, h, _ => simp at h
          have b4 := bd_le (n := m) (m := 3) (by omega)
          have b3 : bd 3 = 180 := rfl
          have jl := joinL_len (ts.map tx)
          rw [List.length_map] at jl
          have e2 : (", " : Str) = S [44, 32] := by decide +kernel
          have ej : Txt.join (", " : Str) ((ts.map tx).map S) = S (TL.joinL [44, 32] (ts.map tx)) := by
            rw [e2]
            exact SX.join_S _ _
          have el : (((ts.map tx).map S).map (·.length)).sum = ((ts.map tx).map List.length).sum := by rw [SX.lens]
          refine ⟨", ", D, (ts.map tx).map S, rfl, rfl, .inl (by rw [← em]; exact SqL.of eD), ?_, ?_⟩
          · rw [el, List.length_map, List.length_map]
            have : (", " : Str).length = 2 := by decide +kernel
            rw [this]
            omega
          rw [ej]
          have lj : (S (TL.joinL [44, 32] (ts.map tx))).length = (TL.joinL [44, 32] (ts.map tx)).length := SX.S_len _
          refine ⟨S fn ++ "(", _, rfl, rfl, by rw [strLen_append]; omega, _, ")", rfl, rfl, by rw [strLen_append, strLen_append]; omega, ?_⟩
          have e5 : S fn ++ "(" ++ S (TL.joinL [44, 32] (ts.map tx)) ++ ")" = S (tx t) := by
            rw [eX]
            apply TL.ext_tl
            rw [TL.tl_append, TL.tl_append, TL.tl_append]
            have a1 : TL.tl ("(" : Str) = [40] := by decide +kernel
            have a2 : TL.tl (")" : Str) = [41] := by decide +kernel
            rw [a1, a2]
            show fn ++ [40] ++ TL.joinL [44, 32] (ts.map tx) ++ [41] = wrL fn (ts.map tx)
            unfold wrL
            simp
          rw [e5]
          exact q G (sc.trans sD)
theorem ok_text (F : Fun K "_law_text" "_law_text" sText f fd) (isi : mg "isinstance" = none) (st : mg "str" = none) (gT : mg "_law_text" = some (.ref f)) (bT : Binds K fd ["_law_tree"] []) : ∀ n, FnOk P w K mg base CX0 n f fd ["_law_tree"] (spText n)
  | 0 => ⟨fun _ _ _ _ h => h.elim, fun _ _ _ _ _ _ _ _ _ _ _ _ _ h => h.elim⟩
  | n + 1 => text_step F isi st gT bT (ok_text F isi st gT bT n)
end
end OM

namespace OM
open PySem PySem.Spec PyProof.Rows L2 VL
section
variable {P : Program} {w : World} {K : PySem.W.Frag} {mg : Str → Option Value} {base : Heap} {f fR fO : Addr} {fd fdR fdO : FuncData} {n k : Nat}
theorem scLA : FnScope ["_law_tree", "_law_found", "_law_one"] ["_law_tree"] (defScope sLAtoms) := ⟨rfl, rfl, rfl, by decide +kernel, rfl, by decide +kernel, by decide +kernel⟩
theorem latoms_step (F : Fun K "_law_atoms" "_law_atoms" sLAtoms f fd) (isi : mg "isinstance" = none) (st : mg "str" = none) (gT : mg "_law_atoms" = some (.ref f)) (bT : Binds K fd ["_law_tree"] []) (G : FnOk P w K mg base CX0 k f fd ["_law_tree"] (spLAtoms n)) : FnOk P w K mg base CX0 (k + 1) f fd ["_law_tree"] (spLAtoms (n + 1)) := by
  refine F.ok scLA (fun vs H Q E h => ?_) (fun cdv A outer s H vs Q E hr h => ?_)
  · obtain ⟨_, v, t, rfl, _⟩ := h
    rfl
  · obtain ⟨S0, v, t, rfl, n4, hd, hdr, q⟩ := h
    refine ⟨_, pss_cons (ps_if (pt_val (pe_callB call_isi (by rfl) isi (by decide +kernel) (pa_cons (pv 0) (pa_cons (pe_bltn (v := .ty "str") (u := .type "str") (by rfl) st (by decide +kernel) rfl) pa_nil)))) (pss_one (ps_ret (pe_lst (pa_cons (pv 0) pa_nil)))) pss_nil)
      (pss_cons (ps_set (i := 1) scLA.nd rfl (Or.inl rfl) (pe_lst pa_nil))
      (pss_cons (ps_for PassesOwn.never rfl (pi_list (pe_slice sl_list (pv 0) (po_some pe_int) po_none)) (pg_name (i := 2) scLA.nd rfl (Or.inl rfl))
        (pss_one (ps_expr (pe_bm PySem.F.plainAttrs_list PySem.F.slot_list_extend PySem.F.type_list_extend mt_extend (pv 1) (pa_cons (pe_call G hr (by rfl) gT F.kp bT .nil pass0 (pa_cons (pv 2) pa_nil)) pa_nil)))))
      (pss_one (ps_ret (pv 1))))), ?_⟩
    rcases tr_form hdr with ⟨w, rfl⟩ | ⟨m, fn, ts, rfl, eT, _, eL, hf, l2, ht⟩
    · obtain rfl : v = .str (S w) := dt_str1 hd
      exact isi_te (x := .str (S w)) rfl hd.tyx ((kit_str (.str (S w))).trans rfl) ⟨_, rfl, iteT ⟨_, rfl, (by show 1 ≤ sizeLine; decide), fun p hp => q _ p (same_upd hp) hp upd_same⟩⟩
    · rw [eT] at hd
      refine isi_te (x := v) rfl hd.tyx ((kit_str _).trans rfl) ⟨_, rfl, iteF ?_⟩
      obtain ⟨a, xs, rfl, _, ea, hl, hx⟩ := hd.lst_of
      cases hx with
      | @cons x0 _ xr _ h0 hx =>
        obtain rfl : x0 = .str (S fn) := dt_str1 h0
        have xl := hx.length
        rw [List.length_map] at xl
        refine ⟨(by show 0 ≤ sizeLine; decide), fun pf hpf => ?_⟩
        have sf := same_upd (o := .lst []) hpf
        refine ⟨_, rfl, 1, rfl, a, _, rfl, SqL.of (sf _ _ ea), fun pc hpc => ⟨pc, rfl, ⟨_, SqL.of upd_same⟩, ?_⟩⟩
        have sc := same_upd (o := .lst xr) hpc
        have nf : pc ≠ pf := fun z => by
          rw [z, upd_same] at hpc
          cases hpc
        have tot : (lv t).length ≤ 16 := Nat.le_trans (dr_lv hdr) (Nat.pow_le_pow_right (by decide) n4)
        have line : (100000 : Nat) ≤ sizeLine := by decide
        refine for_list (xs := xr) (fun i σ G => Same H G ∧ G pf = some (.lst (((ts.take i).flatMap lv).map vS)) ∧ G pc = some (.lst xr) ∧ ∃ x2, σ = [some (.ref a), some (.ref pf), x2]) ?_ (fun i σ G _ p => SqL.of p.2.2.1) (fun i x σ G hi p => ?_) (fun σ G p => ?_)
        · refine ⟨sf.trans ?_, ?_, ?_, _, rfl⟩
          · exact same_upd hpc
          · exact same_upd hpc _ _ upd_same
          · rw [upd_same, cutT]
        · obtain ⟨sG, ef, ec, x2, rfl⟩ := p
          obtain ⟨e, he, hde⟩ := hx.get hi
          rw [List.getElem?_map] at he
          obtain ⟨t', ht', rfl⟩ := Option.map_eq_some_iff.mp he
          have part : ((ts.take i).flatMap lv).length + (lv t').length ≤ 16 := by
            have e1 : ((ts.take (i + 1)).flatMap lv).length ≤ (lv t).length := by
              rw [eL]
              conv => rhs; rw [← List.take_append_drop (i + 1) ts, List.flatMap_append, List.length_append]
              omega
            rw [List.take_add_one, ht', List.flatMap_append, List.length_append] at e1
            have e2 : (List.flatMap lv (some t').toList).length = (lv t').length := by
              show ((lv t') ++ []).length = _
              rw [List.append_nil]
            omega
          refine ⟨_, rfl, .inl ⟨rfl, _, SqL.of ef⟩, _, rfl, S0, x, t', rfl, by omega, hde.mv (fun _ z => z) (fun b o _ eb => sG b o eb), ht t' (List.mem_of_getElem? ht'), fun G2 b s2 nb eb => ?_⟩
          have nb2 : b ≠ pf := fun z => by rw [z, ef] at nb; cases nb
          refine ⟨pf, b, _, _, rfl, rfl, s2 _ _ ef, eb, by rw [List.length_map, List.length_map]; omega, same_put hpf (sG.trans s2), ?_, ?_, _, rfl⟩
          · rw [upd_same, List.take_add_one, ht', List.flatMap_append, List.map_append]
            show _ = some (HO.lst (_ ++ ((lv t') ++ []).map vS))
            rw [List.append_nil]
          · rw [upd_ne nf]
            exact s2 _ _ ec
        · obtain ⟨sG, ef, ec, x2, rfl⟩ := p
          rw [xl, List.take_length, ← eL] at ef
          exact ⟨_, rfl, q G pf sG hpf ef⟩
theorem ok_latoms (F : Fun K "_law_atoms" "_law_atoms" sLAtoms f fd) (isi : mg "isinstance" = none) (st : mg "str" = none) (gT : mg "_law_atoms" = some (.ref f)) (bT : Binds K fd ["_law_tree"] []) : ∀ n, FnOk P w K mg base CX0 n f fd ["_law_tree"] (spLAtoms n)
  | 0 => ⟨fun _ _ _ _ h => h.elim, fun _ _ _ _ _ _ _ _ _ _ _ _ _ h => h.elim⟩
  | n + 1 => latoms_step F isi st gT bT (ok_latoms F isi st gT bT n)
end
end OM

namespace OM
open PySem PySem.Spec PyProof.Rows L2 VL
abbrev sNear : Stmt := top 53
def signs16 : List Str := ["(", ")", ",", ", ", " ", ".", ".0", ".1", "0", "a", "A", "(a)", "()", "get", "-", ""]
def heads6 : List Str := ["put", "get", "if", "show", "end", "else"]
theorem signs_ok : ∀ x ∈ signs16, asc x.cps.toList = true ∧ x.length ≤ 3 ∧ x.cps.toList.count 40 ≤ 1 := by decide +kernel
theorem heads_ok : ∀ x ∈ heads6, asc x.cps.toList = true ∧ x.length ≤ 4 ∧ x.cps.toList.count 40 ≤ 1 := by decide +kernel
def spNear : Sp := fun vs H Q _ => ∃ (d : Addr) (l : List Nat), vs = [.ref d, .str (S l)] ∧ Dice H d ∧ asc l = true ∧ l.length ≤ 880 ∧ ∀ H' l', But d H H' → Dice H' d → asc l' = true → l'.length ≤ l.length + 4 → l'.count 40 ≤ l.count 40 + 1 → Q (.str (S l')) H'
theorem asc_ok {l : List Nat} (h : asc l = true) (n : l.length ≤ 1000) : okS l := by
  rw [ok_all]
  refine ⟨n, List.all_eq_true.mpr fun c hc => ?_⟩
  have := List.all_eq_true.mp h c hc
  simp only [Bool.and_eq_true, decide_eq_true_eq] at this ⊢
  omega
theorem S_app (a b : List Nat) : S a ++ S b = S (a ++ b) := by
  apply TL.ext_tl
  rw [TL.tl_append]
abbrev nNe : List Str := ["_law_dice_here", "_law_text_here", "_law_at", "_law_way", "_law_sign"]
section
variable {P : Program} {w : World} {K : PySem.W.Frag} {mg : Str → Option Value} {base : Heap} {f fR fO : Addr} {fd fdR fdO : FuncData} {n k : Nat}
theorem scNr : FnScope nNe ["_law_dice_here", "_law_text_here"] (defScope sNear) := ⟨rfl, rfl, rfl, by decide +kernel, rfl, by decide +kernel, by decide +kernel⟩
theorem ok_near (F : Fun K "_law_near" "_law_near" sNear f fd) (D : DiceF K mg fR fO fdR fdO) : FnOk P w K mg base CX0 3 f fd ["_law_dice_here", "_law_text_here"] spNear := by
  have GR : FnOk P w K mg base CX0 1 fR fdR ["_law_dice_here", "_law_total"] spRoll := ok_roll D.FR D.T
  have GO : FnOk P w K mg base CX0 2 fO fdO ["_law_dice_here", "_law_items"] (spOneOf K) := ok_oneof D.FO D.T D.FR D.gR D.bR
  refine F.ok scNr (fun vs H Q E h => ?_) (fun cdv A outer s H vs Q E hr h => ?_)
  · obtain ⟨d, l, rfl, _⟩ := h
    rfl
  · obtain ⟨d, l, rfl, hd, ha, hl, q⟩ := h
    refine ⟨_, pss_cons (ps_par (i := 2) (j := 3) rfl scNr.nd rfl rfl (by decide) rfl rfl (pa_cons (pe_call GR (hr.mono (by omega)) (by rfl) D.gR D.FR.kp D.bR .nil pass0 (pa_cons (pv 0) (pa_cons (pe_op op_add (pe_callB call_len_str (by rfl) D.T.len PySem.boot_len (pa_cons (pv 1) pa_nil)) pe_int) pa_nil))) (pa_cons (pe_call GR (hr.mono (by omega)) (by rfl) D.gR D.FR.kp D.bR .nil pass0 (pa_cons (pv 0) (pa_cons pe_int pa_nil))) pa_nil)) (by rfl))
      (pss_cons (ps_set (i := 4) scNr.nd rfl (Or.inl rfl) (pe_call GO hr (by rfl) D.gO D.FO.kp D.bO .nil pass0 (pa_cons (pv 0) (pa_cons (pe_lst (pa_cons pe_str (pa_cons pe_str (pa_cons pe_str (pa_cons pe_str (pa_cons pe_str (pa_cons pe_str (pa_cons pe_str (pa_cons pe_str (pa_cons pe_str (pa_cons pe_str (pa_cons pe_str (pa_cons pe_str (pa_cons pe_str (pa_cons pe_str (pa_cons pe_str (pa_cons pe_str pa_nil))))))))))))))))) pa_nil))))
      (pss_cons (ps_if (pt_cmpR op_eq (pv 3) pe_int (nomark _)) (pss_one (ps_ret (pe_op op_add_str (pe_slice sl_str (pv 1) po_none (po_some (pv 2))) (pe_slice sl_str (pv 1) (po_some (pe_op op_add (pv 2) pe_int)) po_none)))) pss_nil)
      (pss_cons (ps_if (pt_cmpR op_eq (pv 3) pe_int (nomark _)) (pss_one (ps_ret (pe_op op_add_str (pe_op op_add_str (pe_slice sl_str (pv 1) po_none (po_some (pv 2))) (pv 4)) (pe_slice sl_str (pv 1) (po_some (pe_op op_add (pv 2) pe_int)) po_none)))) pss_nil)
      (pss_cons (ps_if (pt_cmpR op_eq (pv 3) pe_int (nomark _)) (pss_one (ps_ret (pe_op op_add_str (pe_op op_add_str (pe_slice sl_str (pv 1) po_none (po_some (pv 2))) (pv 4)) (pe_slice sl_str (pv 1) (po_some (pv 2)) po_none)))) pss_nil)
      (pss_one (ps_ret (pe_op op_add_str (pe_call GO hr (by rfl) D.gO D.FO.kp D.bO .nil pass0 (pa_cons (pv 0) (pa_cons (pe_lst (pa_cons pe_str (pa_cons pe_str (pa_cons pe_str (pa_cons pe_str (pa_cons pe_str (pa_cons pe_str pa_nil))))))) pa_nil))) (pe_slice sl_str (pv 1) (po_some (pv 2)) po_none)))))))), ?_⟩
    have line : (100000 : Nat) ≤ sizeLine := by decide
    have sl : (S l).length = l.length := SX.S_len l
    refine ⟨_, rfl, _, rfl, S l, rfl, by omega, _, _, rfl, rfl, d, _, rfl, hd, by omega, by omega, fun H1 r r0 r1 b1 hd1 => ?_⟩
    obtain ⟨i, rfl⟩ : ∃ i : Nat, r = (i : Int) := ⟨r.toNat, by omega⟩
    refine ⟨_, rfl, d, 4, rfl, hd1, by decide, by decide, fun H2 y y0 y1 b2 hd2 => ?_⟩
    refine ⟨_, _, rfl, _, rfl, (by show 16 ≤ sizeLine; decide), fun p hp => ?_⟩
    have sp := same_upd (o := .lst (signs16.map V.str)) hp
    refine ⟨d, p, signs16.map V.str, rfl, hd2.same sp, SqL.of upd_same, fun _ z => hd2.ne (by rw [← z]; exact hp), by decide, by decide, fun H3 j v hv b3 hd3 => ?_⟩
    rw [List.getElem?_map] at hv
    obtain ⟨x, hx, rfl⟩ := Option.map_eq_some_iff.mp hv
    obtain ⟨xa, xl, xc⟩ := signs_ok x (List.mem_of_getElem? hx)
    obtain ⟨g, rfl⟩ : ∃ g : List Nat, x = S g := ⟨x.cps.toList, (SX.S_tl x).symm⟩
    have xa : asc g = true := xa
    have xc : g.count 40 ≤ 1 := xc
    rw [SX.S_len] at xl
    have bt : But d H H3 := (b1.tr b2).tr ((Same.but sp).tr b3)
    have cp := cut_pre l i
    have cs := cut_suf l i
    have cs1 : cutS (S l) (some ((i : Int) + 1)) none = S (l.drop (i + 1)) := by
      rw [show ((i : Int) + 1) = ((i + 1 : Nat) : Int) by omega]
      exact cut_suf l (i + 1)
    have c1 : (l.take i).count 40 + (l.drop i).count 40 = l.count 40 := by
      rw [← List.count_append, List.take_append_drop]
    have c2 : (l.drop (i + 1)).count 40 ≤ (l.drop i).count 40 := (List.drop_sublist_drop_left l (Nat.le_succ i)).count_le 40
    have a1 := asc_take ha i
    have a2 := asc_drop ha i
    have a3 := asc_drop ha (i + 1)
    have l1 : (l.take i).length ≤ l.length := by rw [List.length_take]; omega
    have l2 : (l.take i).length + (l.drop i).length = l.length := by rw [List.length_take, List.length_drop]; omega
    have l3 : (l.drop (i + 1)).length ≤ (l.drop i).length := by rw [List.length_drop, List.length_drop]; omega
    have s1 : (S (l.take i)).length = (l.take i).length := SX.S_len _
    have s2 : (S (l.drop i)).length = (l.drop i).length := SX.S_len _
    have s3 : (S (l.drop (i + 1))).length = (l.drop (i + 1)).length := SX.S_len _
    have sg : (S g).length = g.length := SX.S_len _
    refine ⟨_, rfl, rfl, _, rfl, ?_⟩
    rw [dI]
    by_cases h0 : y = 0
    · rw [decide_eq_true h0]
      refine iteT ⟨_, rfl, _, rfl, _, rfl, S l, rfl, by omega, _, rfl, _, rfl, _, _, rfl, rfl, _, rfl, S l, rfl, by omega, S (l.take i), S (l.drop (i + 1)), by rw [cp], by rw [← cs1], by omega, ?_⟩
      rw [S_app]
      exact q H3 _ bt hd3 (by rw [asc_app, a1, a3]; rfl) (by rw [List.length_append]; omega) (by rw [List.count_append]; omega)
    rw [decide_eq_false h0]
    refine iteF ⟨_, rfl, rfl, _, rfl, ?_⟩
    rw [dI]
    by_cases h1 : y = 1
    · rw [decide_eq_true h1]
      refine iteT ⟨_, rfl, _, rfl, _, rfl, S l, rfl, by omega, _, rfl, S (l.take i), S g, by rw [cp], rfl, by omega, _, rfl, _, rfl, _, _, rfl, rfl, _, rfl, S l, rfl, by omega, S (l.take i) ++ S g, S (l.drop (i + 1)), rfl, by rw [← cs1], by rw [S_app, SX.S_len, List.length_append]; omega, ?_⟩
      rw [S_app, S_app]
      exact q H3 _ bt hd3 (by rw [asc_app, asc_app, a1, a3, xa]; rfl) (by rw [List.length_append, List.length_append]; omega) (by rw [List.count_append, List.count_append]; omega)
    rw [decide_eq_false h1]
    refine iteF ⟨_, rfl, rfl, _, rfl, ?_⟩
    rw [dI]
    by_cases h2 : y = 2
    · rw [decide_eq_true h2]
      refine iteT ⟨_, rfl, _, rfl, _, rfl, S l, rfl, by omega, _, rfl, S (l.take i), S g, by rw [cp], rfl, by omega, _, rfl, _, rfl, _, rfl, S l, rfl, by omega, S (l.take i) ++ S g, S (l.drop i), rfl, by rw [← cs], by rw [S_app, SX.S_len, List.length_append]; omega, ?_⟩
      rw [S_app, S_app]
      exact q H3 _ bt hd3 (by rw [asc_app, asc_app, a1, a2, xa]; rfl) (by rw [List.length_append, List.length_append]; omega) (by rw [List.count_append, List.count_append]; omega)
    rw [decide_eq_false h2]
    refine iteF ⟨_, rfl, (by show 6 ≤ sizeLine; decide), fun p2 hp2 => ?_⟩
    have sp2 := same_upd (o := .lst (heads6.map V.str)) hp2
    refine ⟨d, p2, heads6.map V.str, rfl, hd3.same sp2, SqL.of upd_same, fun _ z => hd3.ne (by rw [← z]; exact hp2), by decide, by decide, fun H4 j2 v2 hv2 b4 hd4 => ?_⟩
    rw [List.getElem?_map] at hv2
    obtain ⟨x2, hx2, rfl⟩ := Option.map_eq_some_iff.mp hv2
    obtain ⟨xa2, xl2, xc2⟩ := heads_ok x2 (List.mem_of_getElem? hx2)
    obtain ⟨g2, rfl⟩ : ∃ g : List Nat, x2 = S g := ⟨x2.cps.toList, (SX.S_tl x2).symm⟩
    have xa2 : asc g2 = true := xa2
    have xc2 : g2.count 40 ≤ 1 := xc2
    rw [SX.S_len] at xl2
    have sg2 : (S g2).length = g2.length := SX.S_len _
    refine ⟨_, rfl, _, rfl, _, rfl, S l, rfl, by omega, S g2, S (l.drop i), rfl, by rw [← cs], by omega, ?_⟩
    rw [S_app]
    exact q H4 _ (bt.tr ((Same.but sp2).tr b4)) hd4 (by rw [asc_app, xa2, a2]; rfl) (by rw [List.length_append]; omega) (by rw [List.count_append]; omega)
end
end OM

namespace OM
open PySem PySem.Spec PyProof.Rows L2
theorem key_reads {h : Heap} {k : Key} {u : Value} (e : keyIs k u = true) : Reads h u (kD k) [] := by
  rcases keyIs_shape e with ⟨i, t, rfl, rfl⟩ | ⟨x, t, rfl, rfl⟩
  · exact .int i t
  · exact .str x t
theorem At.reads {h : Heap} {v : V} {u : Value} {d : PyData} (a : At v d) (r : RelV v u) : Reads h u d [] := by
  cases a with
  | non =>
    obtain rfl : u = Value.none := r
    exact .none
  | bl b =>
    obtain rfl : u = Value.bool b := r
    exact .bool b
  | int i =>
    obtain ⟨t, rfl⟩ : ∃ t, u = Value.int i t := r
    exact .int i t
  | str x =>
    obtain ⟨t, rfl⟩ : ∃ t, u = Value.str x t := r
    exact .str x t
section
variable {P : Program} {w : World} {H : Hp} {h : Heap} {S : Addr → Prop}
mutual
theorem Dt.reads (hok : HOk P w H h) : ∀ {v : V} {d : PyData} {u : Value}, Dt S H v d → RelV v u → ∃ as, Reads h u d as ∧ ∀ b ∈ as, H b ≠ none
  | _, _, _, .at a, r => ⟨[], a.reads r, fun _ z => nomatch z⟩
  | _, _, u, @Dt.lst _ _ a xs ds s e hl hx, r => by
    obtain rfl : u = Value.ref a := r
    obtain ⟨_, its, n, rv, eo⟩ := (show ObjOk P w H h a (.lst xs) from hok a _ e)
    obtain ⟨as, ra, na⟩ := DtAll.reads hok hx rv
    refine ⟨a :: as, .list eo rfl rfl (by simpa using ra), fun b hb => ?_⟩
    rcases List.mem_cons.mp hb with rfl | hb
    · rw [e]
      exact fun z => nomatch z
    · exact na b hb
  | _, _, u, @Dt.tup _ _ a xs ds s e hl hx, r => by
    obtain rfl : u = Value.ref a := r
    obtain ⟨_, its, rv, o, eo, ec, n, ed⟩ := (show ObjOk P w H h a (.tup xs) from hok a _ e)
    obtain ⟨as, ra, na⟩ := DtAll.reads hok hx rv
    exact ⟨as, .tuple eo ec ed (by simpa using ra), na⟩
  | _, _, u, @Dt.dic0 _ _ a s e, r => by
    obtain rfl : u = Value.ref a := r
    obtain ⟨_, _, vs, kv, o, es, ep, eo, ex, ed, ks, ps, _⟩ := (show ObjOk P w H h a (.dK []) from hok a _ e)
    cases kv
    have hes : es.toList = [] := by
      have := ps.length
      simpa using this
    refine ⟨a :: [] ++ [], .dict (kvs := []) eo ex.1 ed (by rw [hes]; exact .nil) (by rw [hes]; exact .nil), fun b hb => ?_⟩
    obtain rfl : b = a := by simpa using hb
    rw [e]
    exact fun z => nomatch z
  | _, _, u, @Dt.dic1 _ _ a k v d s e hd, r => by
    obtain rfl : u = Value.ref a := r
    obtain ⟨_, _, vs, kv, o, es, ep, eo, ex, ed, ks, ps, _⟩ := (show ObjOk P w H h a (.dK [(k, v)]) from hok a _ e)
    cases kv with
    | @cons _ q _ _ hq tl =>
      cases tl
      obtain ⟨ek, rv⟩ := hq
      have key : ∀ l, Pairs (mixKind P w) l [q] → ∃ e1, l = [e1] ∧ (mixKind P w).is q.1 e1.key = true ∧ e1.val = q.2 := fun l p => by
        cases p with
        | cons a b c =>
          cases c
          exact ⟨_, rfl, a, b⟩
      obtain ⟨e1, hes, hk, hv⟩ := key _ ps
      have ek' : k = q.1 := ek
      have hk' : keyIs k e1.key = true := by rw [ek']; exact hk
      have rv' : RelV v e1.val := by rw [hv]; exact rv
      refine ⟨a :: ([] ++ []) ++ ([] ++ []), .dict (kvs := [(kD k, d)]) eo ex.1 ed (by rw [hes]; exact .cons (key_reads hk') .nil) (by rw [hes]; exact .cons (hd.reads rv') .nil), fun b hb => ?_⟩
      obtain rfl : b = a := by simpa using hb
      rw [e]
      exact fun z => nomatch z
theorem DtAll.reads (hok : HOk P w H h) : ∀ {vs : List V} {ds : List PyData} {us : List Value}, DtAll S H vs ds → Vals vs us → ∃ as, ReadsAll h us ds as ∧ ∀ b ∈ as, H b ≠ none
  | _, _, _, .nil, .nil => ⟨[], .nil, fun _ z => nomatch z⟩
  | _, _, _, .cons hd tl, .cons r rs => by
    obtain ⟨as, ra, na⟩ := Dt.reads hok hd r
    obtain ⟨bs, rb, nb⟩ := DtAll.reads hok tl rs
    refine ⟨as ++ bs, .cons ra rb, fun b hb => ?_⟩
    rcases List.mem_append.mp hb with hb | hb
    · exact na b hb
    · exact nb b hb
end
end
/-- repr(x) of a datum -/
def rRep : List V → Hp → VK → Prop := fun xs H Q => ∃ (x : V) (d : PyData) (S : Addr → Prop), xs = [x] ∧ Dt S H x d ∧ d.showable = true ∧ d.depth ≤ 20 ∧ d.shown.length ≤ sizeLine ∧ Q (.str d.shown) H
theorem call_rep {X : Cx} (hg : X.A.guards = some []) (hu : X.A.units + 25 < cLine) (hs : ∃ o, X.base.get? sysModules = some o) : CallR X (.builtin "repr") rRep := by
  intro pins s σ H xs us Q I r h
  obtain ⟨x, d, S, rfl, hd, sh, dep, hz, q⟩ := h
  obtain ⟨u, rfl, ru⟩ := vals1 r
  obtain ⟨hp, g, dr, tk, os⟩ := s
  obtain ⟨as, rd, na⟩ := hd.reads I.hok ru
  obtain ⟨om, hom⟩ := hs
  have hns : sysModules ∉ as := fun z => na _ z (I.bs _ _ hom).2
  have big : ∀ {a : Addr}, u = Value.ref a → wpAny (model X.prog X.w) X.A (call (.builtin "repr") [u]) (EP X pins σ Q) X.xe ⟨hp, g, dr, tk, os⟩ := fun {a} e => by
    subst e
    exact repr_of_reads' rd sh (fun _ => hns) hg (by omega) (fun _ _ z => z) (fun h' u tk2 hk => ⟨.str d.shown, H, I.kept (t' := tk2) hk, ⟨_, rfl⟩, q⟩) hz
  cases hd with
  | «at» h =>
    cases h with
    | non =>
      obtain rfl : u = Value.none := ru
      exact PySem.P.repr_of_none ⟨.str _, H, I.tok _, ⟨_, rfl⟩, q⟩
    | bl b =>
      obtain rfl : u = Value.bool b := ru
      cases b with
      | true => exact PySem.P.repr_of_bool ⟨.str _, H, I.tok _, ⟨_, rfl⟩, q⟩
      | false => exact PySem.P.repr_of_bool ⟨.str _, H, I.tok _, ⟨_, rfl⟩, q⟩
    | int i =>
      obtain ⟨t, rfl⟩ : ∃ t, u = Value.int i t := ru
      have sh' : i.natAbs.log2 < 1920 := by
        unfold PyData.showable at sh
        exact of_decide_eq_true sh
      exact PySem.P.repr_of_int sh' ⟨.str _, H, I.tok _, ⟨_, rfl⟩, q⟩
    | str y =>
      obtain ⟨t, rfl⟩ : ∃ t, u = Value.str y t := ru
      exact PySem.P.repr_of_str ⟨.str _, H, I.tok _, ⟨_, rfl⟩, q⟩ hz
  | lst s e hl h => exact big ru
  | tup s e hl h => exact big ru
  | dic0 s e => exact big ru
  | dic1 s e h => exact big ru
end OM

namespace OM
open PySem PySem.Spec PyProof.Rows L2
/-- a function's promise, wherever no text is being shown around it -/
structure GFn (P : Program) (w : World) (K : PySem.W.Frag) (mg : Str → Option Value) (base : Heap) (n : Nat) (g : Addr) (gd : FuncData) (names : List Str) (sp : Sp) : Prop where
  cnt : ∀ xs H Q E, sp xs H Q E → xs.length = names.length
  go : ∀ (B : Around) (out : List Env) (z : Shared) (H : Hp) (ar : Args) (ws : List Value) (xs : List V) (Q : VK) (E : XK), B.guards = some [] → Room n B → Env0 P w K mg base B out z H → BindsTo z gd ar (names.zip ws) → Vals xs ws → sp xs H Q E →
    codeAny (model P w) B (.call (.ref g) ar) (CR CX0 out P w H z Q E) z
section
variable {P : Program} {w : World} {K : PySem.W.Frag} {mg : Str → Option Value} {base : Heap}
theorem gfn_of {x qual : Str} {st : Stmt} {g : Addr} {gd : FuncData} {N names : List Str} {n : Nat} {sp : Sp} (F : Fun K x qual st g gd) (S : FnScope N names (defScope st)) (cnt : ∀ xs H Q E, sp xs H Q E → xs.length = names.length)
    (bd : ∀ (cv : Value) (B : Around) (out : List Env) (z : Shared) (H : Hp) (xs : List V) (Q : VK) (E : XK), B.guards = some [] → Room n (B.deeper (envOfC qual (defScope st) z.heap.objs.size g cv)) → sp xs H Q E →
      ∃ t, PSs (cxOf CX0 P w K mg base N qual (defScope st) g cv B out z H E).nox (defBody st) t ∧ t { nx := fun _ H' => Q .non H', rt := Q } (start N xs) H) : GFn P w K mg base (n + 1) g gd names sp := by
  obtain ⟨oc, od, kV, doc, pm, an, cv, ct, osl, rfl, lk, hcd⟩ := F.ex
  refine ⟨cnt, fun B out z H ar ws xs Q E hg hr e0 hb rv hs => ?_⟩
  have kz : ∀ b o, base.get? b = some o → z.heap.get? b = some o := fun b o e => (e0.bs b o e).1
  have Kz : K.In z.heap := e0.mod.kin.keeps kz
  have hkinds : ∀ y ∈ names.zip ws, (defScope st).names.lookup y.1 = some .local ∨ ((defScope st).names.lookup y.1 = some .cell ∧ ((cellsFrom (z.heap.objs.size + 1) (defScope st).names []).lookup y.1).isSome = true) := by
    rintro ⟨m, v⟩ hy
    refine (S.par m (List.of_mem_zip hy).1).imp id fun c => ⟨c, PySem.W.cellsFrom_some _ _ _ (.inl c)⟩
  refine codeAny_call_function hr.depth (Kz _ _ lk) rfl S.co S.gen rfl (PySem.W.codeRec_of Kz hcd) (hb _ _ _ _ ?_)
  refine wpAny_newFunctionEnv_cells S.kind hkinds fun ev hev z1 ic => ?_
  subst hev
  refine ⟨(e0.mod.nolimit.keeps kz).keeps ic.toInCall.keep, codeAny_func ?_⟩
  obtain ⟨t, ht, hq⟩ := bd cv B out z H xs Q E hg (hr.deeper _) hs
  refine wpAny_mono (ht.nox.run [] z1 (start N xs) H _ (inv_start (CX := CX0) (E := E) S hr.hd e0 (cnt _ _ _ _ hs) rv ic) hq) (fun fl z2 h2 => ?_) fun _ _ h2 => h2
  cases fl with
  | ret u =>
    obtain ⟨v, σ2, H2, J, r2, q2⟩ := h2
    exact ⟨v, H2, J.os, J.bare, J.base, J.hok, r2, q2⟩
  | next =>
    obtain ⟨σ2, H2, J, q2⟩ := h2
    exact ⟨V.non, H2, J.os, J.bare, J.base, J.hok, (show RelV V.non Value.none from rfl), q2⟩
  | brk =>
    obtain ⟨_, _, _, q2⟩ := h2
    cases q2
  | cont =>
    obtain ⟨_, _, _, q2⟩ := h2
    cases q2
end
section
variable {X : Cx} {n : Nat} {g : Addr} {gd : FuncData} {names : List Str} {sp : Sp} {x : Str} {p pos : Pos} {e : Expr} {es : List Expr} {t : TA}
theorem pe_callG (G : GFn X.prog X.w X.K X.mg X.base n g gd names sp) (hgd : X.A.guards = some []) (hr : Room n X.A) (hg : Gl X x) (hm : X.mg x = some (.ref g)) (hk : PySem.W.keepIn X.K (.ref g) = true) (hb : Binds X.K gd names [])
    (ha : PA X (e :: es) t) (hdb : (x == ("__debug__" : Str)) = false := by decide) (h1 : starEach (e :: es) X.env = (false, eval e X.env) :: starEach es X.env := by rfl) (h2 : (backTo pos (starEach es X.env)).any (·.1) = false := by rfl) :
    PE X (.Call (.Name x p) (e :: es) [] pos) (tCall sp [] E0 t) := by
  refine ⟨fun pins s σ H Q I h => ?_⟩
  refine wpAny_Call_Name_kw (ld_glob I hg hm ?_ hdb)
  refine PySem.W.callWith_K (h₀ := X.base) I.ok.mod.kin hk (thn (ha.run pos pins s σ H _ I h) fun us z ⟨vs, H1, I1, r, q⟩ => ⟨I1.kIn, ?_⟩) h1 h2
  have q0 : sp (vs ++ []) H1 Q E0 := q
  rw [List.append_nil] at q0
  have hl : (us ++ []).length = names.length := by
    rw [List.append_nil, ← r.length]
    exact G.cnt _ _ _ _ q0
  have hbt := hb z us I1.kIn hl
  rw [List.append_nil] at hbt
  show wpAny (model X.prog X.w) X.A (call (.ref g) us) _ _ _
  refine wpAny_call (codeAny_mono (G.go X.A X.stack z H1 ⟨us, []⟩ us vs Q E0 hgd hr I1.env0 hbt r q0) fun res z' hq => ?_)
  match res, hq with
  | .ok (.ret u), hq => exact I1.after hq
  | .error er, hq => exact hq.elim
end
/-- the script is known, or held as it is; nothing else is -/
def Scr (K : PySem.W.Frag) (a : Addr) (H : Hp) : Prop := ∀ b u, H b = some u → b = a ∧ K.lookup a = none ∧ ∃ ob xs, u = HO.frz ob (.lst xs)
theorem run_law {P : Program} {w : World} {K : PySem.W.Frag} {mg mb : Str → Option Value} {n : Nat} {fa a : Addr} {gd : FuncData} {x : Str} {sp : Sp} {z : Shared} {vs : List Value} {H : Hp} (Kz : K.In z.heap) (ng : z.heap.Ns mainGlobals mg) (nb : z.heap.Ns builtinsNs mb)
    (bb : ∀ y : Str, y ≠ "__name__" → mb y = bootBuiltins y) (lim : z.heap.NoLimit) (sm : ∃ mm, z.heap.Ns sysModules mm) (hg : z.gens = #[]) (ha : z.heap.get? a = some { cls := .type "list", data := .seq vs.toArray }) (hr : Room n callerA)
    (F : ∀ base : Heap, K.In base → base.Ns mainGlobals mg → (∃ o, base.get? sysModules = some o) → GFn P w K mg base n fa gd [x] sp) (hbind : ∀ (s : Shared) (u : Value), BindsTo s gd ⟨[u], []⟩ [(x, u)])
    (hS : Scr K a H) (hok : HOk P w H z.heap) (hsp : sp [.ref a] H (fun v _ => v = .bl true) E0) :
    codeAny (model P w) callerA (.call (.ref fa) ⟨[.ref a], []⟩) (fun r z' => r = .ok (.ret (.bool true)) ∧ OldK z.heap z'.heap ∧ z'.os = z.os ∧ AllBare z'.gens) z := by
  have toB : ∀ {b : Addr} {m : Str → Option Value}, z.heap.Ns b m → (hidT z.heap H).Ns b m := by
    rintro b m ⟨o, es, ep, e, d, r⟩
    refine ⟨o, es, ep, hidT_get e ?_, d, r⟩
    cases q : H b with
    | none => rfl
    | some u =>
      obtain ⟨rfl, _⟩ := hS _ _ q
      rw [ha] at e
      cases e
      cases (show Data.seq vs.toArray _ = Data.dict es ep from d)
  have Kb : K.In (hidT z.heap H) := fun b o e => hidT_get (Kz b o e) (by
    cases q : H b with
    | none => rfl
    | some u =>
      obtain ⟨rfl, z0, _⟩ := hS _ _ q
      rw [z0] at e
      cases e)
  have M : Mod K mg (hidT z.heap H) := ⟨Kb, toB ng, ⟨mb, toB nb, bb⟩, by
    obtain ⟨mc, h1, h2⟩ := lim
    exact ⟨mc, toB h1, h2⟩⟩
  have hs : ∃ o, (hidT z.heap H).get? sysModules = some o := by
    obtain ⟨mm, q⟩ := sm
    obtain ⟨o, _, _, e, _⟩ := toB q
    exact ⟨o, e⟩
  have e0 : Env0 P w K mg (hidT z.heap H) callerA [] z H := ⟨rfl, M, fun b o e => of_hidT e, Nat.le_of_eq (hidT_size _ _), trivial, (fun b hb => by cases (show b ∈ ([] : List Addr) from hb)), hok, .of_eq hg⟩
  refine codeAny_mono ((F _ Kb (toB ng) hs).go callerA [] z H ⟨[.ref a], []⟩ [.ref a] [.ref a] _ _ rfl hr e0 (hbind z (.ref a)) (.cons rfl .nil) hsp) fun res z' q => ?_
  match res, q with
  | .error e, q => exact q.elim
  | .ok (.ret u), q =>
    obtain ⟨v, H', os, bare, un, hok', r', q'⟩ := q
    subst q'
    obtain rfl : u = Value.bool true := r'
    refine ⟨rfl, OldK.of_keep fun b o e => ?_, os, bare⟩
    cases y : H b with
    | none => exact un.keep b o e y (fun k => by cases (show b ∈ ([] : List Addr) from k)) (fun k => by cases (show b ∈ ([] : List Addr) from k))
    | some u =>
      obtain ⟨rfl, _, ob, xs, rfl⟩ := hS _ _ y
      have h1 := (hok b _ y).1
      have h2 := (hok' b _ (un.frzs b ob _ y)).1
      rw [e] at h1
      cases h1
      exact h2
theorem walkG {l : PySem.W.OpenLaw} {n k : Nat} {q : Program} {loose : List Str} {XP : (Str → Option Value) → Heap → Prop} {YP : World → Heap → Prop} {d : DefRec} {K : Params → PySem.W.Frag} {sp : PySem.W.Frag → Sp} {x : Str} (hn : l.most = some n) (hn2 : n ≤ sizeLine)
    (hdf : d.params.defaults = []) (hi : importsNone q = true) (hr : Room k callerA) (hY : ∀ (w : World) (h : Heap), YP w h → (K w.params).In h)
    (F : ∀ (w : World) (mg : Str → Option Value) (fa : Addr) (h : Heap), (K w.params).In h → h.Ns mainGlobals mg → mg d.name = some (.ref fa) → ∃ gd : FuncData, (∀ (s : Shared) (u : Value), BindsTo s gd ⟨[u], []⟩ [(x, u)]) ∧
      ∀ base : Heap, (K w.params).In base → base.Ns mainGlobals mg → (∃ o, base.get? sysModules = some o) → GFn l.prog w (K w.params) mg base k fa gd [x] (sp (K w.params)))
    (hsp : ∀ (K : PySem.W.Frag) (H : Hp) (a : Addr) (ns : List Int), ns.length ≤ n → SqL K H a (ns.map V.int) → sp K [.ref a] H (fun v _ => v = .bl true) E0) : PySem.W.WalkO q loose XP YP l.row.toRowW d [] (fun f vs => PySem.call f vs) := by
  refine Att.attach_call hn hdf fun w s₀ z mg mb fa o pm cd doc a vs ns G Y ho hd hcd hmg hobj hints hlen hg => ?_
  have Kz := hY w _ Y
  obtain ⟨gd, hb, hF⟩ := F w mg fa _ Kz G.T.g hmg
  have sm : ∃ mm, z.heap.Ns sysModules mm := by
    obtain ⟨mm, h1, _⟩ := (G.T.seer hi).mods
    exact ⟨mm, h1⟩
  have rv := vals_ints hints
  have hl : (ns.map V.int).length ≤ sizeLine := by
    rw [List.length_map]
    omega
  cases hk : (K w.params).lookup a with
  | some o1 =>
    have e := Kz a o1 hk
    rw [hobj] at e
    cases e
    exact run_law (H := fun _ => none) Kz G.T.g G.T.b G.T.builtins G.T.nolimit sm hg hobj hr hF hb (fun b u y => by cases y) (fun b u y => by cases y)
      (hsp _ _ a ns hlen (.inr ⟨_, vs.toArray, _, hk, rfl, rfl, rfl, by rw [List.size_toArray, ← rv.length]; exact hl, by simpa using rv⟩))
  | none =>
    refine run_law (H := fun b => if b = a then some (.frz { cls := .type "list", data := .seq vs.toArray } (.lst (ns.map V.int))) else none) Kz G.T.g G.T.b G.T.builtins G.T.nolimit sm hg hobj hr hF hb (fun b u y => ?_) (fun b u y => ?_)
      (hsp _ _ a ns hlen (.inl (.inr ⟨{ cls := .type "list", data := .seq vs.toArray }, if_pos rfl⟩)))
    · have y1 : (if b = a then some (HO.frz { cls := .type "list", data := .seq vs.toArray } (.lst (ns.map V.int))) else none) = some u := y
      by_cases hb : b = a
      · rw [if_pos hb] at y1
        cases y1
        subst hb
        exact ⟨rfl, hk, _, _, rfl⟩
      · rw [if_neg hb] at y1
        cases y1
    · have y1 : (if b = a then some (HO.frz { cls := .type "list", data := .seq vs.toArray } (.lst (ns.map V.int))) else none) = some u := y
      by_cases hb : b = a
      · rw [if_pos hb] at y1
        cases y1
        subst hb
        exact ⟨hobj, hl, vs, _, rv, hobj⟩
      · rw [if_neg hb] at y1
        cases y1
end OM

namespace OM
open PySem PySem.Spec PyProof.Rows L2 LamX
/-- what stays as objects are laid -/
structure Stays (R : L2.St → Hp → Prop) : Prop where
  st : ∀ σ H H', Same H H' → R σ H → R σ H'
/-- an expression that stands for the datum d, built anew -/
def tLit (R : L2.St → Hp → Prop) (d : PyData) : TE := fun σ H Q => R σ H ∧ ∀ v H', Same H H' → Dt (fun _ => True) H' v d → Q v H'
def tLits (R : L2.St → Hp → Prop) (ds : List PyData) : TA := fun σ H Q => R σ H ∧ ∀ vs H', Same H H' → DtAll (fun _ => True) H' vs ds → Q vs H'
def tYes (R : L2.St → Hp → Prop) (b : Bool) : TE := fun σ H Q => R σ H ∧ ∀ H', Same H H' → Q (.bl b) H'
def tYess (R : L2.St → Hp → Prop) (bs : List Bool) : TA := fun σ H Q => R σ H ∧ ∀ H', Same H H' → Q (bs.map V.bl) H'
def tBls (R : L2.St → Hp → Prop) (bs : List Bool) : TE := fun σ H Q => R σ H ∧ ∀ p H', Same H H' → H' p = some (.lst (bs.map V.bl)) → Q (.ref p) H'
section
variable {X : Cx} {R : L2.St → Hp → Prop} {e : Expr} {es : List Expr} {j k : Nat} {pos p : Pos} {x : Str}
theorem PE.imp {t t' : TE} (h : PE X e t) (f : ∀ σ H Q, t' σ H Q → t σ H Q) : PE X e t' := ⟨fun pins s σ H Q I q => h.run pins s σ H Q I (f σ H Q q)⟩
theorem PA.imp {t t' : TA} (h : PA X es t) (f : ∀ σ H Q, t' σ H Q → t σ H Q) : PA X es t' := ⟨fun pos pins s σ H Q I q => h.run pos pins s σ H Q I (f σ H Q q)⟩
theorem pe_ls : PE X (.Constant (.str x) j pos) (tLit R (.str x)) := PE.imp pe_str fun σ H Q q => q.2 _ H (Same.refl H) (.at (.str x))
theorem pa_ln : PA X [] (tLits R []) := PA.imp pa_nil fun σ H Q q => q.2 _ H (Same.refl H) .nil
theorem pa_lc (S : Stays R) {d : PyData} {ds : List PyData} (h : PE X e (tLit R d)) (r : PA X es (tLits R ds)) (he : starEach (e :: es) X.env = (false, eval e X.env) :: starEach es X.env := by rfl) : PA X (e :: es) (tLits R (d :: ds)) :=
  PA.imp (pa_cons h r he) fun σ H Q q => ⟨q.1, fun v H1 s1 d1 => ⟨S.st _ _ _ s1 q.1, fun vs H2 s2 d2 => q.2 _ H2 (s1.trans s2) (.cons (d1.mv (fun _ z => z) fun b o _ z => s2 b o z) d2)⟩⟩
theorem pe_lt {ds : List PyData} (h : PA X es (tLits R ds)) (hl : ds.length ≤ 1000 := by decide) : PE X (.Tuple es k pos) (tLit R (.tuple ds)) :=
  PE.imp (pe_tup h) fun σ H Q q => ⟨q.1, fun vs H1 s1 d1 => by
    have l := d1.length
    have : (1000 : Nat) < sizeLine := by decide
    refine ⟨by omega, fun p hp => q.2 _ _ (s1.trans (same_upd hp)) (.tup trivial upd_same (by omega) (d1.mv (fun _ z => z) fun b o _ z => same_upd hp b o z))⟩⟩
theorem pa_yn : PA X [] (tYess R []) := PA.imp pa_nil fun σ H Q q => q.2 H (Same.refl H)
theorem pa_yc (S : Stays R) {b : Bool} {bs : List Bool} (h : PE X e (tYes R b)) (r : PA X es (tYess R bs)) (he : starEach (e :: es) X.env = (false, eval e X.env) :: starEach es X.env := by rfl) : PA X (e :: es) (tYess R (b :: bs)) :=
  PA.imp (pa_cons h r he) fun σ H Q q => ⟨q.1, fun H1 s1 => ⟨S.st _ _ _ s1 q.1, fun H2 s2 => q.2 H2 (s1.trans s2)⟩⟩
theorem pe_bs {bs : List Bool} (h : PA X es (tYess R bs)) (hl : bs.length ≤ 1000 := by decide) : PE X (.List es pos) (tBls R bs) :=
  PE.imp (pe_lst h) fun σ H Q q => ⟨q.1, fun H1 s1 => by
    have : (1000 : Nat) < sizeLine := by decide
    refine ⟨by rw [List.length_map]; omega, fun p hp => q.2 p _ (s1.trans (same_upd hp)) upd_same⟩⟩
theorem pe_yb {b : Bool} : PE X (.Constant (.bool b) j pos) (tYes R b) := PE.imp pe_bl fun σ H Q q => q.2 H (Same.refl H)
/-- a variable that holds the datum d -/
def RV (i : Nat) (d : PyData) : L2.St → Hp → Prop := fun σ H => ∃ v, σ[i]? = some (some v) ∧ Dt (fun _ => True) H v d
theorem rv_st {i : Nat} {d : PyData} : Stays (RV i d) := ⟨fun σ H H' s ⟨v, e, h⟩ => ⟨v, e, h.mv (fun _ z => z) fun b o _ z => s b o z⟩⟩
theorem true_st : Stays (fun _ _ => True) := ⟨fun _ _ _ _ _ => trivial⟩
theorem pe_lv (i : Nat) {d : PyData} (hN : X.N[i]? = some x := by rfl) (hv : Vis X.env.scope x := by first | exact Or.inl rfl | exact Or.inr (Or.inl rfl) | exact Or.inr (Or.inr rfl)) (hd : (x == ("__debug__" : Str)) = false := by decide)
    (hcd : (x == ("__classdict__" : Str)) = false := by decide) : PE X (.Name x pos) (tLit (RV i d) d) := PE.imp (pv i hN hv hd hcd) fun σ H Q q => by
  obtain ⟨⟨v, e, h⟩, q⟩ := q
  exact ⟨v, e, q v H (Same.refl H) h⟩
end
end OM

namespace OM
open PySem PySem.Spec PyProof.Rows L2
/-! ### things written out, laid anew -/
def fLit (R : L2.St → Hp → Prop) (d : PyData) : TE := fun σ H Q => R σ H ∧ ∀ v H', Same H H' → Dt (fun b => H b = none) H' v d → Q v H'
def fLits (R : L2.St → Hp → Prop) (ds : List PyData) : TA := fun σ H Q => R σ H ∧ ∀ vs H', Same H H' → DtAll (fun b => H b = none) H' vs ds → Q vs H'
def fItems (R : L2.St → Hp → Prop) (ds : List PyData) : TE := fun σ H Q => R σ H ∧ ∀ p vs H', Same H H' → H p = none → H' p = some (.lst vs) → DtAll (fun b => H b = none) H' vs ds → Q (.ref p) H'
/-- a choice among things written out; the dice in slot 0 -/
def tOne (R : L2.St → Hp → Prop) (ds : List PyData) : TE := fun σ H Q => ∃ d : Addr, σ[0]? = some (some (.ref d)) ∧ Dice H d ∧ R σ H ∧ ∀ v H' e, But d H H' → Dice H' d → e ∈ ds → Dt (fun b => H b = none) H' v e → Q v H'
section
variable {X : Cx} {R : L2.St → Hp → Prop} {e : Expr} {es : List Expr} {j k : Nat} {pos p p2 lp : Pos} {x : Str}
theorem pe_fs : PE X (.Constant (.str x) j pos) (fLit R (.str x)) := PE.imp pe_str fun σ H Q q => q.2 _ H (Same.refl H) (.at (.str x))
theorem pa_fn : PA X [] (fLits R []) := PA.imp pa_nil fun σ H Q q => q.2 _ H (Same.refl H) .nil
theorem pa_fc (S : Stays R) {d : PyData} {ds : List PyData} (h : PE X e (fLit R d)) (r : PA X es (fLits R ds)) (he : starEach (e :: es) X.env = (false, eval e X.env) :: starEach es X.env := by rfl) : PA X (e :: es) (fLits R (d :: ds)) :=
  PA.imp (pa_cons h r he) fun σ H Q q => ⟨q.1, fun v H1 s1 d1 => ⟨S.st _ _ _ s1 q.1, fun vs H2 s2 d2 => q.2 _ H2 (s1.trans s2) (.cons (d1.mv (fun _ z => z) fun b o _ z => s2 b o z) (d2.mv (fun _ z => s1.free z) fun _ _ _ z => z))⟩⟩
theorem pe_ft {ds : List PyData} (h : PA X es (fLits R ds)) (hl : ds.length ≤ 1000 := by decide) : PE X (.Tuple es k pos) (fLit R (.tuple ds)) :=
  PE.imp (pe_tup h) fun σ H Q q => ⟨q.1, fun vs H1 s1 d1 => by
    have l := d1.length
    have : (1000 : Nat) < sizeLine := by decide
    refine ⟨by omega, fun p hp => q.2 _ _ (s1.trans (same_upd hp)) (.tup (s1.free hp) upd_same (by omega) (d1.mv (fun _ z => z) fun b o _ z => same_upd hp b o z))⟩⟩
theorem pe_fl {ds : List PyData} (h : PA X es (fLits R ds)) (hl : ds.length ≤ 1000 := by decide) : PE X (.List es pos) (fItems R ds) :=
  PE.imp (pe_lst h) fun σ H Q q => ⟨q.1, fun vs H1 s1 d1 => by
    have l := d1.length
    have : (1000 : Nat) < sizeLine := by decide
    exact ⟨by omega, fun p hp => q.2 p vs _ (s1.trans (same_upd hp)) (s1.free hp) upd_same (d1.mv (fun _ z => z) fun b o _ z => same_upd hp b o z)⟩⟩
theorem pe_fv (i : Nat) {y : Str} (hR : ∀ σ H, R σ H → σ[i]? = some (some (.str y))) (hN : X.N[i]? = some x := by rfl) (hv : Vis X.env.scope x := by first | exact Or.inl rfl | exact Or.inr (Or.inl rfl) | exact Or.inr (Or.inr rfl)) (hd : (x == ("__debug__" : Str)) = false := by decide)
    (hcd : (x == ("__classdict__" : Str)) = false := by decide) : PE X (.Name x pos) (fLit R (.str y)) := PE.imp (pv i hN hv hd hcd) fun σ H Q q => ⟨_, hR σ H q.1, q.2 _ H (Same.refl H) (.at (.str y))⟩
theorem pe_one5 {f : Addr} {fd : FuncData} {n : Nat} {ds : List PyData} {dn : Str} (G : FnOk X.prog X.w X.K X.mg X.base CX0 n f fd ["_law_dice_here", "_law_items"] (spOneOf X.K)) (hr : Room n X.A) (hg : Gl X "_law_one_of") (gF : X.mg "_law_one_of" = some (.ref f)) (kF : PySem.W.keepIn X.K (.ref f) = true) (bF : Binds X.K fd ["_law_dice_here", "_law_items"] [])
    (hd : PE X (.Name dn p2) (tVar 0)) (h : PE X (.List es lp) (fItems R ds)) (h0 : 0 < ds.length ∧ ds.length ≤ 1000) (h1 : starEach [.Name dn p2, .List es lp] X.env = (false, eval (.Name dn p2) X.env) :: starEach [.List es lp] X.env := by rfl) (h2 : starEach [.List es lp] X.env = (false, eval (.List es lp) X.env) :: starEach [] X.env := by rfl)
    (hpl : (backTo pos (starEach [.List es lp] X.env)).any (·.1) = false := by rfl) : PE X (.Call (.Name "_law_one_of" p) [.Name dn p2, .List es lp] [] pos) (tOne R ds) :=
  PE.imp (pe_call G hr hg gF kF bF .nil pass0 (pa_cons hd (pa_cons h pa_nil h2) h1) (he := h1) (hpl := hpl)) fun σ H Q ⟨d, e0, hD, hR, q⟩ => by
    refine ⟨_, e0, hR, fun pl vs H1 s1 np ep dv => ?_⟩
    have dne : H d ≠ none := hD.ne
    have l := dv.length
    refine ⟨d, pl, vs, rfl, (by obtain ⟨a1, a2, a3, e⟩ := hD; exact ⟨a1, a2, a3, s1 _ _ e⟩), SqL.of ep, fun _ z => dne (by rw [← z]; exact np), by omega, by omega, fun H2 i v hv b2 hd2 => ?_⟩
    obtain ⟨e, he, hde⟩ := dv.get hv
    exact q v H2 e (fun b o hb eo => b2 b o hb (s1 b o eo)) hd2 (List.mem_of_getElem? he) (hde.mv (fun _ z => z) fun b o hb eo => b2 b o (fun z => dne (by rw [← z]; exact hb)) eo)
end
section
variable {X : Cx} {R : L2.St → Hp → Prop} {es : List Expr} {j : Nat} {pos : Pos}
theorem pe_fn0 : PE X (.Constant .none j pos) (fLit R .none) := PE.imp pe_non fun σ H Q q => q.2 _ H (Same.refl H) (.at .non)
theorem pe_fi0 {i : Int} : PE X (.Constant (.int i) j pos) (fLit R (.int i)) := PE.imp pe_int fun σ H Q q => q.2 _ H (Same.refl H) (.at (.int i))
theorem pe_fb0 {b : Bool} : PE X (.Constant (.bool b) j pos) (fLit R (.bool b)) := PE.imp pe_bl fun σ H Q q => q.2 _ H (Same.refl H) (.at (.bl b))
theorem pe_fd0 : PE X (.Dict [] [] pos) (fLit R (.dict [])) := PE.imp pe_dnewK fun σ H Q q p hp => q.2 _ _ (same_upd hp) (.dic0 hp upd_same)
theorem pe_fL {ds : List PyData} (h : PA X es (fLits R ds)) (hl : ds.length ≤ 1000 := by decide) : PE X (.List es pos) (fLit R (.list ds)) :=
  PE.imp (pe_lst h) fun σ H Q q => ⟨q.1, fun vs H1 s1 d1 => by
    have l := d1.length
    have : (1000 : Nat) < sizeLine := by decide
    refine ⟨by omega, fun p hp => q.2 _ _ (s1.trans (same_upd hp)) (.lst (s1.free hp) upd_same (by omega) (d1.mv (fun _ z => z) fun b o _ z => same_upd hp b o z))⟩⟩
end
end OM

namespace OM
open PySem PySem.Spec PyProof.Rows L2
theorem weightAll_cons (x : PyData) (r : List PyData) : PyData.weightAll (x :: r) = x.weight + 1 + PyData.weightAll r := by rw [PyData.weightAll]
theorem weight_tup (ds : List PyData) : (PyData.tuple ds).weight = PyData.weightAll ds := by unfold PyData.weight; rfl
mutual
def okP : PyData → Bool
  | .str x => PyData.strOk x
  | .tuple xs => okPAll xs
  | .list xs => okPAll xs
  | .int i => decide (0 ≤ i) && decide (i < 1000)
  | .dict _ => false
  | _ => true
def okPAll : List PyData → Bool
  | [] => true
  | x :: r => okP x && okPAll r
end
theorem tupleText_ub (ts : List Str) : (tupleText ts).length ≤ 3 + piled ts := by
  unfold tupleText
  rw [strLen_append, strLen_append]
  have e1 : ((("(" : String) : Str)).length = 1 := rfl
  have e3 : (((if ts.length == 1 then ",)" else ")" : String) : Str)).length ≤ 2 := by split <;> decide
  rw [e1]
  by_cases h : ts = []
  · subst h
    have : (Str.join ", " []).length = 0 := rfl
    omega
  · have := join_length_add ts h
    omega
theorem text_ub2 : ∀ (ts : List Str) (k : Nat) (acc : Str), (textFrom k acc ts).length ≤ acc.length + piled ts
  | [], _, acc => Nat.le_add_right _ _
  | t :: r, k, acc => by
    have ih := text_ub2 r (k + 1) (acc ++ (if k > 0 then ", " else "" : String) ++ t)
    have e : (acc ++ (if k > 0 then ", " else "" : String) ++ t : Str).length ≤ acc.length + (t.length + 2) := by
      rw [strLen_append, strLen_append]
      split
      · have : ((", " : String) : Str).length = 2 := rfl
        omega
      · have : (("" : String) : Str).length = 0 := rfl
        omega
    show (textFrom (k + 1) (acc ++ (if k > 0 then ", " else "" : String) ++ t) r).length ≤ _
    rw [piled_cons]
    omega
theorem listText_ub2 (ts : List Str) : (listText ts).length ≤ 2 + piled ts := by
  have q := text_ub2 ts 0 "["
  have h1 : ((("[" : String) : Str)).length = 1 := rfl
  have h2 : ((("]" : String) : Str)).length = 1 := rfl
  show (textFrom 0 "[" ts ++ ("]" : Str)).length ≤ _
  rw [strLen_append]
  omega
mutual
theorem shown_ub : ∀ d : PyData, okP d = true → d.shown.length ≤ 24 * d.weight + 5 ∧ d.showable = true
  | .none, _ => ⟨by decide, by unfold PyData.showable; rfl⟩
  | .bool b, _ => ⟨by cases b <;> decide, by unfold PyData.showable; rfl⟩
  | .int i, h => by
    unfold okP at h
    rw [Bool.and_eq_true, decide_eq_true_eq, decide_eq_true_eq] at h
    obtain ⟨n, rfl⟩ : ∃ n : Nat, i = (n : Int) := ⟨i.toNat, by omega⟩
    have q := num_small n (by omega)
    refine ⟨?_, ?_⟩
    · unfold PyData.shown
      exact Nat.le_trans q (by omega)
    · unfold PyData.showable
      exact decide_eq_true (log_small (by omega))
  | .str x, h => by
    unfold okP PyData.strOk at h
    have q := StrLaws.reprText_len x fun c hc => by
      have := Array.all_eq_true'.mp h c (by simpa using hc)
      have := of_decide_eq_true this
      omega
    refine ⟨?_, by unfold PyData.showable; rfl⟩
    unfold PyData.shown
    have e : (PyData.str x).weight = x.length := rfl
    omega
  | .tuple xs, h => by
    unfold okP at h
    obtain ⟨a, b⟩ := shownAll_ub xs h
    refine ⟨?_, by unfold PyData.showable; exact b⟩
    unfold PyData.shown
    have q := tupleText_ub (PyData.shownAll xs)
    rw [weight_tup]
    omega
  | .list xs, h => by
    unfold okP at h
    obtain ⟨a, b⟩ := shownAll_ub xs h
    refine ⟨?_, by unfold PyData.showable; exact b⟩
    unfold PyData.shown
    have q := listText_ub2 (PyData.shownAll xs)
    have e : (PyData.list xs).weight = PyData.weightAll xs := by unfold PyData.weight; rfl
    omega
  | .dict _, h => by unfold okP at h; cases h
theorem shownAll_ub : ∀ xs : List PyData, okPAll xs = true → piled (PyData.shownAll xs) ≤ 24 * PyData.weightAll xs ∧ PyData.showableAll xs = true
  | [], _ => ⟨Nat.zero_le _, by unfold PyData.showableAll; rfl⟩
  | x :: r, h => by
    unfold okPAll at h
    rw [Bool.and_eq_true] at h
    obtain ⟨a, b⟩ := shown_ub x h.1
    obtain ⟨c, e⟩ := shownAll_ub r h.2
    unfold PyData.shownAll PyData.showableAll
    rw [piled_cons, weightAll_cons, b, e]
    exact ⟨by omega, rfl⟩
end
end OM

namespace OM
open PySem PySem.Spec PyProof.Rows L2 LamX
abbrev sMet : Stmt := top 45
/-- the classes that `_law_met` names -/
structure MetK (mg : Str → Option Value) (c : Nat → Addr) : Prop where
  g0 : mg "InvalidValue" = some (.ref (c 0))
  g1 : mg "InvalidStretch" = some (.ref (c 1))
  g2 : mg "InvalidProgram" = some (.ref (c 2))
  g3 : mg "InvalidOperation" = some (.ref (c 3))
  g4 : mg "ParseError" = some (.ref (c 4))
  g5 : mg "UnknownName" = some (.ref (c 5))
  g6 : mg "Unanswered" = some (.ref (c 6))
  g7 : mg "InvalidNumber" = some (.ref (c 7))
  g8 : mg "TooMany" = some (.ref (c 8))
  g9 : mg "NothingToUndo" = some (.ref (c 9))
  g10 : mg "Refused" = some (.ref (c 10))
theorem pss_never {X : Cx} {b : List Stmt} : PSs X b (fun _ _ _ => False) := ⟨fun _ _ _ _ _ _ h => h.elim⟩
theorem scMe : FnScope ["_law_call", "e"] ["_law_call"] (defScope sMet) := ⟨rfl, rfl, rfl, by decide +kernel, rfl, by decide +kernel, by decide +kernel⟩
section
variable {X : Cx} {g : Addr} {cdg : Value} {q : Str} {c : Nat → Addr}
end
end OM

namespace OM
open PySem PySem.Spec PyProof.Rows L2 LamX
/-- a def whose code object is known by its address -/
structure FunC (K : PySem.W.Frag) (x qual : Str) (st : Stmt) (f : Addr) (fd : FuncData) (cc : Addr) : Prop where
  ex : ∃ (oc : Value) (od : Option Addr) (kV doc pm : Value) (an : Option Addr) (ct : Value) (osl : Array (Option Value)),
    fd = PySem.W.fnOf x qual (defArgs st) (defBody st) (defScope st) .none kV doc pm an (.ref cc) ct ∧ K.lookup f = some ⟨oc, od, .func fd, osl⟩ ∧ PySem.W.codeIn K (.ref cc) qual = true
  kp : PySem.W.keepIn K (.ref f) = true
theorem FunC.fn {K : PySem.W.Frag} {x qual : Str} {st : Stmt} {f : Addr} {fd : FuncData} {cc : Addr} (F : FunC K x qual st f fd cc) : Fun K x qual st f fd := by
  obtain ⟨oc, od, kV, doc, pm, an, ct, osl, h⟩ := F.ex
  exact ⟨⟨oc, od, kV, doc, pm, an, _, ct, osl, h⟩, F.kp⟩
section
variable {P : Program} {w : World} {K : PySem.W.Frag} {mg : Str → Option Value} {base : Heap}
theorem gfn_ofC {x qual : Str} {st : Stmt} {g cc : Addr} {gd : FuncData} {N names : List Str} {n : Nat} {sp : Sp} (F : FunC K x qual st g gd cc) (S : FnScope N names (defScope st)) (cnt : ∀ xs H Q E, sp xs H Q E → xs.length = names.length)
    (bd : ∀ (B : Around) (out : List Env) (z : Shared) (H : Hp) (xs : List V) (Q : VK) (E : XK), B.guards = some [] → Room n (B.deeper (envOfC qual (defScope st) z.heap.objs.size g (.ref cc))) → sp xs H Q E →
      ∃ t, PSs (cxOf CX0 P w K mg base N qual (defScope st) g (.ref cc) B out z H E).nox (defBody st) t ∧ t { nx := fun _ H' => Q .non H', rt := Q } (start N xs) H) : GFn P w K mg base (n + 1) g gd names sp := by
  obtain ⟨oc, od, kV, doc, pm, an, ct, osl, rfl, lk, hcd⟩ := F.ex
  refine ⟨cnt, fun B out z H ar ws xs Q E hg hr e0 hb rv hs => ?_⟩
  have kz : ∀ b o, base.get? b = some o → z.heap.get? b = some o := fun b o e => (e0.bs b o e).1
  have Kz : K.In z.heap := e0.mod.kin.keeps kz
  have hkinds : ∀ y ∈ names.zip ws, (defScope st).names.lookup y.1 = some .local ∨ ((defScope st).names.lookup y.1 = some .cell ∧ ((cellsFrom (z.heap.objs.size + 1) (defScope st).names []).lookup y.1).isSome = true) := by
    rintro ⟨m, v⟩ hy
    refine (S.par m (List.of_mem_zip hy).1).imp id fun c => ⟨c, PySem.W.cellsFrom_some _ _ _ (.inl c)⟩
  refine codeAny_call_function hr.depth (Kz _ _ lk) rfl S.co S.gen rfl (PySem.W.codeRec_of Kz hcd) (hb _ _ _ _ ?_)
  refine wpAny_newFunctionEnv_cells S.kind hkinds fun ev hev z1 ic => ?_
  subst hev
  refine ⟨(e0.mod.nolimit.keeps kz).keeps ic.toInCall.keep, codeAny_func ?_⟩
  obtain ⟨t, ht, hq⟩ := bd B out z H xs Q E hg (hr.deeper _) hs
  refine wpAny_mono (ht.nox.run [] z1 (start N xs) H _ (inv_start (CX := CX0) (E := E) S hr.hd e0 (cnt _ _ _ _ hs) rv ic) hq) (fun fl z2 h2 => ?_) fun _ _ h2 => h2
  cases fl with
  | ret u =>
    obtain ⟨v, σ2, H2, J, r2, q2⟩ := h2
    exact ⟨v, H2, J.os, J.bare, J.base, J.hok, r2, q2⟩
  | next =>
    obtain ⟨σ2, H2, J, q2⟩ := h2
    exact ⟨V.non, H2, J.os, J.bare, J.base, J.hok, (show RelV V.non Value.none from rfl), q2⟩
  | brk =>
    obtain ⟨_, _, _, q2⟩ := h2
    cases q2
  | cont =>
    obtain ⟨_, _, _, q2⟩ := h2
    cases q2
end
section
variable {S : Addr → Prop} {H H' : Hp}
mutual
theorem Dt.ext (e : ExtN H H') : ∀ {v : V} {d : PyData}, Dt S H v d → Dt S H' v d
  | _, _, .at h => .at h
  | _, _, .lst s q hl h => .lst s (e _ _ q (fun _ z => nomatch z)) hl (DtAll.ext e h)
  | _, _, .tup s q hl h => .tup s (e _ _ q (fun _ z => nomatch z)) hl (DtAll.ext e h)
  | _, _, .dic0 s q => .dic0 s (e _ _ q (fun _ z => nomatch z))
  | _, _, .dic1 s q h => .dic1 s (e _ _ q (fun _ z => nomatch z)) h
theorem DtAll.ext (e : ExtN H H') : ∀ {vs : List V} {ds : List PyData}, DtAll S H vs ds → DtAll S H' vs ds
  | _, _, .nil => .nil
  | _, _, .cons h r => .cons (Dt.ext e h) (DtAll.ext e r)
end
theorem Dice.ext {d : Addr} (e : ExtN H H') (h : Dice H d) : Dice H' d := by
  obtain ⟨a1, a2, a3, q⟩ := h
  exact ⟨a1, a2, a3, e _ _ q (fun _ z => nomatch z)⟩
end
end OM

namespace OM
open PySem PySem.Spec PyProof.Rows L2 VL
/-- a thing that program and law must tell alike -/
def goodT (d : PyData) : Bool := smlD d && (shortD d && (parD 20 d && (parDs 20 d && isValD d == lvalD d)))
def ds13 : List PyData := [.none, .int 0, .bool true, .str "", .list [], .list [.str "a"], .dict [], .tuple [.str "a", .str "b"], .tuple [.str "b", .str "a"], .tuple [.str "a", .str "a"], .tuple [.str "if"], .tuple [.str "a", .none], .tuple []]
theorem ds13_ok : ∀ d ∈ ds13, goodT d = true := by decide +kernel
theorem asc_sml {l : List Nat} (h : asc l = true) (n : l.length ≤ 900) : smlD (.str (S l)) = true ∧ shortD (.str (S l)) = true := by
  refine ⟨(asc_ok h (by omega)).sml, ?_⟩
  show decide ((S l).length ≤ 900) = true
  rw [SX.S_len]
  exact decide_eq_true n
theorem asc_val {l : List Nat} (h : asc l = true) : isValD (.str (S l)) = valueL l := by
  show (!l.contains 10 && valueL l) = _
  have : l.contains 10 = false := by
    cases e : l.contains 10 with
    | false => rfl
    | true => exact absurd (List.contains_iff_mem.mp e) (asc_10 h)
  rw [this]
  rfl
theorem good_str {l : List Nat} (h : asc l = true) (n : l.length ≤ 900) (c : l.count 40 < 20) : goodT (.str (S l)) = true := by
  obtain ⟨h1, h2⟩ := asc_sml h n
  unfold goodT
  rw [h1, h2, asc_val h]
  have h3 : parD 20 (.str (S l)) = true := decide_eq_true c
  have h4 : lvalD (.str (S l)) = valueL l := rfl
  rw [h3, h4, beq_self_eq_true]
  rfl
theorem good_tup1 {l : List Nat} (h : asc l = true) (n : l.length ≤ 900) (c : l.count 40 < 20) : goodT (.tuple [.str (S l)]) = true := by
  obtain ⟨h1, h2⟩ := asc_sml h n
  have h3 : parD 20 (.str (S l)) = true := decide_eq_true c
  have e1 : smlD (.tuple [.str (S l)]) = true := by
    unfold smlD smlAll
    rw [h1]
    unfold smlAll
    rfl
  have e2 : parDs 20 (.tuple [.str (S l)]) = true := by
    show (parD 20 (.str (S l)) && true) = true
    rw [h3]
    rfl
  unfold goodT
  rw [e1, e2]
  rfl
theorem goodT.all {d : PyData} (h : goodT d = true) : smlD d = true ∧ shortD d = true ∧ parD 20 d = true ∧ parDs 20 d = true ∧ isValD d = lvalD d := by
  unfold goodT at h
  simp only [Bool.and_eq_true, beq_iff_eq] at h
  exact h
/-- three truths -/
def bools3 (a b c : Bool) : PyData := .list [.bool a, .bool b, .bool c]
theorem bools3_ok : ∀ a b c : Bool, (bools3 a b c).showable = true ∧ (bools3 a b c).depth ≤ 20 ∧ (bools3 a b c).shown.length ≤ 1000 := by decide +kernel
/-- texts of so many signs -/
theorem weight_strs {m : Nat} : ∀ {xs : List Str}, (∀ x ∈ xs, x.length ≤ m) → PyData.weightAll (xs.map PyData.str) ≤ xs.length * (m + 1)
  | [], _ => Nat.zero_le _
  | x :: xs, h => by
    have ih := weight_strs (xs := xs) fun y hy => h y (List.mem_cons_of_mem _ hy)
    have hx := h x (List.mem_cons_self ..)
    show PyData.weightAll (.str x :: xs.map PyData.str) ≤ _
    rw [weightAll_cons, List.length_cons, Nat.add_mul]
    have : (PyData.str x).weight = x.length := rfl
    omega
theorem okP_strs : ∀ {xs : List Str}, (∀ x ∈ xs, PyData.strOk x = true) → okPAll (xs.map PyData.str) = true
  | [], _ => by unfold okPAll; rfl
  | x :: xs, h => by
    show okPAll (.str x :: xs.map PyData.str) = true
    unfold okPAll
    rw [okP_strs fun y hy => h y (List.mem_cons_of_mem _ hy)]
    have := h x (List.mem_cons_self ..)
    unfold okP
    rw [this]
    rfl
theorem parts_form {n : Nat} {t : Tr} (h : dr n t = true) : (∃ w, t = .lf w) ∨ ∃ (m : Nat) (f : List Nat) (ts : List Tr), n = m + 1 ∧ trD t = .list (.str (S f) :: ts.map trD) ∧ partsD t = .tuple [.str (S f), .tuple ((ts.map fun u => S (tx u)).map PyData.str)] ∧ nameL f = true ∧ ts.length ≤ 2 ∧ ∀ u ∈ ts, dr m u = true := by
  cases t with
  | lf w => exact .inl ⟨w, rfl⟩
  | nd0 f =>
    cases n with
    | zero => unfold dr at h; cases h
    | succ m => exact .inr ⟨m, f, [], rfl, rfl, rfl, h, by decide, fun u z => by cases z⟩
  | nd1 f t =>
    cases n with
    | zero => unfold dr at h; cases h
    | succ m =>
      unfold dr at h
      rw [Bool.and_eq_true] at h
      exact .inr ⟨m, f, [t], rfl, rfl, rfl, h.1, by simp, fun u z => by rw [List.mem_singleton.mp z]; exact h.2⟩
  | nd2 f t u =>
    cases n with
    | zero => unfold dr at h; cases h
    | succ m =>
      unfold dr at h
      rw [Bool.and_eq_true, Bool.and_eq_true] at h
      refine .inr ⟨m, f, [t, u], rfl, rfl, rfl, h.1, by simp, fun y z => ?_⟩
      rcases List.mem_cons.mp z with rfl | z
      · exact h.2.1
      · rw [List.mem_singleton.mp z]
        exact h.2.2
/-- what `repr` is asked of: the parts and the names -/
theorem parts_ok {n : Nat} {t : Tr} (h : dr n t = true) (hn : n ≤ 4) : okP (partsD t) = true ∧ (partsD t).weight ≤ 800 ∧ (partsD t).depth ≤ 2 := by
  have txt : ∀ {m : Nat} {u : Tr}, dr m u = true → m ≤ 4 → PyData.strOk (S (tx u)) = true ∧ (S (tx u)).length ≤ 372 := fun {m u} hu hm => by
    have l := dr_len hu
    have b := bd_le hm
    have e : bd 4 = 372 := rfl
    refine ⟨(asc_ok (asc_tx (dr_ok hu)) (by omega)).2, ?_⟩
    rw [SX.S_len]
    omega
  rcases parts_form h with ⟨w, rfl⟩ | ⟨m, f, ts, rfl, _, e, hf, l2, ht⟩
  · exact ⟨rfl, Nat.zero_le _, Nat.zero_le _⟩
  · rw [e]
    have fo : PyData.strOk (S f) = true ∧ (S f).length ≤ 8 := by
      have := name_len hf
      refine ⟨(asc_ok (asc_let (name_let hf)) (by omega)).2, ?_⟩
      rw [SX.S_len]
      exact this
    have to : ∀ x ∈ ts.map fun u => S (tx u), PyData.strOk x = true ∧ x.length ≤ 372 := fun x hx => by
      obtain ⟨u, hu, rfl⟩ := List.mem_map.mp hx
      exact txt (ht u hu) (by omega)
    have h1 := okP_strs fun x hx => (to x hx).1
    have h2 := weight_strs fun x hx => (to x hx).2
    rw [List.length_map] at h2
    have h3 := dep_strs (ts.map fun u => S (tx u))
    generalize (ts.map fun u => S (tx u)).map PyData.str = ds at h1 h2 h3
    refine ⟨?_, ?_, ?_⟩
    · unfold okP okPAll okPAll okPAll
      have : okP (.tuple ds) = true := by unfold okP; exact h1
      rw [this]
      unfold okP
      rw [fo.1]
      rfl
    · rw [weight_tup, weightAll_cons, weightAll_cons, weight_tup]
      have e1 : (PyData.str (S f)).weight = (S f).length := rfl
      have e2 : PyData.weightAll [] = 0 := rfl
      have : ts.length * (372 + 1) ≤ 2 * 373 := Nat.mul_le_mul_right _ l2
      omega
    · have e1 : (PyData.tuple ds).depth = 1 := by
        unfold PyData.depth
        rw [h3]
      have e2 : (PyData.str (S f)).depth = 0 := by unfold PyData.depth; rfl
      have e3 : PyData.depthAll [.str (S f), .tuple ds] = 1 := by
        unfold PyData.depthAll PyData.depthAll PyData.depthAll
        rw [e1, e2]
        rfl
      have e4 : (PyData.tuple [.str (S f), .tuple ds]).depth = 2 := by
        unfold PyData.depth
        rw [e3]
      rw [e4]
      exact Nat.le_refl _
theorem lv_ok : ∀ {n : Nat} {t : Tr}, dr n t = true → ∀ w ∈ lv t, atomL w = true ∧ w.length ≤ 12
  | n, .lf w, h, y, hy => by
    unfold dr at h
    rw [Bool.and_eq_true, decide_eq_true_eq] at h
    rw [List.mem_singleton.mp hy]
    exact h
  | 0, .nd0 f, h, _, _ => by unfold dr at h; cases h
  | 0, .nd1 f t, h, _, _ => by unfold dr at h; cases h
  | 0, .nd2 f t u, h, _, _ => by unfold dr at h; cases h
  | n + 1, .nd0 f, h, _, hy => by cases hy
  | n + 1, .nd1 f t, h, y, hy => by
    unfold dr at h
    rw [Bool.and_eq_true] at h
    exact lv_ok h.2 y hy
  | n + 1, .nd2 f t u, h, y, hy => by
    unfold dr at h
    rw [Bool.and_eq_true, Bool.and_eq_true] at h
    rcases List.mem_append.mp hy with z | z
    · exact lv_ok h.2.1 y z
    · exact lv_ok h.2.2 y z
theorem rep_ok {t : Tr} {ys : List Str} (h : dr 4 t = true) (hy : IsSet ys ((lv t).map S)) : (PyData.list [partsD t, .tuple (ys.map PyData.str)]).showable = true ∧ (PyData.list [partsD t, .tuple (ys.map PyData.str)]).depth ≤ 20 ∧ (PyData.list [partsD t, .tuple (ys.map PyData.str)]).shown.length ≤ 100000 := by
  obtain ⟨w1, w2, w3⟩ := parts_ok h (Nat.le_refl 4)
  have yo : ∀ y ∈ ys, PyData.strOk y = true ∧ y.length ≤ 12 := fun y z => by
    obtain ⟨l, hl, rfl⟩ := List.mem_map.mp (hy.mem.mp z)
    obtain ⟨a, b⟩ := lv_ok h l hl
    refine ⟨(asc_ok (asc_atom a) (by omega)).2, ?_⟩
    rw [SX.S_len]
    exact b
  have yl : ys.length ≤ 16 := by
    have := len_firsts ((lv t).map S) []
    rw [hy.2.length_eq]
    have l := dr_lv h
    rw [List.length_map] at this
    simp only [List.length_nil] at this
    have : (2 : Nat) ^ 4 = 16 := rfl
    omega
  have y1 := okP_strs fun y z => (yo y z).1
  have y2 := weight_strs fun y z => (yo y z).2
  have y3 := dep_strs ys
  generalize ys.map PyData.str = ds at y1 y2 y3
  have k1 : okP (.tuple ds) = true := by unfold okP; exact y1
  have k2 : okP (.list [partsD t, .tuple ds]) = true := by
    unfold okP okPAll okPAll okPAll
    rw [w1, k1]
    rfl
  have k3 : (PyData.list [partsD t, .tuple ds]).weight ≤ 1100 := by
    have e : (PyData.list [partsD t, .tuple ds]).weight = PyData.weightAll [partsD t, .tuple ds] := by unfold PyData.weight; rfl
    rw [e, weightAll_cons, weightAll_cons, weight_tup]
    have e2 : PyData.weightAll [] = 0 := rfl
    have : ys.length * (12 + 1) ≤ 16 * 13 := Nat.mul_le_mul_right _ yl
    omega
  obtain ⟨b1, b2⟩ := shown_ub _ k2
  refine ⟨b2, ?_, by omega⟩
  have e1 : (PyData.tuple ds).depth = 1 := by
    unfold PyData.depth
    rw [y3]
  have e2 : PyData.depthAll [partsD t, .tuple ds] ≤ 2 := by
    unfold PyData.depthAll PyData.depthAll PyData.depthAll
    rw [e1]
    omega
  have e3 : (PyData.list [partsD t, .tuple ds]).depth = PyData.depthAll [partsD t, .tuple ds] + 1 := by unfold PyData.depth; rfl
  omega
theorem cutVG {A : Prop} (P : V → Hp → Prop) {R : V → Hp → Prop} (f : (∀ v G, P v G → R v G) → A) (b : ∀ v G, P v G → R v G) : A := f b
end OM

namespace OM
open PySem PySem.Spec PyProof.Rows L2 VL
abbrev sRight1 : Stmt := top 54
abbrev nR1 : List Str := ["_law_dice_here", "_law_tree", "_law_other", "_law_text_here", "_law_more", "_law_near_here", "_law_things", "_law_thing", "_law_told", "_law_due", "_law_one", "_law_name", "_law_number"]
def CallM (P : Program) (w : World) (K : PySem.W.Frag) (mg : Str → Option Value) (base : Heap) (name : Str) (k : Nat) (ps : List Str) (sp : Sp) : Prop := ∃ (g : Addr) (d : FuncData), mg name = some (.ref g) ∧ PySem.W.keepIn K (.ref g) = true ∧ Binds K d ps [] ∧ FnOk P w K mg base CX0 k g d ps sp
def CallX (P : Program) (w : World) (K : PySem.W.Frag) (mg : Str → Option Value) (base : Heap) (name : Str) (k : Nat) (ps : List Str) (sp : Sp) : Prop := ∃ (g : Addr) (d : FuncData), mg name = some (.ref g) ∧ PySem.W.keepIn K (.ref g) = true ∧ Binds K d ps [] ∧ FnOk P w K mg base (L2.CX P w) k g d ps sp
/-- the program's functions, as the law calls them -/
structure ProgF (P : Program) (w : World) (K : PySem.W.Frag) (mg : Str → Option Value) (base : Heap) (cO cN cV : Addr) : Prop where
  name : CallM P w K mg base "is_name" 1 ["value"] spName
  set : CallM P w K mg base "is_set" 2 ["value"] spSet
  val : CallM P w K mg base "is_value" 5 ["value"] spVal
  parts : CallX P w K mg base "parts" 8 ["value"] (spParts cV)
  atoms : CallX P w K mg base "atoms" 8 ["value"] (spAtoms cV)
  unk : CallX P w K mg base "unknown" 8 ["name", "number"] (spUnk cO cN)
  app : ∃ g : Addr, mg "applied" = some (.ref g) ∧ PySem.W.keepIn K (.ref g) = true ∧ FnR P w K mg base (L2.CX P w) 8 g (spApp K cO cV)
/-- the law's own -/
structure LawF1 (P : Program) (w : World) (K : PySem.W.Frag) (mg : Str → Option Value) (base : Heap) : Prop where
  dice : ∃ (fR fO : Addr) (fdR fdO : FuncData), DiceF K mg fR fO fdR fdO
  drawn : ∃ (g : Addr) (d : FuncData), mg "_law_drawn" = some (.ref g) ∧ PySem.W.keepIn K (.ref g) = true ∧ Binds K d ["_law_dice_here", "_law_deep"] [] ∧ ∀ n, FnOk P w K mg base CX0 (n + 2) g d ["_law_dice_here", "_law_deep"] (spDrawn n)
  text : ∃ (g : Addr) (d : FuncData), mg "_law_text" = some (.ref g) ∧ PySem.W.keepIn K (.ref g) = true ∧ Binds K d ["_law_tree"] [] ∧ ∀ n, FnOk P w K mg base CX0 n g d ["_law_tree"] (spText n)
  latoms : ∃ (g : Addr) (d : FuncData), mg "_law_atoms" = some (.ref g) ∧ PySem.W.keepIn K (.ref g) = true ∧ Binds K d ["_law_tree"] [] ∧ ∀ n, FnOk P w K mg base CX0 n g d ["_law_tree"] (spLAtoms n)
  near : CallM P w K mg base "_law_near" 3 ["_law_dice_here", "_law_text_here"] spNear
  lval : CallM P w K mg base "_law_is_value" 21 ["_law_thing"] (spLVal 20)
  lname : CallM P w K mg base "_law_is_name" 22 ["_law_thing"] (spLName 20)
  lset : CallM P w K mg base "_law_is_set" 23 ["_law_thing"] (spLSet 20)
/-- built-in names that nothing hides -/
structure BltF (mg : Str → Option Value) : Prop where
  rep : mg "repr" = none
  isi : mg "isinstance" = none
  str : mg "str" = none
  tup : mg "tuple" = none
  srt : mg "sorted" = none
  set : mg "set" = none
def spRight1 : Sp := fun vs H Q _ => ∃ d : Addr, vs = [.ref d] ∧ Dice H d ∧ ∀ H', But d H H' → Dice H' d → Q (.bl true) H'
def names4 : List Str := ["a", "get", "abcdefgh", "zz"]
theorem names4_ok : ∀ x ∈ names4, nogD (.str x) = true ∧ smlD (.str x) = true ∧ x.length ≤ 8 := by decide +kernel
theorem Dt.but {d : Addr} {G G' : Hp} {v : V} {e : PyData} (h : Dt (fun b => b ≠ d) G v e) (b : But d G G') : Dt (fun b => b ≠ d) G' v e := h.mv (fun _ z => z) (fun c o hc eo => b c o hc eo)
theorem Dt.same {S0 : Addr → Prop} {G G' : Hp} {v : V} {e : PyData} (h : Dt S0 G v e) (s : Same G G') : Dt S0 G' v e := h.mv (fun _ z => z) (fun c o _ eo => s c o eo)
theorem DtAll.but {d : Addr} {G G' : Hp} {v : List V} {e : List PyData} (h : DtAll (fun b => b ≠ d) G v e) (b : But d G G') : DtAll (fun b => b ≠ d) G' v e := h.mv (fun _ z => z) (fun c o hc eo => b c o hc eo)
theorem DtAll.same {S0 : Addr → Prop} {G G' : Hp} {v : List V} {e : List PyData} (h : DtAll S0 G v e) (s : Same G G') : DtAll S0 G' v e := h.mv (fun _ z => z) (fun c o _ eo => s c o eo)
section
variable {P : Program} {w : World} {K : PySem.W.Frag} {mg : Str → Option Value} {base : Heap} {f cO cN cV : Addr} {fd : FuncData}
theorem scR1 : FnScope nR1 ["_law_dice_here"] (defScope sRight1) := ⟨rfl, rfl, rfl, by decide +kernel, rfl, by decide +kernel, by decide +kernel⟩
theorem ok_right1 (F : Fun K "_law_right" "_law_right" sRight1 f fd) (R : ProgF P w K mg base cO cN cV) (L : LawF1 P w K mg base) (B : BltF mg) (hs : ∃ o, base.get? sysModules = some o) : GFn P w K mg base 24 f fd ["_law_dice_here"] spRight1 := by
  obtain ⟨fR, fO, fdR, fdO, D⟩ := L.dice
  have GR : FnOk P w K mg base CX0 1 fR fdR ["_law_dice_here", "_law_total"] spRoll := ok_roll D.FR D.T
  have GO : FnOk P w K mg base CX0 2 fO fdO ["_law_dice_here", "_law_items"] (spOneOf K) := ok_oneof D.FO D.T D.FR D.gR D.bR
  obtain ⟨fD, dD, gD, kD, bD, GD⟩ := L.drawn
  obtain ⟨fT, dT, gT, kT, bT, GT⟩ := L.text
  obtain ⟨fA, dA, gA, kA, bA, GA⟩ := L.latoms
  obtain ⟨fN, dN, gN, kN, bN, GN⟩ := L.near
  obtain ⟨l1, e1, gl1, kl1, bl1, Gl1⟩ := L.lname
  obtain ⟨l2, e2, gl2, kl2, bl2, Gl2⟩ := L.lset
  obtain ⟨l3, e3, gl3, kl3, bl3, Gl3⟩ := L.lval
  obtain ⟨p1, d1, gp1, kp1, bp1, Gp1⟩ := R.name
  obtain ⟨p2, d2, gp2, kp2, bp2, Gp2⟩ := R.set
  obtain ⟨p3, d3, gp3, kp3, bp3, Gp3⟩ := R.val
  obtain ⟨p4, d4, gp4, kp4, bp4, Gp4⟩ := R.parts
  obtain ⟨p5, d5, gp5, kp5, bp5, Gp5⟩ := R.atoms
  obtain ⟨p6, d6, gp6, kp6, bp6, Gp6⟩ := R.unk
  obtain ⟨p7, gp7, kp7, Gp7⟩ := R.app
  refine gfn_of F scR1 (fun vs H Q E h => ?_) (fun cv A outer s H vs Q E hga hr h => ?_)
  · obtain ⟨d, rfl, _⟩ := h
    rfl
  · obtain ⟨d, rfl, hd, q⟩ := h
    have hgd : (A.deeper (envOfC "_law_right" (defScope sRight1) s.heap.objs.size f cv)).guards = some [] := hga
    have un := hr.un
    have hu : (A.deeper (envOfC "_law_right" (defScope sRight1) s.heap.objs.size f cv)).units + 64 < cLine := by omega
    have hu2 : (A.deeper (envOfC "_law_right" (defScope sRight1) s.heap.objs.size f cv)).units + 25 < cLine := by omega
    refine ⟨_, pss_cons (ps_par (i := 1) (j := 2) rfl scR1.nd rfl rfl (by decide) rfl rfl (pa_cons (pe_call (GD 5) (hr.mono (by decide)) (by rfl) gD kD bD .nil pass0 (pa_cons (pv 0) (pa_cons pe_int pa_nil))) (pa_cons (pe_call (GD 3) (hr.mono (by decide)) (by rfl) gD kD bD .nil pass0 (pa_cons (pv 0) (pa_cons pe_int pa_nil))) pa_nil)) (by rfl))
      (pss_cons (ps_par (i := 3) (j := 4) rfl scR1.nd rfl rfl (by decide) rfl rfl (pa_cons (pe_call (GT 5) (hr.mono (by decide)) (by rfl) gT kT bT .nil pass0 (pa_cons (pv 1) pa_nil)) (pa_cons (pe_call (GT 3) (hr.mono (by decide)) (by rfl) gT kT bT .nil pass0 (pa_cons (pv 2) pa_nil)) pa_nil)) (by rfl))
      (pss_cons (ps_set (i := 5) scR1.nd rfl (Or.inl rfl) (pe_lst (pa_cons (pe_call GN (hr.mono (by decide)) (by rfl) gN kN bN .nil pass0 (pa_cons (pv 0) (pa_cons (pv 3) pa_nil))) (pa_cons (pe_call GN (hr.mono (by decide)) (by rfl) gN kN bN .nil pass0 (pa_cons (pv 0) (pa_cons (pv 4) pa_nil))) pa_nil))))
      (pss_cons (ps_set (i := 6) scR1.nd rfl (Or.inl rfl) (pe_op op_cat (pe_lst (pa_cons (pv 3) (pa_cons (pv 4) (pa_cons (pe_tup (pa_cons (pv 3) pa_nil)) (pa_cons (pe_call GN (hr.mono (by decide)) (by rfl) gN kN bN .nil pass0 (pa_cons (pv 0) (pa_cons (pe_ix ix_list (pv 5) pe_int (fun _ _ => rfl)) pa_nil))) pa_nil))))) (pv 5)))
      (pss_cons (ps_set (i := 6) scR1.nd rfl (Or.inl rfl) (pe_op op_cat (pv 6) (pe_fl (R := fun _ _ => True) (ds := ds13) (pa_fc true_st pe_fn0 (pa_fc true_st pe_fi0 (pa_fc true_st pe_fb0 (pa_fc true_st pe_fs (pa_fc true_st (pe_fL pa_fn) (pa_fc true_st (pe_fL (pa_fc true_st pe_fs pa_fn)) (pa_fc true_st pe_fd0 (pa_fc true_st (pe_ft (pa_fc true_st pe_fs (pa_fc true_st pe_fs pa_fn)))
          (pa_fc true_st (pe_ft (pa_fc true_st pe_fs (pa_fc true_st pe_fs pa_fn))) (pa_fc true_st (pe_ft (pa_fc true_st pe_fs (pa_fc true_st pe_fs pa_fn))) (pa_fc true_st (pe_ft (pa_fc true_st pe_fs pa_fn)) (pa_fc true_st (pe_ft (pa_fc true_st pe_fs (pa_fc true_st pe_fn0 pa_fn))) (pa_fc true_st (pe_ft pa_fn) pa_fn))))))))))))))))
      (pss_cons (ps_for PassesOwn.never rfl (pi_list (pv 6)) (pg_name (i := 7) scR1.nd rfl (Or.inl rfl))
        (pss_cons (ps_set (i := 8) scR1.nd rfl (Or.inl rfl) (pe_lst (pa_cons (pe_call Gp1 (hr.mono (by decide)) (by rfl) gp1 kp1 bp1 .nil pass0 (pa_cons (pv 7) pa_nil)) (pa_cons (pe_call Gp2 (hr.mono (by decide)) (by rfl) gp2 kp2 bp2 .nil pass0 (pa_cons (pv 7) pa_nil)) (pa_cons (pe_call Gp3 (hr.mono (by decide)) (by rfl) gp3 kp3 bp3 .nil pass0 (pa_cons (pv 7) pa_nil)) pa_nil)))))
        (pss_one (ps_if (pt_cmpR op_ne (pe_callB (call_rep hgd hu2 hs) (by rfl) B.rep (by decide +kernel) (pa_cons (pv 8) pa_nil)) (pe_callB (call_rep hgd hu2 hs) (by rfl) B.rep (by decide +kernel) (pa_cons (pe_lst (pa_cons (pe_call Gl1 (hr.mono (by decide)) (by rfl) gl1 kl1 bl1 .nil pass0 (pa_cons (pv 7) pa_nil))
            (pa_cons (pe_call Gl2 (hr.mono (by decide)) (by rfl) gl2 kl2 bl2 .nil pass0 (pa_cons (pv 7) pa_nil)) (pa_cons (pe_call Gl3 (hr.mono (by decide)) (by rfl) gl3 kl3 bl3 .nil pass0 (pa_cons (pv 7) pa_nil)) pa_nil)))) pa_nil)) (nomark _)) (pss_one (ps_ret pe_bl)) pss_nil))))
      (pss_cons (ps_set (i := 9) scR1.nd rfl (Or.inl rfl) pe_non)
      (pss_cons (ps_if (pt_not (pt_val (pe_callB call_isi (by rfl) B.isi (by decide +kernel) (pa_cons (pv 1) (pa_cons (pe_bltn (v := .ty "str") (u := .type "str") (by rfl) B.str (by decide +kernel) rfl) pa_nil)))))
        (pss_one (ps_set (i := 9) scR1.nd rfl (Or.inl rfl) (pe_tup (pa_cons (pe_ix ix_list (pv 1) pe_int (fun _ _ => rfl)) (pa_cons (pe_callTy call_tuple_of (by rfl) B.tup (by decide +kernel) (pa_cons (pe_lc (own := [("_law_one", 10)]) rfl scR1.nd (pi_list (pe_slice sl_list (pv 1) (po_some pe_int) po_none)) (blkOk_by (N := nR1) (sc := defScope sRight1) (by decide +kernel))
            (fun _ _ _ _ _ => pg_name (i := 10) scR1.nd rfl (Or.inl rfl)) (fun _ _ _ _ _ => pts_nil) (fun _ _ _ _ _ => pe_call (GT 4) (hr.mono (by decide)) (by rfl) gT kT bT .nil pass0 (pa_cons (pv 10) pa_nil))) pa_nil)) pa_nil))))) pss_nil)
      (pss_cons (ps_if (pt_cmpR op_ne (pe_callB (call_rep hgd hu2 hs) (by rfl) B.rep (by decide +kernel) (pa_cons (pe_lst (pa_cons (pe_call Gp4 (hr.mono (by decide)) (by rfl) gp4 kp4 bp4 .nil (passes_call L2.takes0 (fun _ _ _ _ h => h)) (pa_cons (pv 3) pa_nil)) (pa_cons (pe_call Gp5 (hr.mono (by decide)) (by rfl) gp5 kp5 bp5 .nil (passes_call L2.takes0 (fun _ _ _ _ h => h)) (pa_cons (pv 3) pa_nil)) pa_nil))) pa_nil))
          (pe_callB (call_rep hgd hu2 hs) (by rfl) B.rep (by decide +kernel) (pa_cons (pe_lst (pa_cons (pv 9) (pa_cons (pe_callTy call_tuple_of (by rfl) B.tup (by decide +kernel) (pa_cons (pe_callB (cr_sortX rfl) (by rfl) B.srt (by decide +kernel) (pa_cons (pe_callTy (cr_setX rfl) (by rfl) B.set (by decide +kernel) (pa_cons (pe_call (GA 5) (hr.mono (by decide)) (by rfl) gA kA bA .nil pass0 (pa_cons (pv 1) pa_nil)) pa_nil)) pa_nil)) pa_nil)) pa_nil))) pa_nil)) (nomark _)) (pss_one (ps_ret pe_bl)) pss_nil)
      (pss_cons (ps_set (i := 8) scR1.nd rfl (Or.inl rfl) (pe_lst (pa_cons (pe_callFR Gp7 (hr.mono (by decide)) (by rfl) gp7 kp7 (passes_call L2.takes0 (fun _ _ _ _ h => h)) (pa_cons pe_str (pa_cons (pv 3) (pa_cons (pv 4) pa_nil)))) (pa_cons (pe_callFR Gp7 (hr.mono (by decide)) (by rfl) gp7 kp7 (passes_call L2.takes0 (fun _ _ _ _ h => h)) (pa_cons pe_str (pa_cons (pv 3) pa_nil)))
          (pa_cons (pe_callFR Gp7 (hr.mono (by decide)) (by rfl) gp7 kp7 (passes_call L2.takes0 (fun _ _ _ _ h => h)) (pa_cons pe_str pa_nil)) pa_nil)))))
      (pss_cons (ps_if (pt_cmpR (op_neD hu) (pv 8) (pe_lst (pa_cons (pe_op op_add_str (pe_op op_add_str (pe_op op_add_str (pe_op op_add_str pe_str (pv 3)) pe_str) (pv 4)) pe_str) (pa_cons (pe_op op_add_str (pe_op op_add_str pe_str (pv 3)) pe_str) (pa_cons pe_str pa_nil)))) (nomark _)) (pss_one (ps_ret pe_bl)) pss_nil)
      (pss_cons (ps_par (i := 11) (j := 12) rfl scR1.nd rfl rfl (by decide) rfl rfl (pa_cons (pe_call GO (hr.mono (by decide)) (by rfl) D.gO D.FO.kp D.bO .nil pass0 (pa_cons (pv 0) (pa_cons (pe_lst (pa_cons pe_str (pa_cons pe_str (pa_cons pe_str (pa_cons pe_str pa_nil))))) pa_nil))) (pa_cons (pe_op op_add pe_int (pe_call GR (hr.mono (by decide)) (by rfl) D.gR D.FR.kp D.bR .nil pass0 (pa_cons (pv 0) (pa_cons pe_int pa_nil)))) pa_nil)) (by rfl))
      (pss_one (ps_ret (pe_cmpR op_eq (pe_call Gp6 (hr.mono (by decide)) (by rfl) gp6 kp6 bp6 .nil (passes_call L2.takes0 (fun _ _ _ _ h => h)) (pa_cons (pv 11) (pa_cons (pv 12) pa_nil))) (pe_op op_add_str (pe_op op_add_str (pv 11) pe_str) (pe_callTy call_str_int (by rfl) B.str (by decide +kernel) (pa_cons (pv 12) pa_nil))) (nomark _))))))))))))))), ?_⟩
    have line : (100000 : Nat) ≤ sizeLine := by decide
    have nd : ∀ {G : Hp}, Dice G d → ∀ b, G b = none → b ≠ d := fun h b hb z => h.ne (by rw [← z]; exact hb)
    -- the trees
    refine ⟨_, rfl, d, rfl, hd, fun H1 v1 t1 b1 hd1 hdr1 dt1 => ?_⟩
    refine ⟨_, rfl, d, rfl, hd1, fun H2 v2 t2 b2 hd2 hdr2 dt2 => ⟨_, _, rfl, ?_⟩⟩
    have D1 : Dt (fun b => b ≠ d) H2 v1 (trD t1) := (dt1.mv (S' := fun b => b ≠ d) (fun b hb => nd hd b hb) (fun _ _ _ z => z)).but b2
    have D2 : Dt (fun b => b ≠ d) H2 v2 (trD t2) := dt2.mv (fun b hb => nd hd1 b hb) (fun _ _ _ z => z)
    have bt2 := b1.tr b2
    -- their texts
    refine ⟨_, rfl, _, v1, t1, rfl, by decide, D1, hdr1, fun H3 s3 => ⟨_, rfl, _, v2, t2, rfl, by decide, D2.same s3, hdr2, fun H4 s4 => ⟨_, _, rfl, ?_⟩⟩⟩
    have s24 := s3.trans s4
    have D1 := D1.same s24
    have hd4 := hd2.same s24
    have bt4 := bt2.tr (Same.but s24)
    have a1 := asc_tx (dr_ok hdr1)
    have a2 := asc_tx (dr_ok hdr2)
    have n1 : (tx t1).length ≤ 372 := dr_len hdr1
    have n2 : (tx t2).length ≤ 84 := dr_len hdr2
    have c1 : (tx t1).count 40 ≤ 15 := dr_cnt hdr1
    have c2 : (tx t2).count 40 ≤ 3 := dr_cnt hdr2
    clear D2 s3 s4 s24 b1 b2 bt2 hd1 hd2
    -- texts near them
    refine ⟨_, rfl, _, rfl, d, tx t1, rfl, hd4, a1, by omega, fun H5 l5 b5 hd5 a5 n5 c5 => ⟨_, rfl, _, rfl, d, tx t2, rfl, hd5, a2, by omega, fun H6 l6 b6 hd6 a6 n6 c6 => ⟨(by show 2 ≤ sizeLine; decide), fun p7 hp7 => ?_⟩⟩⟩
    have D1 := (D1.but b5).but b6
    have s7 := same_upd (o := .lst [V.str (S l5), V.str (S l6)]) hp7
    have e7 : upd H6 p7 (.lst [V.str (S l5), V.str (S l6)]) p7 = some (.lst [V.str (S l5), V.str (S l6)]) := upd_same
    have q7 := nd hd6 p7 hp7
    have D1 := D1.same s7
    have hd7 := hd6.same s7
    have bt7 := ((bt4.tr b5).tr b6).tr (Same.but s7)
    generalize upd H6 p7 (.lst [V.str (S l5), V.str (S l6)]) = H7 at s7 e7 D1 hd7 bt7 ⊢
    clear b5 b6 s7 hd5 hd6 hp7 bt4 hd4
    -- things
    refine ⟨_, rfl, _, rfl, _, rfl, (by show 1 ≤ sizeLine; decide), fun p8 hp8 => ⟨_, rfl, _, rfl, p7, _, _, _, rfl, rfl, SqL.of (same_upd hp8 _ _ e7), atI_nat (j := 0) rfl, d, l5, rfl, hd7.same (same_upd hp8), a5, by omega, fun H9 l9 b9 hd9 a9 n9 c9 => ⟨(by show 4 ≤ sizeLine; decide), fun p10 hp10 => ?_⟩⟩⟩
    have s8 := same_upd (o := .tup [V.str (S (tx t1))]) hp8
    have q8 := nd hd7 p8 hp8
    have e8 : H9 p8 = some (.tup [V.str (S (tx t1))]) := b9 _ _ q8 upd_same
    have e7 := b9 _ _ q7 (s8 _ _ e7)
    have D1 := (D1.same s8).but b9
    have bt9 := (bt7.tr (Same.but s8)).tr b9
    have s10 := same_upd (o := .lst [V.str (S (tx t1)), V.str (S (tx t2)), .ref p8, V.str (S l9)]) hp10
    have e10 : upd H9 p10 (.lst [V.str (S (tx t1)), V.str (S (tx t2)), .ref p8, V.str (S l9)]) p10 = some (.lst [V.str (S (tx t1)), V.str (S (tx t2)), .ref p8, V.str (S l9)]) := upd_same
    have e8 := s10 _ _ e8
    have e7 := s10 _ _ e7
    have D1 := D1.same s10
    have hd10 := hd9.same s10
    have bt10 := bt9.tr (Same.but s10)
    have q10 := nd hd9 p10 hp10
    generalize upd H9 p10 (.lst [V.str (S (tx t1)), V.str (S (tx t2)), .ref p8, V.str (S l9)]) = H10 at e7 e8 D1 hd10 bt10 e10 ⊢
    clear s8 s10 b9 hp8 hp10 hd9 bt9 bt7 hd7
    refine ⟨_, rfl, p10, p7, _, _, rfl, rfl, e10, e7, (by show 4 + 2 ≤ sizeLine; decide), fun p11 hp11 => ?_⟩
    have s11 := same_upd (o := .lst ([V.str (S (tx t1)), V.str (S (tx t2)), .ref p8, V.str (S l9)] ++ [V.str (S l5), V.str (S l6)])) hp11
    have e11 : upd H10 p11 (.lst ([V.str (S (tx t1)), V.str (S (tx t2)), .ref p8, V.str (S l9)] ++ [V.str (S l5), V.str (S l6)])) p11 = some (.lst [V.str (S (tx t1)), V.str (S (tx t2)), .ref p8, V.str (S l9), V.str (S l5), V.str (S l6)]) := upd_same
    have e8 := s11 _ _ e8
    have D1 := D1.same s11
    have hd11 := hd10.same s11
    have bt11 := bt10.tr (Same.but s11)
    generalize upd H10 p11 _ = H11 at e8 D1 hd11 bt11 e11 ⊢
    clear s11 hp11 hd10 bt10 e10 e7
    refine ⟨_, rfl, trivial, fun p12 vs12 H12 s12 np12 ep12 dv12 => ⟨p11, p12, _, _, rfl, rfl, s12 _ _ e11, ep12, ?_, fun p13 hp13 => ?_⟩⟩
    · have := dv12.length
      show 6 + vs12.length ≤ _
      rw [this]
      decide
    have DV : DtAll (fun b => b ≠ d) (upd H12 p13 (.lst ([V.str (S (tx t1)), V.str (S (tx t2)), .ref p8, V.str (S l9), V.str (S l5), V.str (S l6)] ++ vs12))) ([V.str (S (tx t1)), V.str (S (tx t2)), .ref p8, V.str (S l9), V.str (S l5), V.str (S l6)] ++ vs12) ([.str (S (tx t1)), .str (S (tx t2)), .tuple [.str (S (tx t1))], .str (S l9), .str (S l5), .str (S l6)] ++ ds13) :=
      DtAll.same (.cons (.at (.str _)) (.cons (.at (.str _)) (.cons (.tup q8 (s12 _ _ e8) (by show 1 ≤ 1000; decide) (.cons (.at (.str _)) .nil)) (.cons (.at (.str _)) (.cons (.at (.str _)) (.cons (.at (.str _)) (dv12.mv (fun b hb => nd hd11 b hb) (fun _ _ _ z => z)))))))) (same_upd hp13)
    have good : ∀ e ∈ ([.str (S (tx t1)), .str (S (tx t2)), .tuple [.str (S (tx t1))], .str (S l9), .str (S l5), .str (S l6)] ++ ds13 : List PyData), goodT e = true := fun e he => by
      rcases List.mem_append.mp he with he | he
      · simp only [List.mem_cons, List.not_mem_nil, or_false] at he
        rcases he with rfl | rfl | rfl | rfl | rfl | rfl
        · exact good_str a1 (by omega) (by omega)
        · exact good_str a2 (by omega) (by omega)
        · exact good_tup1 a1 (by omega) (by omega)
        · exact good_str a9 (by omega) (by omega)
        · exact good_str a5 (by omega) (by omega)
        · exact good_str a6 (by omega) (by omega)
      · exact ds13_ok e he
    have s13 := same_upd (o := .lst ([V.str (S (tx t1)), V.str (S (tx t2)), .ref p8, V.str (S l9), V.str (S l5), V.str (S l6)] ++ vs12)) hp13
    have e13 : upd H12 p13 (.lst ([V.str (S (tx t1)), V.str (S (tx t2)), .ref p8, V.str (S l9), V.str (S l5), V.str (S l6)] ++ vs12)) p13 = some (.lst ([V.str (S (tx t1)), V.str (S (tx t2)), .ref p8, V.str (S l9), V.str (S l5), V.str (S l6)] ++ vs12)) := upd_same
    have D1 := (D1.same s12).same s13
    have hd13 := (hd11.same s12).same s13
    have bt13 := (bt11.tr (Same.but s12)).tr (Same.but s13)
    generalize ([V.str (S (tx t1)), V.str (S (tx t2)), .ref p8, V.str (S l9), V.str (S l5), V.str (S l6)] ++ vs12) = xs at DV e13 D1 hd13 bt13 ⊢
    generalize ([.str (S (tx t1)), .str (S (tx t2)), .tuple [.str (S (tx t1))], .str (S l9), .str (S l5), .str (S l6)] ++ ds13 : List PyData) = ds at DV good
    generalize upd H12 p13 (.lst xs) = H13 at DV e13 D1 hd13 bt13 ⊢
    clear s12 s13 hp13 hd11 bt11 e11 e8 dv12 ep12 np12
    -- told alike
    refine ⟨_, rfl, p13, rfl, ⟨_, SqL.of e13⟩, for_list (xs := xs) (fun i σ G => Same H13 G ∧ ∃ x7 x8 : Option V, σ = [some (.ref d), some v1, some v2, some (.str (S (tx t1))), some (.str (S (tx t2))), some (.ref p7), some (.ref p13), x7, x8, none, none, none, none]) ⟨Same.refl _, _, _, rfl⟩ (fun i σ G _ p => SqL.of (p.1 _ _ e13)) (fun i x σ G hi p => ?_) (fun σ G p => ?_)⟩
    · obtain ⟨sG, x7, x8, rfl⟩ := p
      obtain ⟨e, he, hde⟩ := DV.get hi
      obtain ⟨g1, g2, g3, g4, g5⟩ := goodT.all (good e (List.mem_of_getElem? he))
      have hde := hde.same sG
      refine ⟨_, rfl, _, x, e, rfl, hde, g1, fun Ga sa => ⟨_, rfl, _, x, e, rfl, hde.same sa, g1, fun Gb sb => ⟨_, rfl, _, x, e, rfl, (hde.same sa).same sb, g1, g2, fun Gc sc => ⟨(by show 3 ≤ sizeLine; decide), fun pt hpt => ?_⟩⟩⟩⟩
      have hde := ((hde.same sa).same sb).same sc
      have sG := ((sG.trans sa).trans sb).trans sc
      have st := same_upd (o := .lst [V.bl (isNameD e), V.bl (setD e), V.bl (isValD e)]) hpt
      have et : upd Gc pt (.lst [V.bl (isNameD e), V.bl (setD e), V.bl (isValD e)]) pt = some (.lst [V.bl (isNameD e), V.bl (setD e), V.bl (isValD e)]) := upd_same
      have hde := hde.same st
      have sG := sG.trans st
      generalize upd Gc pt (.lst [V.bl (isNameD e), V.bl (setD e), V.bl (isValD e)]) = G1 at et hde sG ⊢
      obtain ⟨h1, h2, h3⟩ := bools3_ok (isNameD e) (setD e) (isValD e)
      have dtb : ∀ {G : Hp} {p : Addr} {a b c : Bool}, G p = some (.lst [V.bl a, V.bl b, V.bl c]) → Dt (fun _ => True) G (.ref p) (bools3 a b c) := fun e => .lst trivial e (by show 3 ≤ 1000; decide) (.cons (.at (.bl _)) (.cons (.at (.bl _)) (.cons (.at (.bl _)) .nil)))
      refine ⟨_, rfl, .ref pt, bools3 (isNameD e) (setD e) (isValD e), _, rfl, dtb et, h1, h2, by omega, ?_⟩
      refine ⟨_, rfl, _, x, e, rfl, hde, g1, g3, fun Gd sd => ⟨_, rfl, _, x, e, rfl, hde.same sd, g1, g4, fun Ge se => ⟨_, rfl, _, x, e, rfl, (hde.same sd).same se, g1, g3, fun Gf sf => ⟨(by show 3 ≤ sizeLine; decide), fun pl hpl => ?_⟩⟩⟩⟩
      obtain ⟨k1, k2, k3⟩ := bools3_ok (isNameD e) (setD e) (lvalD e)
      refine ⟨.ref pl, bools3 (isNameD e) (setD e) (lvalD e), _, rfl, dtb upd_same, k1, k2, by omega, rfl, _, rfl, ?_⟩
      rw [g5, decide_eq_true rfl]
      refine iteF ⟨(((sG.trans sd).trans se).trans sf).trans (same_upd hpl), _, _, rfl⟩
    obtain ⟨sG, x7, x8, rfl⟩ := p
    have D1 := D1.same sG
    have hdG := hd13.same sG
    have btG := bt13.tr (Same.but sG)
    clear DV good e13 sG bt13 hd13
    -- the parts
    have okt := dr_ok hdr1
    refine isi_te (x := v1) rfl D1.tyx ((kit_str _).trans rfl) ⟨_, rfl, ?_⟩
    apply cutVG (fun vd G' => Same G G' ∧ Dt (fun b => b ≠ d) G' vd (partsD t1))
    · intro rest
      rcases parts_form hdr1 with ⟨lw, el⟩ | ⟨m, fn, ts, em, eT, eP, hf, l2, ht⟩
      rotate_left
      · have hm : m = 3 := (Nat.succ.inj em).symm
        rw [hm] at ht
        have hs1 : isStrD (trD t1) = false := by rw [eT]; rfl
        rw [hs1]
        rw [eT] at D1
        refine iteT ?_
        obtain ⟨a, xs', ev, qa, ea, hl, hx⟩ := D1.lst_of
        cases hx with
        | @cons x0 _ xr _ h0 hx =>
          obtain rfl : x0 = .str (S fn) := dt_str1 h0
          have xl := hx.length
          rw [List.length_map] at xl
          refine ⟨_, rfl, a, _, _, _, ev, rfl, SqL.of ea, atI_nat (j := 0) rfl, _, rfl, 1, rfl, a, _, ev, SqL.of ea, fun pc hpc => ⟨pc, rfl, ⟨_, SqL.of upd_same⟩, fun Dl hDl => ?_⟩⟩
          rw [cutT] at hDl ⊢
          have sc := same_upd (o := .lst xr) hpc
          have ec : upd G pc (.lst xr) pc = some (.lst xr) := upd_same
          generalize upd G pc (.lst xr) = Hc at sc ec hDl ⊢
          refine lc_list (xs := xr) (PvV Hc Dl ((ts.map tx).map vS)) (PvV.zero hDl) (fun i G _ p => SqL.of (p.1 _ _ ec)) (fun i x G' hi p => ?_) (fun G' p => ?_)
          · obtain ⟨e, he, hde⟩ := hx.get hi
            rw [List.getElem?_map] at he
            obtain ⟨t', ht', rfl⟩ := Option.map_eq_some_iff.mp he
            refine ⟨rfl, _, rfl, _, x, t', rfl, by decide, hde.mv (fun _ z => z) (fun b o _ eb => p.1 b o (sc b o eb)), ht t' (List.mem_of_getElem? ht'), fun G2 s2 => p.step hDl s2 (by rw [List.getElem?_map, List.getElem?_map, ht']; rfl) (by simp; omega)⟩
          · obtain ⟨sD, eD⟩ := p.all (by simp; omega)
            refine ⟨Dl, _, rfl, .inl ⟨SqL.of eD, fun p2 hp2 => ⟨(by show 2 ≤ sizeLine; decide), fun p3 hp3 => ?_⟩⟩⟩
            have s3 := same_upd (o := .tup ((ts.map tx).map vS)) hp2
            have e2 : upd G' p2 (.tup ((ts.map tx).map vS)) p2 = some (.tup ((ts.map tx).map vS)) := upd_same
            have sx := (sc.trans sD).trans s3
            have q2 := nd hdG p2 ((sc.trans sD).free hp2)
            generalize upd G' p2 _ = G3 at s3 e2 sx hp3 ⊢
            have q3 := nd hdG p3 (sx.free hp3)
            have s4 := same_upd (o := .tup [V.str (S fn), .ref p2]) hp3
            have fin : Dt (fun b => b ≠ d) (upd G3 p3 (.tup [V.str (S fn), .ref p2])) (.ref p3) (partsD t1) := by
              rw [eP]
              refine .tup q3 upd_same (by show 2 ≤ 1000; decide) (.cons (.at (.str _)) (.cons (.tup q2 (s4 _ _ e2) (by simp; omega) ?_) .nil))
              have em : (ts.map tx).map vS = (ts.map fun u => S (tx u)).map V.str := by
                rw [List.map_map, List.map_map]
                rfl
              rw [em]
              exact dt_ofStrs _
            have sy := sx.trans s4
            generalize upd G3 p3 _ = G4 at fin sy ⊢
            generalize V.ref p3 = vd at fin ⊢
            exact rest vd G4 ⟨sy, fin⟩
      · have hs1 : isStrD (trD t1) = true := by rw [el]; rfl
        have hp1 : partsD t1 = .none := by rw [el]; rfl
        rw [hs1]
        exact iteF (rest .non G ⟨Same.refl G, by rw [hp1]; exact .at .non⟩)
    intro vd G1 ⟨s1, DP⟩
    have D1 := D1.same s1
    have hd1 := hdG.same s1
    have bt1 := btG.tr (Same.but s1)
    obtain ⟨sm1, sh1⟩ := asc_sml a1 (by omega)
    obtain ⟨sm2, sh2⟩ := asc_sml a2 (by omega)
    have val1 : isValD (.str (S (tx t1))) = true := by rw [asc_val a1]; exact tx_value okt
    have val2 : isValD (.str (S (tx t2))) = true := by rw [asc_val a2]; exact tx_value (dr_ok hdr2)
    have ats : atomsD (.str (S (tx t1))) = (lv t1).map S := by
      show (atomsT (tx t1)).map S = _
      rw [atoms_tx okt]
    refine ⟨_, rfl, fun _ => True, .str (S (tx t1)), .str (S (tx t1)), rfl, .at (.str _), sm1, sh1, .inr ⟨val1, t1, okt, rfl, fun Ha u sa du => ?_⟩⟩
    refine ⟨_, rfl, fun _ => True, .str (S (tx t1)), .str (S (tx t1)), rfl, .at (.str _), sm1, sh1, .inr ⟨val1, fun Hb b ys sb nb eb is => ⟨(by show 2 ≤ sizeLine; decide), fun pl hpl => ?_⟩⟩⟩
    rw [ats] at is
    obtain ⟨r1, r2, r3⟩ := rep_ok hdr1 is
    have dlist : ∀ {G : Hp} {p b : Addr} {u : V} {S0 : Addr → Prop}, G p = some (.lst [u, .ref b]) → Dt S0 G u (partsD t1) → G b = some (.tup (ys.map V.str)) → Dt (fun _ => True) G (.ref p) (.list [partsD t1, .tuple (ys.map PyData.str)]) := fun {G p b u S0} e1 e2 e3 =>
      .lst trivial e1 (by show 2 ≤ 1000; decide) (.cons (e2.mv (fun _ _ => trivial) (fun _ _ _ z => z)) (.cons (.tup trivial e3 (by
        rw [List.length_map]
        have h1 := is.2.length_eq
        have h2 := len_firsts ((lv t1).map S) []
        have h3 : (lv t1).length ≤ 16 := dr_lv hdr1
        rw [List.length_map] at h2
        simp only [List.length_nil] at h2
        have : (2 : Nat) ^ 4 = 16 := rfl
        omega) (dt_ofStrs _)) .nil))
    have spl := same_upd (o := .lst [u, .ref b]) hpl
    refine ⟨.ref pl, .list [partsD t1, .tuple (ys.map PyData.str)], _, rfl, dlist upd_same ((du.same sb).same spl) (spl _ _ eb), r1, r2, by omega, ?_⟩
    have s12 := (sa.trans sb).trans spl
    have D1 := D1.same s12
    have DP := DP.same s12
    have hd2 := hd1.same s12
    have bt2 := bt1.tr (Same.but s12)
    generalize upd Hb pl _ = G2 at D1 DP hd2 bt2 ⊢
    refine ⟨_, rfl, _, rfl, _, v1, t1, rfl, by decide, D1, hdr1, fun Hc c sc nc ec => ⟨c, (lv t1).map S, rfl, .inl (SqL.of (by rw [ec, List.map_map]; rfl)), ?_, fun p1 hp1 => ⟨p1, _, rfl, upd_same, fun ys2 p2 pm sor hp2 => ?_⟩⟩⟩
    · have h3 : (lv t1).length ≤ 16 := dr_lv hdr1
      have : (2 : Nat) ^ 4 = 16 := rfl
      have l5 : scanBound = 4096 := rfl
      rw [List.length_map]
      omega
    obtain rfl : ys2 = ys := IsSet.uniq (l := (lv t1).map S) (k := (lv t1).map S) ⟨sor, pm⟩ is fun _ => Iff.rfl
    have sy := (sc.trans (same_upd (o := SetTO w p1 (firsts [] ((lv t1).map S))) hp1)).trans (same_upd (o := .lst (ys2.map V.str)) hp2)
    refine ⟨p2, _, rfl, .inl ⟨SqL.of upd_same, fun p3 hp3 => ⟨(by show 2 ≤ sizeLine; decide), fun p4 hp4 => ?_⟩⟩⟩
    have sz := sy.trans (same_upd (o := .tup (ys2.map V.str)) hp3)
    have s4 := same_upd (o := .lst [vd, .ref p3]) hp4
    refine ⟨.ref p4, .list [partsD t1, .tuple (ys2.map PyData.str)], _, rfl, dlist upd_same ((DP.same sz).same s4) (s4 _ _ upd_same), r1, r2, by omega, rfl, _, rfl, ?_⟩
    rw [decide_eq_true rfl]
    refine iteF ?_
    have hd3 := hd2.same (sz.trans s4)
    have bt3 := bt2.tr (Same.but (sz.trans s4))
    generalize upd _ p4 _ = G3 at hd3 bt3 ⊢
    -- values of functions
    have eg : ("g" : Str) = S [103] := by decide +kernel
    have sg : smlD (.str ("g" : Str)) = true ∧ isNameD (.str ("g" : Str)) = true := by decide +kernel
    have wl : (wrL [103] [tx t1, tx t2]).length ≤ 470 := by
      show ([103] ++ (40 :: ((tx t1 ++ ([44, 32] ++ tx t2)) ++ [41]))).length ≤ 470
      simp
      omega
    refine ⟨_, rfl, _, rfl, [.str "g"], [.str (S (tx t1)), .str (S (tx t2))], rfl, rfl, (by show 2 ≤ sizeLine; decide), fun p5 hp5 => ⟨fun _ => True, fun _ => True, .str "g", p5, _, .str "g", [.str (S (tx t1)), .str (S (tx t2))], rfl, upd_same, .at (.str _), .cons (.at (.str _)) (.cons (.at (.str _)) .nil), sg.1, ?_, ?_, (by show 2 ≤ 10; decide), .inr (.inr (.inr ⟨[103], [tx t1, tx t2], by rw [eg], rfl, sg.2, Nat.le_refl 2, ?_, ?_, fun H5 s5 => ?_⟩))⟩⟩
    · unfold smlAll smlAll smlAll
      rw [sm1, sm2]
      rfl
    · show (shortD (.str (S (tx t1))) && (shortD (.str (S (tx t2))) && true)) = true
      rw [sh1, sh2]
      rfl
    · show (isValD (.str (S (tx t1))) && (isValD (.str (S (tx t2))) && true)) = true
      rw [val1, val2]
      rfl
    · show (tx t1).length + ((tx t2).length + 0) + 2 * 2 ≤ 1000
      omega
    have s5 := (same_upd (o := .tup [V.str (S (tx t1)), .str (S (tx t2))]) hp5).trans s5
    refine ⟨_, rfl, [.str "g"], [.str (S (tx t1))], rfl, rfl, (by show 1 ≤ sizeLine; decide), fun p6 hp6 => ⟨fun _ => True, fun _ => True, .str "g", p6, _, .str "g", [.str (S (tx t1))], rfl, upd_same, .at (.str _), .cons (.at (.str _)) .nil, sg.1, ?_, ?_, (by show 1 ≤ 10; decide), .inr (.inr (.inr ⟨[103], [tx t1], by rw [eg], rfl, sg.2, Nat.le_succ 1, ?_, ?_, fun H6 s6 => ?_⟩))⟩⟩
    · unfold smlAll smlAll
      rw [sm1]
      rfl
    · show (shortD (.str (S (tx t1))) && true) = true
      rw [sh1]
      rfl
    · show (isValD (.str (S (tx t1))) && true) = true
      rw [val1]
      rfl
    · show (tx t1).length + 0 + 1 * 2 ≤ 1000
      omega
    have s6 := (s5.trans (same_upd (o := .tup [V.str (S (tx t1))]) hp6)).trans s6
    refine ⟨[.str "g"], [], rfl, rfl, (by show 0 ≤ sizeLine; decide), fun p7 hp7 => ⟨fun _ => True, fun _ => True, .str "g", p7, _, .str "g", [], rfl, upd_same, .at (.str _), .nil, sg.1, rfl, rfl, (by show 0 ≤ 10; decide), .inr (.inr (.inr ⟨[103], [], by rw [eg], rfl, sg.2, Nat.zero_le _, rfl, (by show 0 + 0 * 2 ≤ 1000; decide), fun H7 s7 => ⟨(by show 3 ≤ sizeLine; decide), fun p8 hp8 => ?_⟩⟩))⟩⟩
    have s7 := (s6.trans (same_upd (o := .tup []) hp7)).trans s7
    have s8 := s7.trans (same_upd (o := .lst [V.str (S (wrL [103] [tx t1, tx t2])), .str (S (wrL [103] [tx t1])), .str (S (wrL [103] []))]) hp8)
    have e8 : upd H7 p8 (.lst [V.str (S (wrL [103] [tx t1, tx t2])), .str (S (wrL [103] [tx t1])), .str (S (wrL [103] []))]) p8 = some (.lst ([S (wrL [103] [tx t1, tx t2]), S (wrL [103] [tx t1]), S (wrL [103] [])].map V.str)) := upd_same
    generalize upd H7 p8 _ = H8 at s8 e8 ⊢
    have hd8 := hd3.same s8
    have bt8 := bt3.tr (Same.but s8)
    have k1 : ("g(" : Str).length = 2 := by decide +kernel
    have k2 : (", " : Str).length = 2 := by decide +kernel
    have k3 : (")" : Str).length = 1 := by decide +kernel
    have m1 : (S (tx t1)).length = (tx t1).length := SX.S_len _
    have m2 : (S (tx t2)).length = (tx t2).length := SX.S_len _
    have z1 : TL.tl ("g(" : Str) = [103, 40] := by decide +kernel
    have z2 : TL.tl (", " : Str) = [44, 32] := by decide +kernel
    have z3 : TL.tl (")" : Str) = [41] := by decide +kernel
    have A1 : ("g(" : Str) ++ S (tx t1) ++ ", " ++ S (tx t2) ++ ")" = S (wrL [103] [tx t1, tx t2]) := by
      apply TL.ext_tl
      rw [TL.tl_append, TL.tl_append, TL.tl_append, TL.tl_append, z1, z2, z3]
      show [103, 40] ++ tx t1 ++ [44, 32] ++ tx t2 ++ [41] = [103] ++ (40 :: ((tx t1 ++ ([44, 32] ++ tx t2)) ++ [41]))
      simp
    have A2 : ("g(" : Str) ++ S (tx t1) ++ ")" = S (wrL [103] [tx t1]) := by
      apply TL.ext_tl
      rw [TL.tl_append, TL.tl_append, z1, z3]
      show [103, 40] ++ tx t1 ++ [41] = [103] ++ (40 :: (tx t1 ++ [41]))
      simp
    have A3 : ("g()" : Str) = S (wrL [103] []) := by decide +kernel
    refine ⟨_, rfl, _, rfl, "g(", S (tx t1), rfl, rfl, by omega, _, ", ", rfl, rfl, by rw [strLen_append]; omega, _, rfl, _, S (tx t2), rfl, rfl, by rw [strLen_append, strLen_append]; omega, _, ")", rfl, rfl, by rw [strLen_append, strLen_append, strLen_append]; omega,
      _, rfl, "g(", S (tx t1), rfl, rfl, by omega, _, ")", rfl, rfl, by rw [strLen_append]; omega, (by show 3 ≤ sizeLine; decide), fun p9 hp9 => ?_⟩
    rw [A1, A2, A3] at *
    have s9 := same_upd (o := .lst ([S (wrL [103] [tx t1, tx t2]), S (wrL [103] [tx t1]), S (wrL [103] [])].map V.str)) hp9
    have e9 := s9 _ _ e8
    have okw : ∀ x ∈ [S (wrL [103] [tx t1, tx t2]), S (wrL [103] [tx t1]), S (wrL [103] [])], PyData.strOk x = true := fun x hx => by
      have aw : ∀ ls : List (List Nat), asc (TL.joinL [44, 32] ls) = true → asc (wrL [103] ls) = true := fun ls h => by
        show asc ([103] ++ ([40] ++ (TL.joinL [44, 32] ls ++ [41]))) = true
        rw [asc_app, asc_app, asc_app, h]
        rfl
      simp only [List.mem_cons, List.not_mem_nil, or_false] at hx
      rcases hx with rfl | rfl | rfl
      · refine (asc_ok (aw _ ?_) (by omega)).2
        show asc (tx t1 ++ ([44, 32] ++ tx t2)) = true
        rw [asc_app, asc_app, a1, a2]
        rfl
      · refine (asc_ok (aw [tx t1] a1) ?_).2
        show ([103] ++ (40 :: (tx t1 ++ [41]))).length ≤ 1000
        simp
        omega
      · exact (asc_ok (aw [] rfl) (by decide)).2
    have sqn : SqL K (upd H8 p9 (.lst ([S (wrL [103] [tx t1, tx t2]), S (wrL [103] [tx t1]), S (wrL [103] [])].map V.str))) p9 ([S (wrL [103] [tx t1, tx t2]), S (wrL [103] [tx t1]), S (wrL [103] [])].map V.str) := SqL.of upd_same
    refine ⟨.list ([S (wrL [103] [tx t1, tx t2]), S (wrL [103] [tx t1]), S (wrL [103] [])].map PyData.str), .list ([S (wrL [103] [tx t1, tx t2]), S (wrL [103] [tx t1]), S (wrL [103] [])].map PyData.str), .lst (SqL.of e9) (dp_strs _), .lst sqn (dp_strs _), sh_strs _ okw, sh_strs _ okw, _, rfl, ?_⟩
    rw [eqv_listS, decide_eq_true rfl]
    refine iteF ?_
    have hd9 : Dice (upd H8 p9 (.lst [V.str (S (wrL [103] [tx t1, tx t2])), V.str (S (wrL [103] [tx t1])), V.str (S (wrL [103] []))])) d := hd8.same s9
    have bt9 : But d H (upd H8 p9 (.lst [V.str (S (wrL [103] [tx t1, tx t2])), V.str (S (wrL [103] [tx t1])), V.str (S (wrL [103] []))])) := bt8.tr (Same.but s9)
    generalize upd H8 p9 (.lst [V.str (S (wrL [103] [tx t1, tx t2])), V.str (S (wrL [103] [tx t1])), V.str (S (wrL [103] []))]) = H9 at hd9 bt9 ⊢
    -- an unknown
    refine ⟨_, rfl, (by show 4 ≤ sizeLine; decide), fun pa hpa => ?_⟩
    have sa := same_upd (o := .lst (names4.map V.str)) hpa
    refine ⟨d, pa, names4.map V.str, rfl, hd9.same sa, SqL.of upd_same, fun _ => nd hd9 pa hpa, by decide, by decide, fun Hx i v hv bx hdx => ?_⟩
    rw [List.getElem?_map] at hv
    obtain ⟨x, hx, rfl⟩ := Option.map_eq_some_iff.mp hv
    obtain ⟨nx, smx, lx⟩ := names4_ok x (List.mem_of_getElem? hx)
    refine ⟨_, rfl, d, 999, rfl, hdx, by decide, by decide, fun Hy r r0 r1 by_ hdy => ⟨_, _, rfl, rfl, _, _, rfl, ?_⟩⟩
    have btY := ((bt9.tr (Same.but sa)).tr bx).tr by_
    have nb : numB 1 999 (.int (1 + r)) = true := by
      show (decide (1 ≤ 1 + r) && decide (1 + r ≤ 999)) = true
      rw [decide_eq_true (by omega), decide_eq_true (by omega)]
      rfl
    obtain ⟨n, rfl⟩ : ∃ n : Nat, r = (n : Int) := ⟨r.toNat, by omega⟩
    have nl : (numS (1 + (n : Int))).length ≤ 3 := num_small (1 + n) (by omega)
    have nlog : (1 + (n : Int)).natAbs.log2 < 1920 := log_small (n := 1 + n) (by omega)
    have kd : ("." : Str).length = 1 := by decide +kernel
    refine ⟨_, rfl, _, rfl, fun _ => True, fun _ => True, .str x, .int (1 + (n : Int)), .str x, .int (1 + (n : Int)), rfl, .at (.str _), .at (.int _), smx, Nat.zero_le _, .inr (.inr ⟨x, 1 + (n : Int), rfl, rfl, nx, nb, fun Hz sz => ?_⟩)⟩
    refine ⟨_, rfl, x, ".", rfl, rfl, by omega, _, rfl, 1 + (n : Int), rfl, nlog, x ++ ".", numS (1 + (n : Int)), rfl, rfl, by rw [strLen_append]; omega, rfl, ?_⟩
    have e : decide (V.str (unkT x (1 + (n : Int))) = V.str (x ++ "." ++ numS (1 + (n : Int)))) = true := decide_eq_true rfl
    rw [e]
    exact q Hz (btY.tr (Same.but sz)) (hdy.same sz)
end
end OM

namespace OM
open PySem PySem.Spec PyProof.Rows L2 LamX
theorem Dice.mv {d : Addr} {H H' : Hp} (h : Dice H d) (x : Same H H') : Dice H' d := by
  obtain ⟨a1, a2, a3, e⟩ := h
  exact ⟨a1, a2, a3, x _ _ e⟩
def Kp (S : Addr → Prop) (G G' : Hp) : Prop := ∀ b o, S b → G b = some o → (∀ ps, o ≠ .tbl ps) → G' b = some o
theorem Kp.tr {S : Addr → Prop} {G G1 G2 : Hp} (a : Kp S G G1) (b : Kp S G1 G2) : Kp S G G2 := fun c o s e n => b c o s (a c o s e n) n
theorem Kp.same {S : Addr → Prop} {G G' : Hp} (s : Same G G') : Kp S G G' := fun c o _ e _ => s c o e
theorem Kp.ext {S : Addr → Prop} {G G' : Hp} (s : ExtN G G') : Kp S G G' := fun c o _ e n => s c o e n
theorem Kp.but {S : Addr → Prop} {d : Addr} {G G' : Hp} (h : ∀ b, S b → b ≠ d) (s : But d G G') : Kp S G G' := fun c o k e _ => s c o (h c k) e
theorem Kp.sub {S S' : Addr → Prop} {G G' : Hp} (h : ∀ b, S' b → S b) (k : Kp S G G') : Kp S' G G' := fun c o s e n => k c o (h c s) e n
mutual
theorem Dt.kp {S : Addr → Prop} {H H' : Hp} (k : Kp S H H') : ∀ {v : V} {x : PyData}, Dt S H v x → Dt S H' v x
  | _, _, .at h => .at h
  | _, _, .lst s y hl h => .lst s (k _ _ s y (fun _ z => nomatch z)) hl (DtAll.kp k h)
  | _, _, .tup s y hl h => .tup s (k _ _ s y (fun _ z => nomatch z)) hl (DtAll.kp k h)
  | _, _, .dic0 s y => .dic0 s (k _ _ s y (fun _ z => nomatch z))
  | _, _, .dic1 s y h => .dic1 s (k _ _ s y (fun _ z => nomatch z)) h
theorem DtAll.kp {S : Addr → Prop} {H H' : Hp} (k : Kp S H H') : ∀ {vs : List V} {xs : List PyData}, DtAll S H vs xs → DtAll S H' vs xs
  | _, _, .nil => .nil
  | _, _, .cons h r => .cons (Dt.kp k h) (DtAll.kp k r)
end
def ExtB (d : Addr) (H H' : Hp) : Prop := ∀ b o, b ≠ d → H b = some o → (∀ ps, o ≠ .tbl ps) → H' b = some o
theorem ExtB.tr {d : Addr} {H H1 H2 : Hp} (a : ExtB d H H1) (b : ExtB d H1 H2) : ExtB d H H2 := fun c o n h z => b c o n (a c o n h z) z
theorem ExtB.but {d : Addr} {H H1 : Hp} (a : But d H H1) : ExtB d H H1 := fun c o n h _ => a c o n h
theorem ExtB.ext {d : Addr} {H H1 : Hp} (a : ExtN H H1) : ExtB d H H1 := fun c o _ h z => a c o h z
structure Run (T : List (Addr × Str)) (H0 : Hp) (d pt : Addr) (ws : List Str) (G : Hp) : Prop where
  ext : ExtB d H0 G
  dice : Dice G d
  tabs : Tabs T G
  told : G pt = some (.lst (ws.map V.str))
theorem tabs_upl2 {T : List (Addr × Str)} {H : Hp} {pt : Addr} {acc : List V} {o : HO} (t : Tabs T H) (e : H pt = some (.lst acc)) : Tabs T (upd H pt o) := fun p hp => by
  obtain ⟨ps, h1, h2, h3⟩ := t p hp
  refine ⟨ps, by
    rw [upd_ne (fun z => by
      rw [z, e] at h1
      cases h1)]
    exact h1, h2, fun pos cv hc => ?_⟩
  obtain ⟨c', e1, e2⟩ := h3 pos cv hc
  refine ⟨c', e1, ?_⟩
  rw [upd_ne (fun z => by
    rw [z, e] at e2
    have e3 := Option.some.inj e2
    unfold CodeO at e3
    cases e3)]
  exact e2
theorem Run.step {T : List (Addr × Str)} {H0 G G2 : Hp} {d pt : Addr} {ws : List Str} (R : Run T H0 d pt ws G) (np : ∀ o, H0 pt = some o → (∀ ps, o ≠ .tbl ps) → False) (x : ExtN G G2) (t : Tabs T G2) (w : Str) :
    G2 pt = some (.lst (ws.map V.str)) ∧ Run T H0 d pt (ws ++ [w]) (upd G2 pt (.lst (ws.map V.str ++ [.str w]))) ∧ Kp (fun b => b ≠ d ∧ b ≠ pt) G (upd G2 pt (.lst (ws.map V.str ++ [.str w]))) := by
  have e := x _ _ R.told (fun _ z => nomatch z)
  have dp : d ≠ pt := fun z => by
    obtain ⟨_, _, _, ed⟩ := R.dice
    rw [z, R.told] at ed
    have e1 := Option.some.inj ed
    injection e1 with e1
    match ws, e1 with
    | [], e1 => cases e1
    | w :: r, e1 =>
      injection e1 with e1 _
      cases e1
  refine ⟨e, ⟨fun b o hb eb n => ?_, ?_, tabs_upl2 t e, ?_⟩, fun b o sb eb n => ?_⟩
  · rw [upd_ne (fun z => np o (by rw [← z]; exact eb) n)]
    exact x _ _ (R.ext b o hb eb n) n
  · obtain ⟨l, m, z, ed⟩ := R.dice
    exact ⟨l, m, z, by rw [upd_ne dp]; exact x _ _ ed (fun _ z => nomatch z)⟩
  · rw [upd_same, List.map_append]
    rfl
  · rw [upd_ne sb.2]
    exact x _ _ eb n
theorem Run.dice' {T : List (Addr × Str)} {H0 G G2 : Hp} {d pt : Addr} {ws : List Str} (R : Run T H0 d pt ws G) (dp : pt ≠ d) (b : But d G G2) (hd : Dice G2 d) (t : Tabs T G2) : Run T H0 d pt ws G2 := ⟨fun c o hc e n => b _ _ hc (R.ext c o hc e n), hd, t, b _ _ dp R.told⟩
theorem tabs_but2 {T : List (Addr × Str)} {d : Addr} {H H1 : Hp} (t : Tabs T H) (hd : Dice H d) (b : But d H H1) : Tabs T H1 := fun p hp => by
  obtain ⟨l, m, c, ed⟩ := hd
  obtain ⟨ps, h1, h2, h3⟩ := t p hp
  have nd : p.1 ≠ d := fun z => by
    rw [z, ed] at h1
    cases h1
  refine ⟨ps, b _ _ nd h1, h2, fun pos cv hc => ?_⟩
  obtain ⟨c', e1, e2⟩ := h3 pos cv hc
  refine ⟨c', e1, b _ _ (fun z => ?_) e2⟩
  rw [z, ed] at e2
  have e3 := Option.some.inj e2
  unfold CodeO at e3
  cases e3
theorem Run.same {T : List (Addr × Str)} {H0 G G2 : Hp} {d pt : Addr} {ws : List Str} (R : Run T H0 d pt ws G) (s : Same G G2) : Run T H0 d pt ws G2 := ⟨fun c o hc e n => s _ _ (R.ext c o hc e n), R.dice.mv s, R.tabs.ext s, s _ _ R.told⟩
/-! Stretch(..), as the lambdas make it -/
theorem Run.off {T : List (Addr × Str)} {H0 G : Hp} {d pt : Addr} {ws : List Str} (R : Run T H0 d pt ws G) {b : Addr} (h : ∀ l, G b ≠ some (.lst l)) : b ≠ d ∧ b ≠ pt := ⟨fun z => by
  obtain ⟨l, m, _, ed⟩ := R.dice
  rw [z] at h
  exact h _ ed, fun z => by
  rw [z] at h
  exact h _ R.told⟩
theorem Run.free {T : List (Addr × Str)} {H0 G : Hp} {d pt : Addr} {ws : List Str} (R : Run T H0 d pt ws G) {b : Addr} (h : G b = none) : b ≠ d ∧ b ≠ pt := R.off fun l z => by
  rw [h] at z
  cases z
theorem Run.tup {T : List (Addr × Str)} {H0 G : Hp} {d pt : Addr} {ws : List Str} (R : Run T H0 d pt ws G) {b : Addr} {xs : List V} (h : G b = some (.tup xs)) : b ≠ d ∧ b ≠ pt := R.off fun l z => by
  rw [h] at z
  cases z
section
variable {Wout : WX} {D : Ends} {ok : Value → Bool → Prop} {sl : Option Nat} {ts : Addr → Value → Option Addr → TS} {r : List Cl} {cls : Value} {d : Option Addr} {σ : L2.St} {H : Hp}
theorem wt_no (h : ok cls false) (q : wTry Wout D r cls d σ H) : wTry Wout D ((ok, sl, ts) :: r) cls d σ H := by
  cases sl with
  | none => exact ⟨false, h, fun z => (nomatch z), fun _ => q⟩
  | some i => exact ⟨false, h, fun z => (nomatch z), fun _ => q⟩
theorem wt_yes (h : ok cls true) (q : ∀ a, H a = none → ts a cls d D σ H) : wTry Wout D ((ok, none, ts) :: r) cls d σ H := ⟨true, h, fun _ => q, fun z => (nomatch z)⟩
theorem wt_as {i : Nat} (h : ok cls true) (q : ∀ a, H a = none → ts a cls d (offD D i) (σ.set i (some (.ref a))) H) : wTry Wout D ((ok, some i, ts) :: r) cls d σ H := ⟨true, h, fun _ => q, fun z => (nomatch z)⟩
end
/-- a name that was just set: whatever the other slots hold -/
theorem pe_late {X : Cx} {x : Str} {pos : Pos} (i : Nat) (hN : X.N[i]? = some x := by rfl) (hv : Vis X.env.scope x := by first | exact Or.inl rfl | exact Or.inr (Or.inl rfl) | exact Or.inr (Or.inr rfl)) (hd : (x == ("__debug__" : Str)) = false := by decide) (hcd : (x == ("__classdict__" : Str)) = false := by decide) :
    PE X (.Name x pos) (fun σ H Q => ∃ (v : V) (σ0 : L2.St), σ = σ0.set i (some v) ∧ Q v H) := ⟨fun pins s σ H Q I ⟨v, σ0, e, q⟩ => by
  have l := I.len
  have li : i < X.N.length := (List.getElem?_eq_some_iff.mp hN).1
  rw [e, List.length_set] at l
  exact (pe_var hN hv hd hcd).run pins s σ H Q I ⟨v, by rw [e, List.getElem?_set_self (by omega)], q⟩⟩
end OM

namespace OM
open PySem PySem.Spec PyProof.Rows L2 LamX
/-- the classes' kinship, as far as `_law_met` asks for it -/
structure MetY (K : PySem.W.Frag) (c : Nat → Addr) : Prop where
  e00 : PySem.W.exmOne K (.ref (c 0)) (.ref (c 0)) = some true
  e30 : PySem.W.exmOne K (.ref (c 3)) (.ref (c 0)) = some false
  e31 : PySem.W.exmOne K (.ref (c 3)) (.ref (c 1)) = some false
  e32 : PySem.W.exmOne K (.ref (c 3)) (.ref (c 2)) = some false
  e33 : PySem.W.exmOne K (.ref (c 3)) (.ref (c 3)) = some true
  e70 : PySem.W.exmOne K (.ref (c 7)) (.ref (c 0)) = some false
  e71 : PySem.W.exmOne K (.ref (c 7)) (.ref (c 1)) = some false
  e72 : PySem.W.exmOne K (.ref (c 7)) (.ref (c 2)) = some false
  e73 : PySem.W.exmOne K (.ref (c 7)) (.ref (c 3)) = some false
  e74 : PySem.W.exmOne K (.ref (c 7)) (.ref (c 4)) = some false
  e75 : PySem.W.exmOne K (.ref (c 7)) (.ref (c 5)) = some false
  e76 : PySem.W.exmOne K (.ref (c 7)) (.ref (c 6)) = some false
  e77 : PySem.W.exmOne K (.ref (c 7)) (.ref (c 7)) = some true
  xf : XfC K (c 7)
  no : PySem.W.findIn K (.ref (c 7)) "value" = some none
/-- what comes out of a call that `_law_met` catches: the word for it -/
def MetW (c : Nat → Addr) (Q : VK) : XK := fun cls d H' =>
  (cls = .ref (c 0) ∧ Q (.str "value") H') ∨ (cls = .ref (c 3) ∧ Q (.str "operation") H') ∨
  (cls = .ref (c 7) ∧ ∃ (dd : Addr) (fs : List (Str × V)) (v : V) (e : PyData) (S : Addr → Prop), d = some dd ∧ H' dd = some (.xd fs) ∧ fs.lookup ("value" : Str) = some v ∧ Dt S H' v e ∧ e.showable = true ∧ e.depth ≤ 20 ∧ e.shown.length ≤ 1000 ∧ Q (.str (("number " : Str) ++ e.shown)) H')
/-- what `_law_met` makes of a call -/
def TTm (c : Nat → Addr) : (XK → Hp → VK → Prop) → Hp → VK → Prop := fun tl H Q => tl (MetW c Q) H (fun _ H' => Q (.str "fine") H')
section
variable {X : Cx} {g : Addr} {cdg : Value} {q : Str} {c : Nat → Addr}
theorem metY_gives (hga : X.A.guards = some []) (hua : X.A.units + 28 < cLine) (hsm : ∃ o, X.base.get? sysModules = some o) (hrep : X.mg "repr" = none) (M : MetK X.mg c) (N : MetY X.K c) :
    GivesTo X ["_law_call", "e"] "_law_met" (defScope sMet) g cdg (defBody sMet) "_law_call" q (TTm c) := by
  intro f c' s H Q tl act hc h
  have hua' : ∀ (e : Env) (o : Option Value), ((X.A.deeper e).mark o).units + 25 < cLine := fun e o => by
    show X.A.units + 3 + 25 < cLine
    omega
  have hgd : ∀ (a : Addr) (oe : Obj) (pn : List (Addr × Obj)), (Cx.suite ((cxOf CX0 X.prog X.w X.K X.mg X.base ["_law_call", "e"] "_law_met" (defScope sMet) g cdg X.A X.stack s H E0).nox) a ((a, oe) :: pn)).A.guards = some [] := fun a oe pn => hga
  have hu : ∀ (a : Addr) (oe : Obj) (pn : List (Addr × Obj)), (Cx.suite ((cxOf CX0 X.prog X.w X.K X.mg X.base ["_law_call", "e"] "_law_met" (defScope sMet) g cdg X.A X.stack s H E0).nox) a ((a, oe) :: pn)).A.units + 25 < cLine := fun a oe pn => hua' _ _
  refine ⟨_, pss_cons (ps_try_gen (X := (cxOf CX0 X.prog X.w X.K X.mg X.base ["_law_call", "e"] "_law_met" (defScope sMet) g cdg X.A X.stack s H E0).nox) (Wout := fun _ _ _ _ => False)
      (tb := fun W D σ H => ∃ Ech : XK, (∀ cls d σ' H', Ech cls d H' → W cls d σ' H') ∧ σ[0]? = some (some (.ref f)) ∧ H c' = some (CodeO c' q) ∧ tl Ech H (fun _ H' => D.nx σ H'))
      rfl rfl L2.takes0 (fun W pn xe tk _ => ?_)
      (.cons (tst_one ⟨by rfl, by decide, Or.inl M.g0⟩) (fun _ _ _ _ _ _ _ => pss_one (ps_ret pe_str))
      (.cons (tst_one ⟨by rfl, by decide, Or.inl M.g1⟩) (ts := fun _ _ _ => fun _ _ _ => False) (fun _ _ _ _ _ _ _ => pss_never)
      (.cons (tst_one ⟨by rfl, by decide, Or.inl M.g2⟩) (ts := fun _ _ _ => fun _ _ _ => False) (fun _ _ _ _ _ _ _ => pss_never)
      (.cons (tst_one ⟨by rfl, by decide, Or.inl M.g3⟩) (fun _ _ _ _ _ _ _ => pss_one (ps_ret pe_str))
      (.as scMe.nd (i := 1) rfl rfl (tst_one ⟨by rfl, by decide, Or.inl M.g4⟩) (ts := fun _ _ _ => fun _ _ _ => False) (fun _ _ _ _ _ _ _ => pss_never)
      (.as scMe.nd (i := 1) rfl rfl (tst_one ⟨by rfl, by decide, Or.inl M.g5⟩) (ts := fun _ _ _ => fun _ _ _ => False) (fun _ _ _ _ _ _ _ => pss_never)
      (.as scMe.nd (i := 1) rfl rfl (tst_one ⟨by rfl, by decide, Or.inl M.g6⟩) (ts := fun _ _ _ => fun _ _ _ => False) (fun _ _ _ _ _ _ _ => pss_never)
      (.as scMe.nd (i := 1) rfl rfl (tst_one ⟨by rfl, by decide, Or.inl M.g7⟩) (fun a oe cls d pn hz hf => pss_one (ps_ret (pe_op op_add_str pe_str (pe_callB (call_rep (hgd _ _ _) (hu _ _ _) hsm) (by rfl) hrep (by decide +kernel) (pa_cons (pe_xf N.xf N.no hz hf (pe_late 1)) pa_nil)))))
      (.as scMe.nd (i := 1) rfl rfl (tst_one ⟨by rfl, by decide, Or.inl M.g8⟩) (ts := fun _ _ _ => fun _ _ _ => False) (fun _ _ _ _ _ _ _ => pss_never)
      (.as scMe.nd (i := 1) rfl rfl (tst_one ⟨by rfl, by decide, Or.inl M.g9⟩) (ts := fun _ _ _ => fun _ _ _ => False) (fun _ _ _ _ _ _ _ => pss_never)
      (.as scMe.nd (i := 1) rfl rfl (tst_one ⟨by rfl, by decide, Or.inl M.g10⟩) (ts := fun _ _ _ => fun _ _ _ => False) (fun _ _ _ _ _ _ _ => pss_never) .nil))))))))))))
    (pss_one (ps_ret pe_str)), ?_⟩
  · refine ⟨fun pins s' σ H' D I h' => ?_⟩
    obtain ⟨Ech, hW, h1, h2, h3⟩ := h'
    exact (pss_one (ps_expr (act W pn xe Ech _ _ tk hW))).run pins s' σ H' D I ⟨h1, h2, h3⟩
  · refine ⟨MetW c Q, fun cls d σ' H' z => ?_, rfl, hc, h⟩
    rcases z with ⟨rfl, q⟩ | ⟨rfl, q⟩ | ⟨rfl, dd, fs, v, e, S, rfl, ed, lk, dt, sh, dep, len, q⟩
    · exact wt_yes N.e00 fun a na => q
    · exact wt_no N.e30 (wt_no N.e31 (wt_no N.e32 (wt_yes N.e33 fun a na => q)))
    · refine wt_no N.e70 (wt_no N.e71 (wt_no N.e72 (wt_no N.e73 (wt_no N.e74 (wt_no N.e75 (wt_no N.e76 (wt_as N.e77 fun a na => ?_)))))))
      have line : (1100 : Nat) < sizeLine := by decide
      have k7 : ("number " : Str).length = 7 := by decide +kernel
      refine ⟨.ref a, σ', rfl, rfl, rfl, dd, fs, v, rfl, ed, lk, ?_⟩
      refine ⟨v, e, S, rfl, dt, sh, dep, by omega, _, _, rfl, rfl, by omega, q⟩
end
end OM

namespace OM
open PySem PySem.Spec PyProof.Rows L2 LamX VL
abbrev wO : Str := "operation"
abbrev wV : Str := "value"
abbrev sRef : Stmt := top 55
def lamRf : Str := "_law_refused" ++ ".<locals>." ++ "<lambda>"
abbrev nRf : List Str := ["_law_dice_here", "_law_odd", "_law_number", "_law_wrong", "_law_told", "_law_due"]
def odds13 : List PyData := [.none, .int 0, .str "", .str "A", .str "if", .str "put", .str "a.1", .str "f()", .tuple [.str "a"], .list [], .dict [], .str "abcdefghi", .str "a b"]
def nums9 : List PyData := [.none, .int 0, .int (-1), .int 1000, .bool true, .str "1", .tuple [], .int (10 ^ 39), .list [.int 1]]
def wrongs13 : List PyData := [.none, .int 0, .str "", .str "A", .str "put", .str "a.0", .str "f(a,b)", .str "f(", .str "f)", .str "f(a, b, c)", .str "f(get)", .list [], .tuple [.str "a"]]
theorem odds_ok : ∀ d ∈ odds13, nogD d = false ∧ isNameD d = false ∧ smlD d = true := by decide +kernel
theorem nums9_ok : ∀ d ∈ nums9, numB 1 999 d = false ∧ d.depth ≤ 4 ∧ d.showable = true ∧ d.shown.length ≤ 200 ∧ PyData.strOk (("number " : Str) ++ d.shown) = true := by decide +kernel
theorem wrongs_ok : ∀ d ∈ wrongs13, isValD d = false ∧ smlD d = true ∧ shortD d = true := by decide +kernel
def spRefused (T : List (Addr × Str)) : Sp := fun vs H Q _ => ∃ d : Addr, vs = [.ref d] ∧ Dice H d ∧ Tabs T H ∧ ∀ H', ExtB d H H' → Dice H' d → Tabs T H' → Q (.bl true) H'
/-- `_law_met`, with the table of the lambdas' code -/
structure MetF (P : Program) (w : World) (K : PySem.W.Frag) (mg : Str → Option Value) (base : Heap) (c : Nat → Addr) : Prop where
  met : ∃ (fM : Addr) (dM : FuncData), mg "_law_met" = some (.ref fM) ∧ Fun K "_law_met" "_law_met" sMet fM dM ∧ Binds K dM ["_law_call"] []
  M : MetK mg c
  N : MetY K c
theorem dt_pow {S0 : Addr → Prop} {H : Hp} : Dt S0 H (V.int ((10 : Int) ^ (39 : Int).toNat)) (.int (10 ^ 39)) := by
  have e : (39 : Int).toNat = 39 := rfl
  rw [e]
  exact .at (.int _)
theorem pe_pow {X : Cx} {R : L2.St → Hp → Prop} {j1 j2 : Nat} {p1 p2 pos : Pos} : PE X (.BinOp (.Constant (.int 10) j1 p1) .Pow (.Constant (.int 39) j2 p2) pos) (fLit R (.int (10 ^ 39))) :=
  PE.imp (pe_op op_pow pe_int pe_int) fun σ H Q q => ⟨10, 39, rfl, rfl, ⟨by decide, by decide, by decide⟩, q.2 _ H (Same.refl H) dt_pow⟩
section
variable {P : Program} {w : World} {K : PySem.W.Frag} {mg : Str → Option Value} {base : Heap} {f PT cc : Addr} {c : Nat → Addr} {fd : FuncData}
theorem scRf : FnScope nRf ["_law_dice_here"] (defScope sRef) := ⟨rfl, rfl, rfl, by decide +kernel, rfl, by decide +kernel, by decide +kernel⟩
theorem ok_refused {T : List (Addr × Str)} (hmT : (PT, lamRf) ∈ T) (huT : ∀ p ∈ T, p.1 = PT → p.2 = lamRf) (F : FunC K "_law_refused" "_law_refused" sRef f fd cc) (R : ProgF P w K mg base (c 3) (c 7) (c 0)) (L : LawF1 P w K mg base) (rep : mg "repr" = none) (M : MetF P w K mg base c) (TB : TabB base mg cc PT) (hs : ∃ o, base.get? sysModules = some o) :
    GFn P w K mg base 24 f fd ["_law_dice_here"] (spRefused T) := by
  obtain ⟨fM, dM, gM, FM, bM⟩ := M.met
  obtain ⟨oM, odM, kvM, docM, pmM, anM, cdM, ctM, oslM, rfl, lkM, hcM⟩ := FM.ex
  obtain ⟨fR, fO, fdR, fdO, D⟩ := L.dice
  have GO : FnOk P w K mg base CX0 2 fO fdO ["_law_dice_here", "_law_items"] (spOneOf K) := ok_oneof D.FO D.T D.FR D.gR D.bR
  obtain ⟨p4, d4, gp4, kp4, bp4, Gp4⟩ := R.parts
  obtain ⟨p5, d5, gp5, kp5, bp5, Gp5⟩ := R.atoms
  obtain ⟨p6, d6, gp6, kp6, bp6, Gp6⟩ := R.unk
  obtain ⟨p7, gp7, kp7, Gp7⟩ := R.app
  refine gfn_ofC F scRf (fun vs H Q E h => ?_) (fun A outer s H vs Q E hga hr h => ?_)
  · obtain ⟨d, rfl, _⟩ := h
    rfl
  · obtain ⟨d, rfl, hd, hT, q⟩ := h
    have hgd : (A.deeper (envOfC "_law_refused" (defScope sRef) s.heap.objs.size f (.ref cc))).guards = some [] := hga
    have un := hr.un
    have hu : (A.deeper (envOfC "_law_refused" (defScope sRef) s.heap.objs.size f (.ref cc))).units + 64 < cLine := by omega
    have hu2 : (A.deeper (envOfC "_law_refused" (defScope sRef) s.heap.objs.size f (.ref cc))).units + 25 < cLine := by omega
    have hu3 : (A.deeper (envOfC "_law_refused" (defScope sRef) s.heap.objs.size f (.ref cc))).units + 28 < cLine := by omega
    have line : (100000 : Nat) ≤ sizeLine := by decide
    refine ⟨_, pss_cons (ps_set (i := 1) scRf.nd rfl (Or.inr rfl) (pe_one5 (R := fun _ _ => True) (ds := odds13) GO (hr.mono (by decide)) (by rfl) D.gO D.FO.kp D.bO (pv 0) (pe_fl (pa_fc true_st pe_fn0 (pa_fc true_st pe_fi0 (pa_fc true_st pe_fs (pa_fc true_st pe_fs (pa_fc true_st pe_fs (pa_fc true_st pe_fs (pa_fc true_st pe_fs (pa_fc true_st pe_fs
          (pa_fc true_st (pe_ft (pa_fc true_st pe_fs pa_fn)) (pa_fc true_st (pe_fL pa_fn) (pa_fc true_st pe_fd0 (pa_fc true_st pe_fs (pa_fc true_st pe_fs pa_fn)))))))))))))) (by decide)))
      (pss_cons (ps_set (i := 2) scRf.nd rfl (Or.inr rfl) (pe_one5 (R := fun _ _ => True) (ds := nums9) GO (hr.mono (by decide)) (by rfl) D.gO D.FO.kp D.bO (pv 0) (pe_fl (pa_fc true_st pe_fn0 (pa_fc true_st pe_fi0 (pa_fc true_st (PE.imp (pe_un un_neg pe_int) fun σ H Q q => ⟨1, rfl, q.2 _ H (Same.refl H) (.at (.int (-1)))⟩)
          (pa_fc true_st pe_fi0 (pa_fc true_st pe_fb0 (pa_fc true_st pe_fs (pa_fc true_st (pe_ft pa_fn) (pa_fc true_st pe_pow (pa_fc true_st (pe_fL (pa_fc true_st pe_fi0 pa_fn)) pa_fn)))))))))) (by decide)))
      (pss_cons (ps_set (i := 3) scRf.nd rfl (Or.inr rfl) (pe_fl (R := fun _ _ => True) (ds := wrongs13) (pa_fc true_st pe_fn0 (pa_fc true_st pe_fi0 (pa_fc true_st pe_fs (pa_fc true_st pe_fs (pa_fc true_st pe_fs (pa_fc true_st pe_fs (pa_fc true_st pe_fs (pa_fc true_st pe_fs (pa_fc true_st pe_fs (pa_fc true_st pe_fs (pa_fc true_st pe_fs
          (pa_fc true_st (pe_fL pa_fn) (pa_fc true_st (pe_ft (pa_fc true_st pe_fs pa_fn)) pa_fn)))))))))))))))
      (pss_cons (ps_set (i := 3) scRf.nd rfl (Or.inr rfl) (pe_call GO (hr.mono (by decide)) (by rfl) D.gO D.FO.kp D.bO .nil pass0 (pa_cons (pv 0) (pa_cons (pv 3) pa_nil))))
      (pss_cons (ps_set (i := 4) scRf.nd rfl (Or.inl rfl) (pe_lst (pa_cons (pe_lamcall (T := T) (k := 20) (by rfl) gM FM.kp lkM hcM bM scMe rfl (Or.inl rfl) (metY_gives hgd hu3 hs rep M.M M.N) TB rfl hmT huT (hr.mono (by decide)) (lamS_by (by show lamSB (defScope sRef) _ = true; decide +kernel)) rfl (fun _ _ _ _ _ => rfl)
          (fun A outer s H E f c' hr2 => pe_call Gp6 (hr2.mono (by decide)) (by rfl) gp6 kp6 bp6 .nil (passes_call (takes_of rfl rfl rfl rfl) (fun _ _ _ _ h => h)) (pa_cons (pv 1) (pa_cons (pv 2) pa_nil)))) pa_nil)))
      (pss_cons (ps_expr (pe_bm PySem.F.plainAttrs_list PySem.F.slot_list_append PySem.F.type_list_append mt_append (pv 4) (pa_cons (pe_lamcall (T := T) (k := 20) (by rfl) gM FM.kp lkM hcM bM scMe rfl (Or.inl rfl) (metY_gives hgd hu3 hs rep M.M M.N) TB rfl hmT huT (hr.mono (by decide)) (lamS_by (by show lamSB (defScope sRef) _ = true; decide +kernel)) rfl (fun _ _ _ _ _ => rfl)
          (fun A outer s H E f c' hr2 => pe_call Gp6 (hr2.mono (by decide)) (by rfl) gp6 kp6 bp6 .nil (passes_call (takes_of rfl rfl rfl rfl) (fun _ _ _ _ h => h)) (pa_cons pe_str (pa_cons (pv 2) pa_nil)))) pa_nil)))
      (pss_cons (ps_expr (pe_bm PySem.F.plainAttrs_list PySem.F.slot_list_append PySem.F.type_list_append mt_append (pv 4) (pa_cons (pe_lamcall (T := T) (k := 20) (by rfl) gM FM.kp lkM hcM bM scMe rfl (Or.inl rfl) (metY_gives hgd hu3 hs rep M.M M.N) TB rfl hmT huT (hr.mono (by decide)) (lamS_by (by show lamSB (defScope sRef) _ = true; decide +kernel)) rfl (fun _ _ _ _ _ => rfl)
          (fun A outer s H E f c' hr2 => pe_callFR Gp7 (hr2.mono (by decide)) (by rfl) gp7 kp7 (passes_call (takes_of rfl rfl rfl rfl) (fun _ _ _ _ h => h)) (pa_cons (pv 1) (pa_cons (pv 3) pa_nil)))) pa_nil)))
      (pss_cons (ps_expr (pe_bm PySem.F.plainAttrs_list PySem.F.slot_list_append PySem.F.type_list_append mt_append (pv 4) (pa_cons (pe_lamcall (T := T) (k := 20) (by rfl) gM FM.kp lkM hcM bM scMe rfl (Or.inl rfl) (metY_gives hgd hu3 hs rep M.M M.N) TB rfl hmT huT (hr.mono (by decide)) (lamS_by (by show lamSB (defScope sRef) _ = true; decide +kernel)) rfl (fun _ _ _ _ _ => rfl)
          (fun A outer s H E f c' hr2 => pe_callFR Gp7 (hr2.mono (by decide)) (by rfl) gp7 kp7 (passes_call (takes_of rfl rfl rfl rfl) (fun _ _ _ _ h => h)) (pa_cons pe_str (pa_cons pe_str (pa_cons pe_str (pa_cons (pv 3) pa_nil)))))) pa_nil)))
      (pss_cons (ps_expr (pe_bm PySem.F.plainAttrs_list PySem.F.slot_list_append PySem.F.type_list_append mt_append (pv 4) (pa_cons (pe_lamcall (T := T) (k := 20) (by rfl) gM FM.kp lkM hcM bM scMe rfl (Or.inl rfl) (metY_gives hgd hu3 hs rep M.M M.N) TB rfl hmT huT (hr.mono (by decide)) (lamS_by (by show lamSB (defScope sRef) _ = true; decide +kernel)) rfl (fun _ _ _ _ _ => rfl)
          (fun A outer s H E f c' hr2 => pe_callFR Gp7 (hr2.mono (by decide)) (by rfl) gp7 kp7 (passes_call (takes_of rfl rfl rfl rfl) (fun _ _ _ _ h => h)) (pa_cons pe_str (pa_cons pe_str (pa_cons (pv 3) pa_nil))))) pa_nil)))
      (pss_cons (ps_expr (pe_bm PySem.F.plainAttrs_list PySem.F.slot_list_append PySem.F.type_list_append mt_append (pv 4) (pa_cons (pe_lamcall (T := T) (k := 20) (by rfl) gM FM.kp lkM hcM bM scMe rfl (Or.inl rfl) (metY_gives hgd hu3 hs rep M.M M.N) TB rfl hmT huT (hr.mono (by decide)) (lamS_by (by show lamSB (defScope sRef) _ = true; decide +kernel)) rfl (fun _ _ _ _ _ => rfl)
          (fun A outer s H E f c' hr2 => pe_call Gp4 (hr2.mono (by decide)) (by rfl) gp4 kp4 bp4 .nil (passes_call (takes_of rfl rfl rfl rfl) (fun _ _ _ _ h => h)) (pa_cons (pv 3) pa_nil))) pa_nil)))
      (pss_cons (ps_expr (pe_bm PySem.F.plainAttrs_list PySem.F.slot_list_append PySem.F.type_list_append mt_append (pv 4) (pa_cons (pe_lamcall (T := T) (k := 20) (by rfl) gM FM.kp lkM hcM bM scMe rfl (Or.inl rfl) (metY_gives hgd hu3 hs rep M.M M.N) TB rfl hmT huT (hr.mono (by decide)) (lamS_by (by show lamSB (defScope sRef) _ = true; decide +kernel)) rfl (fun _ _ _ _ _ => rfl)
          (fun A outer s H E f c' hr2 => pe_call Gp5 (hr2.mono (by decide)) (by rfl) gp5 kp5 bp5 .nil (passes_call (takes_of rfl rfl rfl rfl) (fun _ _ _ _ h => h)) (pa_cons (pv 3) pa_nil))) pa_nil)))
      (pss_cons (ps_set (i := 5) scRf.nd rfl (Or.inl rfl) (pe_lst (pa_cons pe_str (pa_cons (pe_op op_add_str pe_str (pe_callB (call_rep hgd hu2 hs) (by rfl) rep (by decide +kernel) (pa_cons (pv 2) pa_nil))) (pa_cons pe_str (pa_cons pe_str (pa_cons pe_str (pa_cons pe_str (pa_cons pe_str pa_nil)))))))))
      (pss_one (ps_ret (pe_cmpR (op_eqD hu) (pv 4) (pv 5) (nomark _))))))))))))))), ?_⟩
    have nd : ∀ {G : Hp}, Dice G d → ∀ b, G b = none → b ≠ d := fun h b hb z => h.ne (by rw [← z]; exact hb)
    -- what is odd, what is no number, what is wrong
    refine ⟨d, rfl, hd, trivial, fun vo H1 eo b1 hd1 mo dto => ?_⟩
    refine ⟨d, rfl, hd1, trivial, fun vn H2 en b2 hd2 mn dtn => ?_⟩
    refine ⟨trivial, fun pw ws H3 s3 npw epw dws => ?_⟩
    have hd3 := hd2.same s3
    have wl := dws.length
    refine ⟨_, rfl, _, rfl, d, pw, ws, rfl, hd3, SqL.of epw, fun _ => nd hd2 pw npw, by rw [wl]; decide, by rw [wl]; decide, fun H4 i vw hv b4 hd4 => ?_⟩
    obtain ⟨ew, hew, dtw⟩ := dws.get hv
    have mw := List.mem_of_getElem? hew
    have DO : Dt (fun b => b ≠ d) H4 vo eo := (((dto.mv (S' := fun b => b ≠ d) (fun b hb => nd hd b hb) (fun _ _ _ z => z)).but b2).same s3).but b4
    have DN : Dt (fun b => b ≠ d) H4 vn en := ((dtn.mv (S' := fun b => b ≠ d) (fun b hb => nd hd1 b hb) (fun _ _ _ z => z)).same s3).but b4
    have DW : Dt (fun b => b ≠ d) H4 vw ew := (dtw.mv (S' := fun b => b ≠ d) (fun b hb => nd hd2 b hb) (fun _ _ _ z => z)).but b4
    have T4 : Tabs T H4 := tabs_but2 ((tabs_but2 (tabs_but2 hT hd b1) hd1 b2).ext s3) hd3 b4
    have X4 : ExtB d H H4 := ExtB.but (((b1.tr b2).tr (Same.but s3)).tr b4)
    obtain ⟨o1, o2, o3⟩ := odds_ok eo mo
    obtain ⟨n1, n2, n3, n4, n5⟩ := nums9_ok en mn
    obtain ⟨w1, w2, w3⟩ := wrongs_ok ew mw
    clear dto dtn dtw dws b1 b2 b4 s3 epw hv hew hd1 hd2 hd3
    -- the first word
    refine ⟨T4, fun G5 x5 T5 => ?_⟩
    have k5 : Kp (fun b => b ≠ d) H4 G5 := Kp.ext x5
    refine ⟨_, rfl, _, rfl, _, _, vo, vn, eo, en, rfl, DO.kp k5, DN.kp k5, o3, n2, .inl ⟨o1, fun G6 s6 => .inr (.inl ⟨rfl, (by show 1 ≤ sizeLine; decide), fun pt hpt => ?_⟩)⟩⟩
    have s7 := same_upd (o := .lst [V.str wO]) hpt
    have hd6 : Dice G6 d := (hd4.ext x5).mv s6
    have ptd : pt ≠ d := nd hd6 pt hpt
    have x6 : ExtB d H G6 := X4.tr (ExtB.ext (x5.trans (ExtN.of s6)))
    have np : ∀ o, H pt = some o → (∀ ps, o ≠ .tbl ps) → False := fun o e n => by
      have z := x6 pt o ptd e n
      rw [hpt] at z
      cases z
    have up : ∀ a o, a ≠ d → G6 a = some o → (a ≠ d ∧ a ≠ pt) ∧ (upd G6 pt (.lst [V.str wO])) a = some o := fun a o ha ea => ⟨⟨ha, ne_of_none ea hpt⟩, s7 _ _ ea⟩
    have DO := ((DO.kp k5).same s6).strong up
    have DN := ((DN.kp k5).same s6).strong up
    have DW := ((DW.kp k5).same s6).strong up
    have R7 : Run T H d pt [wO] (upd G6 pt (.lst [V.str wO])) := ⟨x6.tr (ExtB.ext (ExtN.of s7)), hd6.mv s7, (T5.ext s6).ext s7, upd_same⟩
    generalize upd G6 pt (.lst [V.str wO]) = G7 at DO DN DW R7 ⊢
    clear s7 up hd6 x6 k5 x5 T5 s6 X4 T4 hd4
    -- the second word
    have aN : isNameD (.str ("a" : Str)) = true ∧ nogD (.str ("a" : Str)) = true ∧ smlD (.str ("a" : Str)) = true := by decide +kernel
    refine ⟨_, rfl, .inl ⟨rfl, _, SqL.of R7.told⟩, R7.tabs, fun G8 x8 T8 => ?_⟩
    have k8 : Kp (fun b => b ≠ d ∧ b ≠ pt) G7 G8 := Kp.ext x8
    refine ⟨_, rfl, fun _ => True, _, .str "a", vn, .str "a", en, rfl, .at (.str _), DN.kp k8, aN.2.2, n2, .inr (.inl ⟨aN.2.1, n1, fun G9 dx fs s9 hdx edx has => ?_⟩)⟩
    obtain ⟨xv, lx, dxv⟩ := has "value" en rfl
    refine .inr (.inr ⟨rfl, dx, fs, xv, en, _, rfl, edx, lx, dxv, n3, by omega, by omega, ?_⟩)
    obtain ⟨e9, R9, k9⟩ := R7.step np (x8.trans (ExtN.of s9)) (T8.ext s9) (("number " : Str) ++ en.shown)
    refine ⟨pt, _, _, rfl, rfl, e9, (by show 1 < sizeLine; decide), ?_⟩
    have DO := DO.kp k9
    have DN := DN.kp k9
    have DW := DW.kp k9
    generalize hN : ("number " : Str) ++ en.shown = wn at R9 n5 DO DN DW ⊢
    generalize upd G9 pt (.lst (([wO] : List Str).map V.str ++ [V.str wn])) = G10 at DO DN DW R9 ⊢
    clear k9 k8 x8 T8 s9 hdx edx has e9 R7
    -- the third word
    refine ⟨_, rfl, .inl ⟨rfl, _, SqL.of R9.told⟩, R9.tabs, fun G11 x11 T11 => ?_⟩
    have k11 : Kp (fun b => b ≠ d ∧ b ≠ pt) G10 G11 := Kp.ext x11
    refine ⟨_, rfl, _, rfl, [vo], [vw], rfl, rfl, (by show 1 ≤ sizeLine; decide), fun p hp => ⟨_, _, vo, p, [vw], eo, [ew], rfl, upd_same, (DO.kp k11).same (same_upd hp), .cons ((DW.kp k11).same (same_upd hp)) .nil, o3, ?_, ?_, (by show 1 ≤ 10; decide), .inl ⟨o2, fun G12 s12 => .inr (.inl ⟨rfl, ?_⟩)⟩⟩⟩
    · unfold smlAll smlAll
      rw [w2]
      rfl
    · show (shortD ew && true) = true
      rw [w3]
      rfl
    have s12 := (same_upd (o := .tup [vw]) hp).trans s12
    obtain ⟨e12, R12, k12⟩ := R9.step np (x11.trans (ExtN.of s12)) (T11.ext s12) wO
    refine ⟨pt, _, _, rfl, rfl, e12, (by show 2 < sizeLine; decide), ?_⟩
    have DN := DN.kp k12
    have DW := DW.kp k12
    generalize upd G12 pt (.lst ((([wO] : List Str) ++ [wn]).map V.str ++ [V.str wO])) = G13 at DN DW R12 ⊢
    clear k12 k11 x11 T11 s12 e12 R9 DO
    -- the fourth word
    have fN : isNameD (.str ("f" : Str)) = true ∧ smlD (.str ("f" : Str)) = true := by decide +kernel
    have aV : isValD (.str ("a" : Str)) = true ∧ shortD (.str ("a" : Str)) = true := by decide +kernel
    refine ⟨_, rfl, .inl ⟨rfl, _, SqL.of R12.told⟩, R12.tabs, fun G14 x14 T14 => ?_⟩
    have k14 : Kp (fun b => b ≠ d ∧ b ≠ pt) G13 G14 := Kp.ext x14
    refine ⟨_, rfl, [.str "f"], [.str "a", .str "a", vw], rfl, rfl, (by show 3 ≤ sizeLine; decide), fun p hp => ⟨fun _ => True, (fun b => b ≠ d ∧ b ≠ pt), .str "f", p, _, .str "f", [.str "a", .str "a", ew], rfl, upd_same, .at (.str _), .cons (.at (.str _)) (.cons (.at (.str _)) (.cons ((DW.kp k14).same (same_upd hp)) .nil)), fN.2, ?_, ?_, (by show 3 ≤ 10; decide), .inr (.inl ⟨fN.1, (by show 2 < 3; decide), fun G15 s15 => .inr (.inl ⟨rfl, ?_⟩)⟩)⟩⟩
    · unfold smlAll smlAll smlAll smlAll
      rw [w2, aN.2.2]
      rfl
    · show (shortD (.str ("a" : Str)) && (shortD (.str ("a" : Str)) && (shortD ew && true))) = true
      rw [w3, aV.2]
      rfl
    have s15 := (same_upd (o := .tup [V.str "a", .str "a", vw]) hp).trans s15
    obtain ⟨e15, R15, k15⟩ := R12.step np (x14.trans (ExtN.of s15)) (T14.ext s15) wO
    refine ⟨pt, _, _, rfl, rfl, e15, (by show 3 < sizeLine; decide), ?_⟩
    have DN := DN.kp k15
    have DW := DW.kp k15
    generalize upd G15 pt (.lst ((([wO] : List Str) ++ [wn] ++ [wO]).map V.str ++ [V.str wO])) = G16 at DN DW R15 ⊢
    clear k15 k14 x14 T14 s15 e15 R12
    -- the fifth word
    refine ⟨_, rfl, .inl ⟨rfl, _, SqL.of R15.told⟩, R15.tabs, fun G17 x17 T17 => ?_⟩
    have k17 : Kp (fun b => b ≠ d ∧ b ≠ pt) G16 G17 := Kp.ext x17
    refine ⟨_, rfl, [.str "f"], [.str "a", vw], rfl, rfl, (by show 2 ≤ sizeLine; decide), fun p hp => ⟨fun _ => True, (fun b => b ≠ d ∧ b ≠ pt), .str "f", p, _, .str "f", [.str "a", ew], rfl, upd_same, .at (.str _), .cons (.at (.str _)) (.cons ((DW.kp k17).same (same_upd hp)) .nil), fN.2, ?_, ?_, (by show 2 ≤ 10; decide), .inr (.inr (.inl ⟨fN.1, (by show 2 ≤ 2; decide), ?_, fun G18 s18 => .inl ⟨rfl, ?_⟩⟩))⟩⟩
    · unfold smlAll smlAll smlAll
      rw [w2, aN.2.2]
      rfl
    · show (shortD (.str ("a" : Str)) && (shortD ew && true)) = true
      rw [w3, aV.2]
      rfl
    · show (isValD (.str ("a" : Str)) && (isValD ew && true)) = false
      rw [w1, Bool.false_and, Bool.and_false]
    have s18 := (same_upd (o := .tup [V.str "a", vw]) hp).trans s18
    obtain ⟨e18, R18, k18⟩ := R15.step np (x17.trans (ExtN.of s18)) (T17.ext s18) wV
    refine ⟨pt, _, _, rfl, rfl, e18, (by show 4 < sizeLine; decide), ?_⟩
    have DN := DN.kp k18
    have DW := DW.kp k18
    generalize upd G18 pt (.lst ((([wO] : List Str) ++ [wn] ++ [wO] ++ [wO]).map V.str ++ [V.str wV])) = G19 at DN DW R18 ⊢
    clear k18 k17 x17 T17 s18 e18 R15
    -- the sixth word
    refine ⟨_, rfl, .inl ⟨rfl, _, SqL.of R18.told⟩, R18.tabs, fun G20 x20 T20 => ?_⟩
    have k20 : Kp (fun b => b ≠ d ∧ b ≠ pt) G19 G20 := Kp.ext x20
    refine ⟨_, rfl, _, vw, ew, rfl, DW.kp k20, w2, w3, .inl ⟨w1, fun G21 s21 => .inl ⟨rfl, ?_⟩⟩⟩
    obtain ⟨e21, R21, k21⟩ := R18.step np (x20.trans (ExtN.of s21)) (T20.ext s21) wV
    refine ⟨pt, _, _, rfl, rfl, e21, (by show 5 < sizeLine; decide), ?_⟩
    have DN := DN.kp k21
    have DW := DW.kp k21
    generalize upd G21 pt (.lst ((([wO] : List Str) ++ [wn] ++ [wO] ++ [wO] ++ [wV]).map V.str ++ [V.str wV])) = G22 at DN DW R21 ⊢
    clear k21 k20 x20 T20 s21 e21 R18
    -- the seventh word
    refine ⟨_, rfl, .inl ⟨rfl, _, SqL.of R21.told⟩, R21.tabs, fun G23 x23 T23 => ?_⟩
    have k23 : Kp (fun b => b ≠ d ∧ b ≠ pt) G22 G23 := Kp.ext x23
    refine ⟨_, rfl, _, vw, ew, rfl, DW.kp k23, w2, w3, .inl ⟨w1, fun G24 s24 => .inl ⟨rfl, ?_⟩⟩⟩
    obtain ⟨e24, R24, k24⟩ := R21.step np (x23.trans (ExtN.of s24)) (T23.ext s24) wV
    refine ⟨pt, _, _, rfl, rfl, e24, (by show 6 < sizeLine; decide), ?_⟩
    have DN := DN.kp k24
    generalize upd G24 pt (.lst ((([wO] : List Str) ++ [wn] ++ [wO] ++ [wO] ++ [wV] ++ [wV]).map V.str ++ [V.str wV])) = G25 at DN R24 ⊢
    clear k24 k23 x23 T23 s24 e24 R21 DW
    -- the words are right
    have k7 : ("number " : Str).length = 7 := by decide +kernel
    refine ⟨_, rfl, vn, en, _, rfl, DN, n3, by omega, by omega, "number ", _, rfl, rfl, by omega, (by show 7 ≤ sizeLine; decide), fun pd hpd => ?_⟩
    rw [hN]
    have sd := same_upd (o := .lst ([wO, wn, wO, wO, wV, wV, wV].map V.str)) hpd
    have ok7 : ∀ x ∈ [wO, wn, wO, wO, wV, wV, wV], PyData.strOk x = true := fun x hx => by
      have h1 : PyData.strOk wO = true := by decide +kernel
      have h2 : PyData.strOk wV = true := by decide +kernel
      simp only [List.mem_cons, List.not_mem_nil, or_false] at hx
      rcases hx with rfl | rfl | rfl | rfl | rfl | rfl | rfl <;> assumption
    refine ⟨_, rfl, _, rfl, .list ([wO, wn, wO, wO, wV, wV, wV].map PyData.str), .list ([wO, wn, wO, wO, wV, wV, wV].map PyData.str), .lst (SqL.of (sd _ _ R24.told)) (dp_strs [wO, wn, wO, wO, wV, wV, wV]), .lst (SqL.of upd_same) (dp_strs [wO, wn, wO, wO, wV, wV, wV]), sh_strs _ ok7, sh_strs _ ok7, ?_⟩
    rw [eqv_listS, decide_eq_true rfl]
    exact q _ (R24.ext.tr (ExtB.ext (ExtN.of sd))) (R24.dice.mv sd) (R24.tabs.ext sd)
end
end OM

namespace OM.VL
/-- many functions around one name -/
def dpT : Nat → Tr
  | 0 => .lf [97]
  | n + 1 => .nd1 [102] (dpT n)
theorem dpT_ok : ∀ n, okT (dpT n) = true
  | 0 => by decide
  | n + 1 => by
    show (nameL [102] && okT (dpT n)) = true
    rw [dpT_ok n]
    decide
theorem dpT_len : ∀ n, (tx (dpT n)).length = 3 * n + 1
  | 0 => rfl
  | n + 1 => by
    show (102 :: 40 :: (tx (dpT n) ++ [41])).length = _
    simp [dpT_len n]
    omega
theorem dpT_lv : ∀ n, lv (dpT n) = [[97]]
  | 0 => rfl
  | n + 1 => dpT_lv n
/-- one parenthesis too many -/
theorem more_par {t : Tr} (h : okT t = true) : valueL (tx t ++ [41]) = false := by
  have e := E_tx t ((tx t ++ [41]).length + 1) [41] h (by rw [List.length_append]; omega) rfl
  have v := value_E (n := (tx t ++ [41]).length + 1) (l := tx t ++ [41]) (Nat.lt_succ_self _)
  rw [e] at v
  cases hv : valueL (tx t ++ [41]) with
  | false => rfl
  | true =>
    rw [hv] at v
    exact absurd v (by simp)
end OM.VL
namespace OM
open PySem PySem.Spec PyProof.Rows L2 LamX VL
abbrev sLaw1 : Stmt := top 56
abbrev nL1 : List Str := ["_law_script", "_law_at", "_law_dice_here", "_law_turn", "_law_deep", "_law_told", "_law_due"]
def spLaw1 (K : PySem.W.Frag) (T : List (Addr × Str)) : Sp := fun vs H Q _ => ∃ (a : Addr) (ns : List Int), vs = [.ref a] ∧ ns.length ≤ 63 ∧ SqL K H a (ns.map V.int) ∧ Tabs T H ∧ ∀ H', Q (.bl true) H'
theorem sq_extB {K : PySem.W.Frag} {d : Addr} {H H1 H2 : Hp} {a : Addr} {xs : List V} (h : SqL K H a xs) (n : H d = none) (s : Same H H1) (b : ExtB d H1 H2) : SqL K H2 a xs := by
  rcases h with (h | ⟨o, h⟩) | h
  · exact .inl (.inl (b _ _ (ne_of_none h n) (s _ _ h) (fun _ z => nomatch z)))
  · exact .inl (.inr ⟨o, b _ _ (ne_of_none h n) (s _ _ h) (fun _ z => nomatch z)⟩)
  · exact .inr h
structure Law1 (P : Program) (w : World) (K : PySem.W.Frag) (mg : Str → Option Value) (base : Heap) (T : List (Addr × Str)) (cO cN cV : Addr) : Prop where
  R : ProgF P w K mg base cO cN cV
  dice : CallM P w K mg base "_law_dice" 1 ["_law_script", "_law_at"] (spDice K)
  right : ∃ (g : Addr) (d : FuncData), mg "_law_right" = some (.ref g) ∧ PySem.W.keepIn K (.ref g) = true ∧ Binds K d ["_law_dice_here"] [] ∧ GFn P w K mg base 24 g d ["_law_dice_here"] spRight1
  ref : ∃ (g : Addr) (d : FuncData), mg "_law_refused" = some (.ref g) ∧ PySem.W.keepIn K (.ref g) = true ∧ Binds K d ["_law_dice_here"] [] ∧ GFn P w K mg base 24 g d ["_law_dice_here"] (spRefused T)
  max : mg "max" = none
  min : mg "min" = none
  len : mg "len" = none
  rng : mg "range" = none
  ml : ∃ t, mg "MAX_LETTERS" = some (.int 8 t)
  wd : ∃ aW, mg "WORDS" = some (.ref aW) ∧ ∀ H, SqT K H aW (words6.map V.str)
def dueD : PyData := .list [.bool true, .bool true, .tuple [.str "a"], .bool false, .int 8, .bool true, .bool false, .bool false, .bool true, .bool true]
theorem dueD_ok : SeqAt.shaped dueD = true ∧ PyData.eqv dueD dueD = true := by decide +kernel
theorem wordsD_ok : SeqAt.shaped (.tuple (words6.map PyData.str)) = true ∧ PyData.eqv (.tuple (words6.map PyData.str)) (.tuple (words6.map PyData.str)) = true := by decide +kernel
theorem five_ok : (isValD (.str ("get.1" : Str)) = true ∧ isValD (.str ("get" : Str)) = false ∧ isValD (.str ("if.1" : Str)) = false ∧ isValD (.str ("f(get.1)" : Str)) = true ∧ isValD (.str ("x.1000" : Str)) = true) ∧
    (smlD (.str ("get.1" : Str)) = true ∧ smlD (.str ("get" : Str)) = true ∧ smlD (.str ("if.1" : Str)) = true ∧ smlD (.str ("f(get.1)" : Str)) = true ∧ smlD (.str ("x.1000" : Str)) = true) ∧
    (shortD (.str ("get.1" : Str)) = true ∧ shortD (.str ("get" : Str)) = true ∧ shortD (.str ("if.1" : Str)) = true ∧ shortD (.str ("f(get.1)" : Str)) = true ∧ shortD (.str ("x.1000" : Str)) = true) := by decide +kernel
theorem set_a : IsSet [("a" : Str)] [("a" : Str)] := ⟨by decide +kernel, by decide +kernel⟩
section
variable {P : Program} {w : World} {K : PySem.W.Frag} {mg : Str → Option Value} {base : Heap} {f cO cN cV : Addr} {fd : FuncData}
theorem scL1 : FnScope nL1 ["_law_script"] (defScope sLaw1) := ⟨rfl, rfl, rfl, by decide +kernel, rfl, by decide +kernel, by decide +kernel⟩
theorem ok_law1 {T : List (Addr × Str)} (F : Fun K "law" "law" sLaw1 f fd) (R : Law1 P w K mg base T cO cN cV) : GFn P w K mg base 25 f fd ["_law_script"] (spLaw1 K T) := by
  obtain ⟨p3, d3, gp3, kp3, bp3, Gp3⟩ := R.R.val
  obtain ⟨p4, d4, gp4, kp4, bp4, Gp4⟩ := R.R.parts
  obtain ⟨p5, d5, gp5, kp5, bp5, Gp5⟩ := R.R.atoms
  obtain ⟨fD, dD, gD, kD, bD, GD⟩ := R.dice
  obtain ⟨fR, dR, gR, kR, bR, GR⟩ := R.right
  obtain ⟨fX, dX, gX, kX, bX, GX⟩ := R.ref
  obtain ⟨tm, gm⟩ := R.ml
  obtain ⟨aW, gW, qW⟩ := R.wd
  refine gfn_of F scL1 (fun vs H Q E h => ?_) (fun cv A outer s H vs Q E hga hr h => ?_)
  · obtain ⟨a, ns, rfl, _⟩ := h
    rfl
  · obtain ⟨a, ns, rfl, hn, hS, hT, q⟩ := h
    have hgd : (A.deeper (envOfC "law" (defScope sLaw1) s.heap.objs.size f cv)).guards = some [] := hga
    have un := hr.un
    have hu : (A.deeper (envOfC "law" (defScope sLaw1) s.heap.objs.size f cv)).units + 64 < cLine := by omega
    have line : (100000 : Nat) ≤ sizeLine := by decide
    refine ⟨_, pss_cons (ps_for PassesOwn.never rfl (pi_range1 (by rfl) R.rng (pa_cons (pe_callB (call_max2 rfl) (by rfl) R.max (by decide +kernel) (pa_cons pe_int (pa_cons (pe_callB (call_min2 rfl) (by rfl) R.min (by decide +kernel) (pa_cons pe_int
          (pa_cons (pe_callB call_len_seq (by rfl) R.len PySem.boot_len (pa_cons (pv 0) pa_nil)) pa_nil))) pa_nil))) pa_nil)) (pg_name (i := 1) scL1.nd rfl (Or.inl rfl))
        (pss_cons (ps_set (i := 2) scL1.nd rfl (Or.inl rfl) (pe_call GD (hr.mono (by decide)) (by rfl) gD kD bD .nil pass0 (pa_cons (pv 0) (pa_cons (pv 1) pa_nil))))
        (pss_one (ps_for PassesOwn.never rfl (pi_range1 (by rfl) R.rng (pa_cons pe_int pa_nil)) (pg_name (i := 3) scL1.nd rfl (Or.inl rfl))
          (pss_one (ps_if (PW.pt (pw_or (pt_not (pt_val (pe_callG GR hgd hr (by rfl) gR kR bR (pa_cons (pv 2) pa_nil)))) (pw_or1 (pt_not (pt_val (pe_callG GX hgd hr (by rfl) gX kX bX (pa_cons (pv 2) pa_nil))))))) (pss_one (ps_ret pe_bl)) pss_nil))))))
      (pss_cons (ps_set (i := 4) scL1.nd rfl (Or.inl rfl) pe_str)
      (pss_cons (ps_for PassesOwn.never rfl (pi_range1 (by rfl) R.rng (pa_cons pe_int pa_nil)) (pg_name (i := 3) scL1.nd rfl (Or.inl rfl)) (pss_one (ps_set (i := 4) scL1.nd rfl (Or.inl rfl) (pe_op op_add_str (pe_op op_add_str pe_str (pv 4)) pe_str))))
      (pss_cons (ps_set (i := 5) scL1.nd rfl (Or.inl rfl) (pe_lst (pa_cons (pe_call Gp3 (hr.mono (by decide)) (by rfl) gp3 kp3 bp3 .nil pass0 (pa_cons (pv 4) pa_nil))
          (pa_cons (pe_cmpR op_eq (pe_ix ix_tup (pe_ix ix_tup (pe_call Gp4 (hr.mono (by decide)) (by rfl) gp4 kp4 bp4 .nil (passes_call L2.takes0 (fun _ _ _ _ h => h)) (pa_cons (pv 4) pa_nil)) pe_int (fun _ _ => rfl)) pe_int (fun _ _ => rfl)) (pe_slice sl_str (pv 4) (po_some pe_int) (po_some (pe_un un_neg pe_int))) (nomark _))
          (pa_cons (pe_call Gp5 (hr.mono (by decide)) (by rfl) gp5 kp5 bp5 .nil (passes_call L2.takes0 (fun _ _ _ _ h => h)) (pa_cons (pv 4) pa_nil)) (pa_cons (pe_call Gp3 (hr.mono (by decide)) (by rfl) gp3 kp3 bp3 .nil pass0 (pa_cons (pe_op op_add_str (pv 4) pe_str) pa_nil)) (pa_cons (pe_glob (v := .int 8) (by rfl) gm ⟨tm, rfl⟩) pa_nil)))))))
      (pss_cons (ps_set (i := 5) scL1.nd rfl (Or.inl rfl) (pe_op op_cat (pv 5) (pe_lst (pa_cons (pe_call Gp3 (hr.mono (by decide)) (by rfl) gp3 kp3 bp3 .nil pass0 (pa_cons pe_str pa_nil)) (pa_cons (pe_call Gp3 (hr.mono (by decide)) (by rfl) gp3 kp3 bp3 .nil pass0 (pa_cons pe_str pa_nil)) (pa_cons (pe_call Gp3 (hr.mono (by decide)) (by rfl) gp3 kp3 bp3 .nil pass0 (pa_cons pe_str pa_nil))
          (pa_cons (pe_call Gp3 (hr.mono (by decide)) (by rfl) gp3 kp3 bp3 .nil pass0 (pa_cons pe_str pa_nil)) (pa_cons (pe_call Gp3 (hr.mono (by decide)) (by rfl) gp3 kp3 bp3 .nil pass0 (pa_cons pe_str pa_nil)) pa_nil))))))))
      (pss_cons (ps_set (i := 6) scL1.nd rfl (Or.inl rfl) (pe_lst (pa_cons pe_bl (pa_cons pe_bl (pa_cons (pe_tup (pa_cons pe_str pa_nil)) (pa_cons pe_bl (pa_cons pe_int (pa_cons pe_bl (pa_cons pe_bl (pa_cons pe_bl (pa_cons pe_bl (pa_cons pe_bl pa_nil))))))))))))
      (pss_one (ps_ret (pe_and (pe_cmpR (op_eqD hu) (pv 5) (pv 6) (nomark _)) (pe_one (pe_cmpR (op_eqD hu) (pe_glob (v := .ref aW) (by rfl) gW rfl) (pe_tup (pa_cons pe_str (pa_cons pe_str (pa_cons pe_str (pa_cons pe_str (pa_cons pe_str (pa_cons pe_str pa_nil))))))) (nomark _))))))))))), ?_⟩
    refine ⟨_, rfl, a, _, rfl, .inl hS, 8, _, rfl, 1, _, rfl, _, rfl, ?_⟩
    have hj : 1 ≤ (if (if (((ns.map V.int).length : Nat) : Int) < 8 then (((ns.map V.int).length : Nat) : Int) else 8) > 1 then (if (((ns.map V.int).length : Nat) : Int) < 8 then (((ns.map V.int).length : Nat) : Int) else 8) else 1) ∧
        (if (if (((ns.map V.int).length : Nat) : Int) < 8 then (((ns.map V.int).length : Nat) : Int) else 8) > 1 then (if (((ns.map V.int).length : Nat) : Int) < 8 then (((ns.map V.int).length : Nat) : Int) else 8) else 1) ≤ 8 := by
      split <;> split <;> omega
    revert hj
    generalize (if (if (((ns.map V.int).length : Nat) : Int) < 8 then (((ns.map V.int).length : Nat) : Int) else 8) > 1 then (if (((ns.map V.int).length : Nat) : Int) < 8 then (((ns.map V.int).length : Nat) : Int) else 8) else 1) = jn
    intro hj
    refine ⟨by omega, by omega, fun i m σ H => m = jn.toNat - i ∧ i ≤ jn.toNat ∧ (∃ x1 x2 x3, σ = [some (.ref a), x1, x2, x3, none, none, none]) ∧ SqL K H a (ns.map V.int) ∧ Tabs T H, ⟨_, rfl, Nat.zero_le _, ⟨_, _, _, rfl⟩, hS, hT⟩, ?_⟩
    rintro i m σ H ⟨rfl, hi, ⟨x1, x2, x3, rfl⟩, hS, hT⟩
    rcases Nat.lt_or_ge i jn.toNat with hlt | hge
    · refine .inr ⟨hlt, fun σ' H' => (∃ x1 x2 x3, σ' = [some (.ref a), x1, x2, x3, none, none, none]) ∧ SqL K H' a (ns.map V.int) ∧ Tabs T H', fun σ' H' h => ⟨jn.toNat - (i + 1), by omega, rfl, hlt, h.1, h.2⟩, ?_⟩
      rintro x H' ⟨rfl, rfl⟩
      refine ⟨_, rfl, _, rfl, a, ns, 0 + i, rfl, hS, fun H1 p s1 n1 d1 => ?_⟩
      refine ⟨3, rfl, by decide, by decide, for_range (lo := 0) (n := 3) (fun k σ G => (∃ y1 y3, σ = [some (.ref a), y1, some (.ref p), y3, none, none, none]) ∧ ExtB p H1 G ∧ Dice G p ∧ Tabs T G) ⟨⟨_, _, rfl⟩, (fun _ _ _ e _ => e), d1, hT.ext s1⟩ (fun k σ G hk h => ?_) (fun σ G h => ?_)⟩
      · obtain ⟨⟨y1, y3, rfl⟩, xG, dG, tG⟩ := h
        refine ⟨_, rfl, p, rfl, dG, fun H2 b2 d2 => ⟨true, rfl, iteF ⟨_, rfl, p, rfl, d2, tabs_but2 tG dG b2, fun H3 b3 d3 t3 => ⟨true, rfl, ⟨⟨_, _, rfl⟩, xG.tr ((ExtB.but b2).tr b3), d3, t3⟩⟩⟩⟩⟩
      · obtain ⟨⟨y1, y3, rfl⟩, xG, dG, tG⟩ := h
        exact ⟨⟨_, _, _, rfl⟩, sq_extB hS n1 s1 xG, tG⟩
    refine .inl ⟨hge, ?_⟩
    clear hS hT hge hi hj
    -- a deep value
    have e0 : ("a" : Str) = S (tx (dpT 0)) := by decide +kernel
    have z1 : TL.tl ("f(" : Str) = [102, 40] := by decide +kernel
    have z3 : TL.tl (")" : Str) = [41] := by decide +kernel
    have k1 : ("f(" : Str).length = 2 := by decide +kernel
    have k3 : (")" : Str).length = 1 := by decide +kernel
    refine ⟨60, rfl, by decide, by decide, for_range (lo := 0) (n := 60) (fun k σ G => ∃ y3, σ = [some (.ref a), x1, x2, y3, some (.str (S (tx (dpT k)))), none, none]) ⟨x3, by rw [← e0]; rfl⟩ (fun k σ G hk h => ?_) (fun σ G h => ?_)⟩
    · obtain ⟨y3, rfl⟩ := h
      have l := dpT_len k
      have l1 : (S (tx (dpT k))).length = (tx (dpT k)).length := SX.S_len _
      refine ⟨_, rfl, "f(", S (tx (dpT k)), rfl, rfl, by omega, _, ")", rfl, rfl, by rw [strLen_append]; omega, some (.int (0 + (k : Int))), ?_⟩
      have e : ("f(" : Str) ++ S (tx (dpT k)) ++ ")" = S (tx (dpT (k + 1))) := by
        apply TL.ext_tl
        rw [TL.tl_append, TL.tl_append, z1, z3]
        show [102, 40] ++ tx (dpT k) ++ [41] = [102] ++ 40 :: (tx (dpT k) ++ [41])
        simp
      rw [e]
      rfl
    obtain ⟨y3, rfl⟩ := h
    have okt := dpT_ok 60
    have len := dpT_len 60
    have a1 := asc_tx okt
    obtain ⟨sm1, sh1⟩ := asc_sml a1 (by omega)
    have val1 : isValD (.str (S (tx (dpT 60)))) = true := by rw [asc_val a1]; exact tx_value okt
    have ats : atomsD (.str (S (tx (dpT 60)))) = [("a" : Str)] := by
      show (atomsT (tx (dpT 60))).map S = _
      rw [atoms_tx okt, dpT_lv]
      decide +kernel
    have l1 : (S (tx (dpT 60))).length = (tx (dpT 60)).length := SX.S_len _
    have e41 : (")" : Str) = S [41] := by decide +kernel
    have ep : S (tx (dpT 60)) ++ ")" = S (tx (dpT 60) ++ [41]) := by rw [e41, S_app]
    have a2 : asc (tx (dpT 60) ++ [41]) = true := by rw [asc_app, a1]; rfl
    obtain ⟨sm2, sh2⟩ := asc_sml a2 (by rw [List.length_append]; show _ + 1 ≤ 900; omega)
    have val2 : isValD (.str (S (tx (dpT 60) ++ [41]))) = false := by rw [asc_val a2]; exact more_par okt
    rw [← ep] at sm2 sh2 val2
    have cu : cutS (S (tx (dpT 60))) (some 2) (some (-1)) = S (tx (dpT 59)) := by
      have h := cut_last (tx (dpT 60)) 2
      have h2 : (tx (dpT 60)).drop 2 = tx (dpT 59) ++ [41] := rfl
      rw [h2, List.dropLast_concat] at h
      exact h
    have pD : partsD (dpT 60) = .tuple [.str (S [102]), .tuple [.str (S (tx (dpT 59)))]] := rfl
    have d59 : (S (tx (dpT 59))) = S (tx (dpT 59)) := rfl
    generalize tx (dpT 59) = D59 at cu pD d59
    have hT60 : ∃ t, okT t = true ∧ tx (dpT 60) = tx t ∧ partsD t = .tuple [.str (S [102]), .tuple [.str (S D59)]] := ⟨dpT 60, okt, rfl, pD⟩
    obtain ⟨t60, ok60, tx60, pD60⟩ := hT60
    generalize tx (dpT 60) = D at len a1 sm1 sh1 val1 ats l1 ep a2 sm2 sh2 val2 cu tx60 ⊢
    clear okt pD d59
    refine ⟨_, rfl, fun _ => True, .str (S D), .str (S D), rfl, .at (.str _), sm1, sh1, fun Ha sa => ?_⟩
    refine ⟨_, rfl, fun _ => True, .str (S D), .str (S D), rfl, .at (.str _), sm1, sh1, .inr ⟨val1, t60, ok60, by rw [tx60], fun Hb u sb du => ?_⟩⟩
    rw [pD60] at du
    obtain ⟨q1, xs1, rfl, f1, _, h1⟩ := du.tup_of
    cases h1 with
    | @cons x0 _ xr _ h0 h1 =>
      cases h1 with
      | @cons u2 _ xr2 _ hu2 h2 =>
        cases h2
        obtain ⟨q2, xs2, rfl, f2, _, h3⟩ := hu2.tup_of
        cases h3 with
        | @cons u3 _ xr3 _ hu3 h4 =>
          cases h4
          obtain rfl : u3 = .str (S D59) := dt_str1 hu3
          refine ⟨q1, _, _, _, rfl, rfl, SqT.of f1, atI_nat (j := 1) rfl, q2, _, _, _, rfl, rfl, SqT.of f2, atI_nat (j := 0) rfl, _, rfl, 2, rfl, 1, rfl, _, rfl, S D, rfl, by omega, rfl, ?_⟩
          have ec : decide (V.str (S D59) = V.str (cutS (S D) (some 2) (some (-1)))) = true := decide_eq_true (by rw [cu])
          rw [ec]
          refine ⟨_, rfl, fun _ => True, .str (S D), .str (S D), rfl, .at (.str _), sm1, sh1, .inr ⟨val1, fun Hc b ys sc nb eb is => ?_⟩⟩
          rw [ats] at is
          obtain rfl : ys = [("a" : Str)] := IsSet.uniq (l := [("a" : Str)]) (k := [("a" : Str)]) is set_a fun _ => Iff.rfl
          refine ⟨_, rfl, S D, ")", rfl, rfl, by omega, fun _ => True, .str (S D ++ ")"), .str (S D ++ ")"), rfl, .at (.str _), sm2, sh2, fun Hd sd => ⟨(by show 5 ≤ sizeLine; decide), fun pl hpl => ?_⟩⟩
          rw [val1, val2]
          have eb := sd _ _ eb
          have sl := same_upd (o := .lst [V.bl true, .bl true, .ref b, .bl false, .int 8]) hpl
          have el : upd Hd pl (.lst [V.bl true, .bl true, .ref b, .bl false, .int 8]) pl = some (.lst [V.bl true, .bl true, .ref b, .bl false, .int 8]) := upd_same
          have eb := sl _ _ eb
          generalize upd Hd pl (.lst [V.bl true, .bl true, .ref b, .bl false, .int 8]) = He at el eb ⊢
          obtain ⟨⟨v1, v2, v3, v4, v5⟩, ⟨s1, s2, s3, s4, s5⟩, ⟨r1, r2, r3, r4, r5⟩⟩ := five_ok
          refine ⟨_, rfl, fun _ => True, _, _, rfl, .at (.str _), s1, r1, fun H1 t1 => ⟨fun _ => True, _, _, rfl, .at (.str _), s2, r2, fun H2 t2 => ⟨fun _ => True, _, _, rfl, .at (.str _), s3, r3, fun H3 t3 => ⟨fun _ => True, _, _, rfl, .at (.str _), s4, r4, fun H4 t4 => ⟨fun _ => True, _, _, rfl, .at (.str _), s5, r5, fun H5 t5 => ⟨(by show 5 ≤ sizeLine; decide), fun pm hpm => ?_⟩⟩⟩⟩⟩⟩
          have t15 := (((t1.trans t2).trans t3).trans t4).trans t5
          rw [v1, v2, v3, v4, v5]
          have sm := same_upd (o := .lst [V.bl true, .bl false, .bl false, .bl true, .bl true]) hpm
          refine ⟨pl, pm, _, _, rfl, rfl, sm _ _ (t15 _ _ el), upd_same, (by show 5 + 5 ≤ sizeLine; decide), fun pn hpn => ?_⟩
          have sn := same_upd (o := .lst ([V.bl true, .bl true, .ref b, .bl false, .int 8] ++ [V.bl true, .bl false, .bl false, .bl true, .bl true])) hpn
          have eb := sn _ _ (sm _ _ (t15 _ _ eb))
          have en : upd (upd H5 pm (.lst [V.bl true, .bl false, .bl false, .bl true, .bl true])) pn (.lst ([V.bl true, .bl true, .ref b, .bl false, .int 8] ++ [V.bl true, .bl false, .bl false, .bl true, .bl true])) pn = some (.lst [V.bl true, .bl true, .ref b, .bl false, .int 8, .bl true, .bl false, .bl false, .bl true, .bl true]) := upd_same
          generalize upd _ pn _ = Hn at eb en ⊢
          refine ⟨(by show 1 ≤ sizeLine; decide), fun pt hpt => ⟨(by show 10 ≤ sizeLine; decide), fun pd hpd => ?_⟩⟩
          have st := same_upd (o := .tup [V.str "a"]) hpt
          have sd2 := same_upd (o := .lst [V.bl true, .bl true, .ref pt, .bl false, .int 8, .bl true, .bl false, .bl false, .bl true, .bl true]) hpd
          have dpa : ∀ {G : Hp} {p : Addr}, G p = some (.tup [V.str "a"]) → Dp K G (.ref p) (.tuple [.str "a"]) := fun e => .tup (SqT.of e) (dp_strs [("a" : Str)])
          have dpl : ∀ {G : Hp} {p l : Addr}, G p = some (.tup [V.str "a"]) → G l = some (.lst [V.bl true, .bl true, .ref p, .bl false, .int 8, .bl true, .bl false, .bl false, .bl true, .bl true]) → Dp K G (.ref l) dueD := fun e e2 =>
            .lst (SqL.of e2) (.cons (.bl _) (.cons (.bl _) (.cons (dpa e) (.cons (.bl _) (.cons (.int _) (.cons (.bl _) (.cons (.bl _) (.cons (.bl _) (.cons (.bl _) (.cons (.bl _) .nil))))))))))
          refine ⟨_, rfl, _, rfl, dueD, dueD, dpl (sd2 _ _ (st _ _ eb)) (sd2 _ _ (st _ _ en)), dpl (sd2 _ _ upd_same) upd_same, dueD_ok.1, dueD_ok.1, _, rfl, ?_⟩
          rw [dueD_ok.2]
          refine iteT ⟨(by show 6 ≤ sizeLine; decide), fun pw hpw => ?_⟩
          refine ⟨.tuple (words6.map PyData.str), .tuple (words6.map PyData.str), .tup (qW _) (dp_strs words6), .tup (SqT.of upd_same) (dp_strs words6), wordsD_ok.1, wordsD_ok.1, ?_⟩
          rw [wordsD_ok.2]
          exact q _
end
end OM

namespace OM
open PySem PySem.Spec PyProof.Rows L2 LamX
/-- the script as it is held, and the empty tables; nothing else is tracked -/
def ScrTs (K : PySem.W.Frag) (a : Addr) (ts : List Addr) (H : Hp) : Prop := ∀ b u, H b = some u → (b = a ∧ K.lookup a = none ∧ ∃ ob xs, u = HO.frz ob (.lst xs)) ∨ (b ∈ ts ∧ u = HO.tbl #[])
theorem run_tabs {P : Program} {w : World} {K : PySem.W.Frag} {mg mb : Str → Option Value} {n : Nat} {fa a : Addr} {cs : List (Addr × Addr)} {gd : FuncData} {x : Str} {sp : Sp} {z : Shared} {vs : List Value} {H : Hp} (Kz : K.In z.heap) (ng : z.heap.Ns mainGlobals mg) (nb : z.heap.Ns builtinsNs mb)
    (bb : ∀ y : Str, y ≠ "__name__" → mb y = bootBuiltins y) (lim : z.heap.NoLimit) (sm : ∃ mm, z.heap.Ns sysModules mm) (hg : z.gens = #[]) (ha : z.heap.get? a = some { cls := .type "list", data := .seq vs.toArray }) (hr : Room n callerA)
    (hb : ∃ (bm : Addr) (ob : Obj), mg "__builtins__" = some (.ref bm) ∧ bm ≠ builtinsNs ∧ z.heap.get? bm = some ob ∧ ob.cls = .type "module" ∧ ob.dict = some builtinsNs ∧ ob.data = .plain)
    (hP : ∀ p ∈ cs, z.heap.get? p.2 = some { cls := .none, data := .fields #[] }) (nP : ∀ p ∈ cs, K.lookup p.2 = none) (hC : ∀ p ∈ cs, PySem.W.CodeHd z.heap p.1 p.2)
    (F : ∀ base : Heap, K.In base → base.Ns mainGlobals mg → (∃ o, base.get? sysModules = some o) → (∀ p ∈ cs, TabB base mg p.1 p.2) → GFn P w K mg base n fa gd [x] sp) (hbind : ∀ (s : Shared) (u : Value), BindsTo s gd ⟨[u], []⟩ [(x, u)])
    (hS : ScrTs K a (cs.map (·.2)) H) (hok : HOk P w H z.heap) (tP : ∀ p ∈ cs, H p.2 = some (.tbl #[])) (hsp : sp [.ref a] H (fun v _ => v = .bl true) E0) :
    codeAny (model P w) callerA (.call (.ref fa) ⟨[.ref a], []⟩) (fun r z' => r = .ok (.ret (.bool true)) ∧ OldK z.heap z'.heap ∧ z'.os = z.os ∧ AllBare z'.gens) z := by
  have tabAt : ∀ {b : Addr}, b ∈ cs.map (·.2) → ∃ p ∈ cs, p.2 = b := fun hb => by
    obtain ⟨p, hp, e⟩ := List.mem_map.mp hb
    exact ⟨p, hp, e⟩
  -- what is no list of things and no empty table is not tracked
  have kept : ∀ {b : Addr} {o : Obj}, z.heap.get? b = some o → (∀ its k, o.data ≠ .seq its k) → o.data ≠ .fields #[] → (hidT z.heap H).get? b = some o := fun {b o} e h1 h2 => hidT_get e (by
    cases y : H b with
    | none => rfl
    | some u =>
      exfalso
      rcases hS _ _ y with ⟨rfl, _⟩ | ⟨hb, _⟩
      · rw [ha] at e
        cases e
        exact h1 _ _ rfl
      · obtain ⟨p, hp, rfl⟩ := tabAt hb
        rw [hP p hp] at e
        cases e
        exact h2 rfl)
  have toB : ∀ {b : Addr} {m : Str → Option Value}, z.heap.Ns b m → (hidT z.heap H).Ns b m := by
    rintro b m ⟨o, es, ep, e, d, r⟩
    refine ⟨o, es, ep, kept e (fun its k y => ?_) (fun y => ?_), d, r⟩
    · rw [d] at y
      cases y
    · rw [d] at y
      cases y
  have Kb : K.In (hidT z.heap H) := fun b o e => hidT_get (Kz b o e) (by
    cases y : H b with
    | none => rfl
    | some u =>
      exfalso
      rcases hS _ _ y with ⟨rfl, z0, _⟩ | ⟨hb, _⟩
      · rw [z0] at e
        cases e
      · obtain ⟨p, hp, rfl⟩ := tabAt hb
        rw [nP p hp] at e
        cases e)
  have M : Mod K mg (hidT z.heap H) := ⟨Kb, toB ng, ⟨mb, toB nb, bb⟩, by
    obtain ⟨mc, h1, h2⟩ := lim
    exact ⟨mc, toB h1, h2⟩⟩
  have hs : ∃ o, (hidT z.heap H).get? sysModules = some o := by
    obtain ⟨mm, y⟩ := sm
    obtain ⟨o, _, _, e, _⟩ := toB y
    exact ⟨o, e⟩
  have TB : ∀ p ∈ cs, TabB (hidT z.heap H) mg p.1 p.2 := fun p hp => by
    have hPp := hP p hp
    refine ⟨?_, ?_, fun y => ?_⟩
    · obtain ⟨o, us, file, tf, flags, tg, inF, text, tt, e1, r1, r2, r3, r⟩ := hC p hp
      refine ⟨o, us, file, tf, flags, tg, inF, text, tt, kept e1 (fun its k y => ?_) (fun y => ?_), r1, r2, r3, r⟩
      · rw [r2] at y
        cases y
      · rw [r2] at y
        cases y
        simp at r3
    · obtain ⟨bm, ob, b1, b2, b3, b4, b5, b6⟩ := hb
      refine ⟨bm, ob, b1, b2, fun y => ?_, fun y => ?_, kept b3 (fun its k y => ?_) (fun y => ?_), b4, b5, b6⟩
      · obtain ⟨o, es, ep, e, hd, _⟩ := ng
        rw [y, e] at b3
        cases b3
        rw [hd] at b6
        cases b6
      · rw [y, hPp] at b3
        cases b3
        cases b6
      · rw [b6] at y
        cases y
      · rw [b6] at y
        cases y
    · obtain ⟨o, es, ep, e, hd, _⟩ := ng
      rw [y, hPp] at e
      cases e
      cases hd
  have e0 : Env0 P w K mg (hidT z.heap H) callerA [] z H := ⟨rfl, M, fun b o e => of_hidT e, Nat.le_of_eq (hidT_size _ _), trivial, (fun b hb => by cases (show b ∈ ([] : List Addr) from hb)), hok, .of_eq hg⟩
  refine codeAny_mono ((F _ Kb (toB ng) hs TB).go callerA [] z H ⟨[.ref a], []⟩ [.ref a] [.ref a] _ _ rfl hr e0 (hbind z (.ref a)) (.cons rfl .nil) hsp) fun res z' y => ?_
  match res, y with
  | .error e, y => exact y.elim
  | .ok (.ret u), y =>
    obtain ⟨v, H', os, bare, un, hok', r', y'⟩ := y
    subst y'
    obtain rfl : u = Value.bool true := r'
    have stay : ∀ b o, b ∉ cs.map (·.2) → z.heap.get? b = some o → z'.heap.get? b = some o := fun b o ne e => by
      cases y : H b with
      | none => exact un.keep b o e y (fun k => by cases (show b ∈ ([] : List Addr) from k)) (fun k => by cases (show b ∈ ([] : List Addr) from k))
      | some u =>
        rcases hS _ _ y with ⟨rfl, _, ob, xs, rfl⟩ | ⟨hb, _⟩
        · have h1 := (hok b _ y).1
          have h2 := (hok' b _ (un.frzs b ob _ y)).1
          rw [e] at h1
          cases h1
          exact h2
        · exact absurd hb ne
    have grow : ∀ p ∈ cs, ∃ more : Array Value, z'.heap.get? p.2 = some { cls := .none, data := .fields (#[] ++ more) } := fun p hp => by
      obtain ⟨more, tm⟩ := un.tbls p.2 #[] (tP p hp)
      exact ⟨more, hok' p.2 _ tm⟩
    refine ⟨rfl, ⟨fun b o e => ?_, fun b o e => ?_⟩, os, bare⟩
    · by_cases hb : b ∈ cs.map (·.2)
      · obtain ⟨p, hp, rfl⟩ := tabAt hb
        rw [hP p hp] at e
        cases e
        obtain ⟨more, gm⟩ := grow p hp
        exact .inr (.inl ⟨((hC p hp).tab (hP p hp)).isCodeTable, rfl, #[], more, rfl, gm⟩)
      · exact .inl (stay b o hb e)
    · by_cases hb : b ∈ cs.map (·.2)
      · obtain ⟨p, hp, rfl⟩ := tabAt hb
        obtain ⟨more, gm⟩ := grow p hp
        exact ⟨_, gm⟩
      · exact ⟨o, stay b o hb e⟩
/-- the end: a promise that asks for no guards, with several tables of lambdas' code -/
theorem walkGs {l : PySem.W.OpenLaw} {n k : Nat} {q : Program} {loose : List Str} {XP : (Str → Option Value) → Heap → Prop} {YP : World → Heap → Prop} {d : DefRec} {K : Params → PySem.W.Frag} {x : Str} (hn : l.most = some n) (hn2 : n ≤ sizeLine)
    (hdf : d.params.defaults = []) (hi : importsNone q = true) (hr : Room k callerA) (hY : ∀ (w : World) (h : Heap), YP w h → (K w.params).In h)
    (F : ∀ (w : World) (mg : Str → Option Value) (fa : Addr) (h : Heap), YP w h → (K w.params).In h → h.Ns mainGlobals mg → mg d.name = some (.ref fa) → ∃ (gd : FuncData) (cs : List (Addr × Addr)) (sp : Sp), (∀ p ∈ cs, h.get? p.2 = some { cls := .none, data := .fields #[] }) ∧ (∀ p ∈ cs, (K w.params).lookup p.2 = none) ∧ (∀ p ∈ cs, PySem.W.CodeHd h p.1 p.2) ∧
      (∀ (s : Shared) (u : Value), BindsTo s gd ⟨[u], []⟩ [(x, u)]) ∧ (∀ (H : Hp) (a : Addr) (ns : List Int), ns.length ≤ n → SqL (K w.params) H a (ns.map V.int) → (∀ p ∈ cs, H p.2 = some (.tbl #[])) → sp [.ref a] H (fun v _ => v = .bl true) E0) ∧
      ∀ base : Heap, (K w.params).In base → base.Ns mainGlobals mg → (∃ o, base.get? sysModules = some o) → (∀ p ∈ cs, TabB base mg p.1 p.2) → GFn l.prog w (K w.params) mg base k fa gd [x] sp) : PySem.W.WalkO q loose XP YP l.row.toRowW d [] (fun f vs => PySem.call f vs) := by
  refine Att.attach_call hn hdf fun w s₀ z mg mb fa o pm cd doc a vs ns G Y ho hd hcd hmg hobj hints hlen hg => ?_
  have Kz := hY w _ Y
  obtain ⟨gd, cs, sp, hP, nP, hC, hb, hsp, hF⟩ := F w mg fa _ Y Kz G.T.g hmg
  have sm : ∃ mm, z.heap.Ns sysModules mm := by
    obtain ⟨mm, h1, _⟩ := (G.T.seer hi).mods
    exact ⟨mm, h1⟩
  have rv := vals_ints hints
  have hl : (ns.map V.int).length ≤ sizeLine := by
    rw [List.length_map]
    omega
  have memT : ∀ p ∈ cs, p.2 ∈ cs.map (·.2) := fun p hp => List.mem_map.mpr ⟨p, hp, rfl⟩
  have isT : ∀ b ∈ cs.map (·.2), z.heap.get? b = some { cls := .none, data := .fields #[] } := fun b hb => by
    obtain ⟨p, hp, e⟩ := List.mem_map.mp hb
    rw [← e]
    exact hP p hp
  have na : a ∉ cs.map (·.2) := fun y => by
    have e := isT a y
    rw [hobj] at e
    have e : Data.seq vs.toArray _ = Data.fields #[] := congrArg Obj.data (Option.some.inj e)
    cases e
  cases hk : (K w.params).lookup a with
  | some o1 =>
    have e := Kz a o1 hk
    rw [hobj] at e
    cases e
    exact run_tabs (H := fun b => if b ∈ cs.map (·.2) then some (.tbl #[]) else none) Kz G.T.g G.T.b G.T.builtins G.T.nolimit sm hg hobj hr G.T.bmain hP nP hC hF hb (fun b u y => by
        by_cases hb : b ∈ cs.map (·.2)
        · have y1 := (if_pos hb).symm.trans y
          exact .inr ⟨hb, (Option.some.inj y1).symm⟩
        · have y1 := (if_neg hb).symm.trans y
          cases y1) (fun b u y => by
        by_cases hb : b ∈ cs.map (·.2)
        · have y1 := (if_pos hb).symm.trans y
          cases y1
          exact isT b hb
        · have y1 := (if_neg hb).symm.trans y
          cases y1) (fun p hp => if_pos (memT p hp))
      (hsp _ a ns hlen (.inr ⟨_, vs.toArray, _, hk, rfl, rfl, rfl, by rw [List.size_toArray, ← rv.length]; exact hl, by simpa using rv⟩) (fun p hp => if_pos (memT p hp)))
  | none =>
    refine run_tabs (H := fun b => if b ∈ cs.map (·.2) then some (.tbl #[]) else if b = a then some (.frz { cls := .type "list", data := .seq vs.toArray } (.lst (ns.map V.int))) else none) Kz G.T.g G.T.b G.T.builtins G.T.nolimit sm hg hobj hr G.T.bmain hP nP hC hF hb (fun b u y => ?_) (fun b u y => ?_) (fun p hp => if_pos (memT p hp))
      (hsp _ a ns hlen (.inl (.inr ⟨{ cls := .type "list", data := .seq vs.toArray }, (if_neg na).trans (if_pos rfl)⟩)) (fun p hp => if_pos (memT p hp)))
    · by_cases hb : b ∈ cs.map (·.2)
      · have y1 := (if_pos hb).symm.trans y
        exact .inr ⟨hb, (Option.some.inj y1).symm⟩
      · have y1 := (if_neg hb).symm.trans y
        by_cases hc : b = a
        · have y2 := (if_pos hc).symm.trans y1
          exact .inl ⟨hc, hk, _, _, (Option.some.inj y2).symm⟩
        · have y2 := (if_neg hc).symm.trans y1
          cases y2
    · by_cases hb : b ∈ cs.map (·.2)
      · have y1 := (if_pos hb).symm.trans y
        cases y1
        exact isT b hb
      · have y1 := (if_neg hb).symm.trans y
        by_cases hc : b = a
        · have y2 := (if_pos hc).symm.trans y1
          cases y2
          rw [hc]
          exact ⟨hobj, hl, vs, _, rv, hobj⟩
        · have y2 := (if_neg hc).symm.trans y1
          cases y2
end OM

namespace OM
open PySem PySem.Spec PyProof.Rows L2 LamX VL
def HasFn (K : PySem.W.Frag) (x qual : Str) (st : Stmt) (f : Addr) : Prop := ∃ fd, Fun K x qual st f fd
def HasFnC (K : PySem.W.Frag) (x qual : Str) (st : Stmt) (f cc : Addr) : Prop := ∃ fd, FunC K x qual st f fd cc
def HasM (K : PySem.W.Frag) (f : Addr) : Prop := ∃ fd, FunD K "__init__" "MoveError.__init__" (defArgs sMI) (defBody sMI) (defScope sMI) [.str ""] [] f fd
/-- names that the text does not bind -/
def freeN : List Str := ["isinstance", "str", "len", "all", "tuple", "zip", "list", "sorted", "max", "min", "set", "repr", "range", "int", "abs", "bool", "dict", "enumerate", "ValueError", "RuntimeError"]
def freeB (K : PySem.W.Frag) : Bool := freeN.all fun x => decide (PySem.W.nsIn K mainGlobals x = some none)
theorem free_of {K : PySem.W.Frag} {h : Heap} {mg : Str → Option Value} (X : K.In h) (G : h.Ns mainGlobals mg) (b : freeB K = true) (x : Str) (hx : x ∈ freeN) : mg x = none :=
  PySem.W.mg_none_of X G (of_decide_eq_true (List.all_eq_true.mp b x hx))
/-- a written tuple of texts -/
def strV : Value → Option Str
  | .str x _ => some x
  | _ => none
def tupB (K : PySem.W.Frag) (a : Addr) (xs : List Str) : Bool := match K.lookup a with
  | some ⟨.type c, _, .seq its _, _⟩ => decide (c = "tuple") && (decide (its.toList.map strV = xs.map some) && decide (xs.length ≤ 100))
  | _ => false
theorem vals_strs : ∀ {us : List Value} {xs : List Str}, us.map strV = xs.map some → Vals (xs.map V.str) us
  | [], [], _ => .nil
  | [], _ :: _, h => by cases h
  | _ :: _, [], h => by cases h
  | u :: us, x :: xs, h => by
    rw [List.map_cons, List.map_cons] at h
    injection h with h1 h2
    refine .cons ?_ (vals_strs h2)
    unfold strV at h1
    split at h1
    · rename_i y t
      cases h1
      exact ⟨t, rfl⟩
    · cases h1
theorem tupB_ok {K : PySem.W.Frag} {a : Addr} {xs : List Str} (h : tupB K a xs = true) (H : Hp) : SqT K H a (xs.map V.str) := by
  unfold tupB at h
  split at h
  · rename_i c od its n sl hk
    rw [Bool.and_eq_true, Bool.and_eq_true] at h
    obtain ⟨h1, h2, h3⟩ := h
    have e := of_decide_eq_true h1
    subst e
    have e2 := of_decide_eq_true h2
    have e3 := of_decide_eq_true h3
    refine .inr ⟨_, its, n, hk, rfl, rfl, ?_, vals_strs e2⟩
    have l := congrArg List.length e2
    rw [List.length_map, List.length_map, Array.length_toList] at l
    rw [l]
    exact Nat.le_trans e3 (by decide)
  · cases h
def exmB (K : PySem.W.Frag) (a b : Addr) (r : Bool) : Bool := decide (PySem.W.exmOne K (.ref a) (.ref b) = some r)
/-- the six kinds that FOLLOWERS knows -/
def six : List (Option Kd) := [none, some .fn, some .op, some .cm, some .at, some .cl]
def fol6 : List Str := ["start", "function", "(", ", ", "atom", ")"]
def folB (K : PySem.W.Frag) (d : Addr) : Bool := six.all fun a => match PySem.W.nsIn K d (prS a) with
  | some (some (.ref t)) => tupB K t (folL a)
  | _ => false
theorem folB_ok {K : PySem.W.Frag} {d : Addr} (h : folB K d = true) (a : Option Kd) (ha : a ≠ some .wr) : ∃ t, PySem.W.nsIn K d (prS a) = some (some (.ref t)) ∧ ∀ H, SqT K H t ((folL a).map V.str) := by
  have m : a ∈ six := by
    cases a with
    | none => decide
    | some k => cases k <;> first | (exact absurd rfl ha) | decide
  have := List.all_eq_true.mp h a m
  split at this
  · rename_i t e
    exact ⟨t, e, fun H => tupB_ok this H⟩
  · cases this
def kinB (K : PySem.W.Frag) (c0 c1 c2 c3 c4 c5 c6 c7 : Addr) : Bool := exmB K c0 c0 true && (exmB K c3 c0 false && (exmB K c3 c1 false && (exmB K c3 c2 false && (exmB K c3 c3 true &&
  (exmB K c7 c0 false && (exmB K c7 c1 false && (exmB K c7 c2 false && (exmB K c7 c3 false && (exmB K c7 c4 false && (exmB K c7 c5 false && (exmB K c7 c6 false && exmB K c7 c7 true)))))))))))
theorem kinB_ok {K : PySem.W.Frag} {c : Nat → Addr} (h : kinB K (c 0) (c 1) (c 2) (c 3) (c 4) (c 5) (c 6) (c 7) = true) (x : XfC K (c 7)) (n : PySem.W.findIn K (.ref (c 7)) "value" = some none) : MetY K c := by
  unfold kinB exmB at h
  simp only [Bool.and_eq_true, decide_eq_true_eq] at h
  obtain ⟨h1, h2, h3, h4, h5, h6, h7, h8, h9, h10, h11, h12, h13⟩ := h
  exact ⟨h1, h2, h3, h4, h5, h6, h7, h8, h9, h10, h11, h12, h13, x, n⟩
/-- what stands behind the top -/
structure Top1 (K : PySem.W.Frag) (w : World) (c g : Nat → Addr) (f0 f9 cc dF aW : Addr) : Prop where
  c0 : PySem.W.nsIn K mainGlobals "InvalidValue" = some (some (.ref (c 0)))
  c1 : PySem.W.nsIn K mainGlobals "InvalidStretch" = some (some (.ref (c 1)))
  c2 : PySem.W.nsIn K mainGlobals "InvalidProgram" = some (some (.ref (c 2)))
  c3 : PySem.W.nsIn K mainGlobals "InvalidOperation" = some (some (.ref (c 3)))
  c4 : PySem.W.nsIn K mainGlobals "ParseError" = some (some (.ref (c 4)))
  c5 : PySem.W.nsIn K mainGlobals "UnknownName" = some (some (.ref (c 5)))
  c6 : PySem.W.nsIn K mainGlobals "Unanswered" = some (some (.ref (c 6)))
  c7 : PySem.W.nsIn K mainGlobals "InvalidNumber" = some (some (.ref (c 7)))
  c8 : PySem.W.nsIn K mainGlobals "TooMany" = some (some (.ref (c 8)))
  c9 : PySem.W.nsIn K mainGlobals "NothingToUndo" = some (some (.ref (c 9)))
  c10 : PySem.W.nsIn K mainGlobals "Refused" = some (some (.ref (c 10)))
  iMAX_LETTERS : ∃ t, PySem.W.nsIn K mainGlobals "MAX_LETTERS" = some (some (.int 8 t))
  iMAX_UNKNOWN : ∃ t, PySem.W.nsIn K mainGlobals "MAX_UNKNOWN" = some (some (.int 999 t))
  iMAX_ARGUMENTS : ∃ t, PySem.W.nsIn K mainGlobals "MAX_ARGUMENTS" = some (some (.int 2 t))
  lets : ∃ t, PySem.W.nsIn K mainGlobals "LETTERS" = some (some (.str alphabet t))
  digs : ∃ t, PySem.W.nsIn K mainGlobals "DIGITS" = some (some (.str digits t))
  words : PySem.W.nsIn K mainGlobals "WORDS" = some (some (.ref aW))
  wordsT : tupB K aW words6 = true
  fol : PySem.W.nsIn K mainGlobals "FOLLOWERS" = some (some (.ref dF))
  folD : He.dicW K dF = some (He.keysIn w.params fol6)
  folV : folB K dF = true
  folW : PySem.W.nsIn K dF "wrong" = some none
  k0 : KCls K (c 0) f0 "ValueError" []
  k3 : KCls K (c 3) f0 "ValueError" []
  k7 : KCls K (c 7) f9 "RuntimeError" ["value"]
  m0 : HasM K f0
  h9 : HasFn K "__init__" "InvalidNumber.__init__" sNI f9
  bV : PySem.W.findCls K (.type "ValueError") (.type "type") "__init__" = some (.val (.builtin "ValueError.__init__"))
  bR : PySem.W.findCls K (.type "RuntimeError") (.type "type") "__init__" = some (.val (.builtin "RuntimeError.__init__"))
  kin : kinB K (c 0) (c 1) (c 2) (c 3) (c 4) (c 5) (c 6) (c 7) = true
  xf : xfB K (c 7) = true
  xno : PySem.W.findIn K (.ref (c 7)) "value" = some none
  nn : freeB K = true
  n13 : PySem.W.nsIn K mainGlobals "_copied" = some (some (.ref (g 13)))
  h13 : HasFn K "_copied" "_copied" (top 13) (g 13)
  n22 : PySem.W.nsIn K mainGlobals "is_number" = some (some (.ref (g 22)))
  h22 : HasFn K "is_number" "is_number" (top 22) (g 22)
  n23 : PySem.W.nsIn K mainGlobals "is_whole" = some (some (.ref (g 23)))
  h23 : HasFn K "is_whole" "is_whole" (top 23) (g 23)
  n24 : PySem.W.nsIn K mainGlobals "is_name" = some (some (.ref (g 24)))
  h24 : HasFn K "is_name" "is_name" (top 24) (g 24)
  n25 : PySem.W.nsIn K mainGlobals "is_set" = some (some (.ref (g 25)))
  h25 : HasFn K "is_set" "is_set" (top 25) (g 25)
  n26 : PySem.W.nsIn K mainGlobals "is_value" = some (some (.ref (g 26)))
  h26 : HasFn K "is_value" "is_value" (top 26) (g 26)
  n27 : PySem.W.nsIn K mainGlobals "unknown" = some (some (.ref (g 27)))
  h27 : HasFn K "unknown" "unknown" (top 27) (g 27)
  n28 : PySem.W.nsIn K mainGlobals "applied" = some (some (.ref (g 28)))
  h28 : HasFn K "applied" "applied" (top 28) (g 28)
  n29 : PySem.W.nsIn K mainGlobals "written" = some (some (.ref (g 29)))
  h29 : HasFn K "written" "written" (top 29) (g 29)
  n30 : PySem.W.nsIn K mainGlobals "parts" = some (some (.ref (g 30)))
  h30 : HasFn K "parts" "parts" (top 30) (g 30)
  n31 : PySem.W.nsIn K mainGlobals "atoms" = some (some (.ref (g 31)))
  h31 : HasFn K "atoms" "atoms" (top 31) (g 31)
  n32 : PySem.W.nsIn K mainGlobals "_check_value" = some (some (.ref (g 32)))
  h32 : HasFn K "_check_value" "_check_value" (top 32) (g 32)
  n33 : PySem.W.nsIn K mainGlobals "_pieces" = some (some (.ref (g 33)))
  h33 : HasFn K "_pieces" "_pieces" (top 33) (g 33)
  n34 : PySem.W.nsIn K mainGlobals "_kinds" = some (some (.ref (g 34)))
  h34 : HasFn K "_kinds" "_kinds" (top 34) (g 34)
  n35 : PySem.W.nsIn K mainGlobals "_kind" = some (some (.ref (g 35)))
  h35 : HasFn K "_kind" "_kind" (top 35) (g 35)
  n36 : PySem.W.nsIn K mainGlobals "_is_atom" = some (some (.ref (g 36)))
  h36 : HasFn K "_is_atom" "_is_atom" (top 36) (g 36)
  n37 : PySem.W.nsIn K mainGlobals "_is_written_number" = some (some (.ref (g 37)))
  h37 : HasFn K "_is_written_number" "_is_written_number" (top 37) (g 37)
  n38 : PySem.W.nsIn K mainGlobals "_is_in_turn" = some (some (.ref (g 38)))
  h38 : HasFn K "_is_in_turn" "_is_in_turn" (top 38) (g 38)
  n39 : PySem.W.nsIn K mainGlobals "_is_nested" = some (some (.ref (g 39)))
  h39 : HasFn K "_is_nested" "_is_nested" (top 39) (g 39)
  n40 : PySem.W.nsIn K mainGlobals "_divided" = some (some (.ref (g 40)))
  h40 : HasFn K "_divided" "_divided" (top 40) (g 40)
  n42 : PySem.W.nsIn K mainGlobals "_law_dice" = some (some (.ref (g 42)))
  h42 : HasFn K "_law_dice" "_law_dice" (top 42) (g 42)
  n43 : PySem.W.nsIn K mainGlobals "_law_roll" = some (some (.ref (g 43)))
  h43 : HasFn K "_law_roll" "_law_roll" (top 43) (g 43)
  n44 : PySem.W.nsIn K mainGlobals "_law_one_of" = some (some (.ref (g 44)))
  h44 : HasFn K "_law_one_of" "_law_one_of" (top 44) (g 44)
  n45 : PySem.W.nsIn K mainGlobals "_law_met" = some (some (.ref (g 45)))
  h45 : HasFn K "_law_met" "_law_met" (top 45) (g 45)
  n46 : PySem.W.nsIn K mainGlobals "_law_end" = some (some (.ref (g 46)))
  h46 : HasFn K "_law_end" "_law_end" (top 46) (g 46)
  n47 : PySem.W.nsIn K mainGlobals "_law_is_value" = some (some (.ref (g 47)))
  h47 : HasFn K "_law_is_value" "_law_is_value" (top 47) (g 47)
  n48 : PySem.W.nsIn K mainGlobals "_law_is_name" = some (some (.ref (g 48)))
  h48 : HasFn K "_law_is_name" "_law_is_name" (top 48) (g 48)
  n49 : PySem.W.nsIn K mainGlobals "_law_is_set" = some (some (.ref (g 49)))
  h49 : HasFn K "_law_is_set" "_law_is_set" (top 49) (g 49)
  n50 : PySem.W.nsIn K mainGlobals "_law_drawn" = some (some (.ref (g 50)))
  h50 : HasFn K "_law_drawn" "_law_drawn" (top 50) (g 50)
  n51 : PySem.W.nsIn K mainGlobals "_law_text" = some (some (.ref (g 51)))
  h51 : HasFn K "_law_text" "_law_text" (top 51) (g 51)
  n52 : PySem.W.nsIn K mainGlobals "_law_atoms" = some (some (.ref (g 52)))
  h52 : HasFn K "_law_atoms" "_law_atoms" (top 52) (g 52)
  n53 : PySem.W.nsIn K mainGlobals "_law_near" = some (some (.ref (g 53)))
  h53 : HasFn K "_law_near" "_law_near" (top 53) (g 53)
  n54 : PySem.W.nsIn K mainGlobals "_law_right" = some (some (.ref (g 54)))
  h54 : HasFn K "_law_right" "_law_right" (top 54) (g 54)
  n55 : PySem.W.nsIn K mainGlobals "_law_refused" = some (some (.ref (g 55)))
  h55 : HasFnC K "_law_refused" "_law_refused" (top 55) (g 55) cc
  n56 : PySem.W.nsIn K mainGlobals "law" = some (some (.ref (g 56)))
  h56 : HasFn K "law" "law" (top 56) (g 56)
theorem all_mk1 {l : PySem.W.OpenLaw} {w : World} {K : PySem.W.Frag} {h : Heap} {mg : Str → Option Value} {fa : Addr} {c g : Nat → Addr} {f0 f9 cc dF aW PR : Addr} (X : K.In h) (G : h.Ns mainGlobals mg) (hfa : mg "law" = some (.ref fa)) (T : Top1 K w c g f0 f9 cc dF aW) :
    ∃ gd : FuncData, (∀ (s : Shared) (u : Value), BindsTo s gd ⟨[u], []⟩ [("_law_script", u)]) ∧ ∀ base : Heap, K.In base → base.Ns mainGlobals mg → (∃ o, base.get? sysModules = some o) → TabB base mg cc PR → GFn l.prog w K mg base 25 fa gd ["_law_script"] (spLaw1 K [(PR, lamRf)]) := by
  have gl : ∀ {x : Str} {u : Value}, PySem.W.nsIn K mainGlobals x = some (some u) → mg x = some u := fun e => PySem.W.mg_of X G e
  obtain rfl : g 56 = fa := by
    have e := hfa.symm.trans (gl T.n56)
    cases e
    rfl
  have no : ∀ x, x ∈ freeN → mg x = none := free_of X G T.nn
  obtain ⟨e13, E13⟩ := T.h13
  have r13 := E13.binds (ps := ["value"]) fun _ _ _ _ _ _ us hl => match us, hl with | [_], _ => rfl
  obtain ⟨e22, E22⟩ := T.h22
  have r22 := E22.binds (ps := ["value", "low", "high"]) fun _ _ _ _ _ _ us hl => match us, hl with | [_, _, _], _ => rfl
  obtain ⟨e23, E23⟩ := T.h23
  have r23 := E23.binds (ps := ["value"]) fun _ _ _ _ _ _ us hl => match us, hl with | [_], _ => rfl
  obtain ⟨e24, E24⟩ := T.h24
  have r24 := E24.binds (ps := ["value"]) fun _ _ _ _ _ _ us hl => match us, hl with | [_], _ => rfl
  obtain ⟨e25, E25⟩ := T.h25
  have r25 := E25.binds (ps := ["value"]) fun _ _ _ _ _ _ us hl => match us, hl with | [_], _ => rfl
  obtain ⟨e26, E26⟩ := T.h26
  have r26 := E26.binds (ps := ["value"]) fun _ _ _ _ _ _ us hl => match us, hl with | [_], _ => rfl
  obtain ⟨e27, E27⟩ := T.h27
  have r27 := E27.binds (ps := ["name", "number"]) fun _ _ _ _ _ _ us hl => match us, hl with | [_, _], _ => rfl
  obtain ⟨e28, E28⟩ := T.h28
  obtain ⟨e29, E29⟩ := T.h29
  have r29 := E29.binds (ps := ["function", "values"]) fun _ _ _ _ _ _ us hl => match us, hl with | [_, _], _ => rfl
  obtain ⟨e30, E30⟩ := T.h30
  have r30 := E30.binds (ps := ["value"]) fun _ _ _ _ _ _ us hl => match us, hl with | [_], _ => rfl
  obtain ⟨e31, E31⟩ := T.h31
  have r31 := E31.binds (ps := ["value"]) fun _ _ _ _ _ _ us hl => match us, hl with | [_], _ => rfl
  obtain ⟨e32, E32⟩ := T.h32
  have r32 := E32.binds (ps := ["value"]) fun _ _ _ _ _ _ us hl => match us, hl with | [_], _ => rfl
  obtain ⟨e33, E33⟩ := T.h33
  have r33 := E33.binds (ps := ["text"]) fun _ _ _ _ _ _ us hl => match us, hl with | [_], _ => rfl
  obtain ⟨e34, E34⟩ := T.h34
  have r34 := E34.binds (ps := ["pieces"]) fun _ _ _ _ _ _ us hl => match us, hl with | [_], _ => rfl
  obtain ⟨e35, E35⟩ := T.h35
  have r35 := E35.binds (ps := ["piece", "after"]) fun _ _ _ _ _ _ us hl => match us, hl with | [_, _], _ => rfl
  obtain ⟨e36, E36⟩ := T.h36
  have r36 := E36.binds (ps := ["word"]) fun _ _ _ _ _ _ us hl => match us, hl with | [_], _ => rfl
  obtain ⟨e37, E37⟩ := T.h37
  have r37 := E37.binds (ps := ["text"]) fun _ _ _ _ _ _ us hl => match us, hl with | [_], _ => rfl
  obtain ⟨e38, E38⟩ := T.h38
  have r38 := E38.binds (ps := ["kinds"]) fun _ _ _ _ _ _ us hl => match us, hl with | [_], _ => rfl
  obtain ⟨e39, E39⟩ := T.h39
  have r39 := E39.binds (ps := ["kinds"]) fun _ _ _ _ _ _ us hl => match us, hl with | [_], _ => rfl
  obtain ⟨e40, E40⟩ := T.h40
  have r40 := E40.binds (ps := ["inside"]) fun _ _ _ _ _ _ us hl => match us, hl with | [_], _ => rfl
  obtain ⟨e42, E42⟩ := T.h42
  have r42 := E42.binds (ps := ["_law_script", "_law_at"]) fun _ _ _ _ _ _ us hl => match us, hl with | [_, _], _ => rfl
  obtain ⟨e43, E43⟩ := T.h43
  have r43 := E43.binds (ps := ["_law_dice_here", "_law_total"]) fun _ _ _ _ _ _ us hl => match us, hl with | [_, _], _ => rfl
  obtain ⟨e44, E44⟩ := T.h44
  have r44 := E44.binds (ps := ["_law_dice_here", "_law_items"]) fun _ _ _ _ _ _ us hl => match us, hl with | [_, _], _ => rfl
  obtain ⟨e45, E45⟩ := T.h45
  have r45 := E45.binds (ps := ["_law_call"]) fun _ _ _ _ _ _ us hl => match us, hl with | [_], _ => rfl
  obtain ⟨e46, E46⟩ := T.h46
  have r46 := E46.binds (ps := ["_law_text_here", "_law_at"]) fun _ _ _ _ _ _ us hl => match us, hl with | [_, _], _ => rfl
  obtain ⟨e47, E47⟩ := T.h47
  have r47 := E47.binds (ps := ["_law_thing"]) fun _ _ _ _ _ _ us hl => match us, hl with | [_], _ => rfl
  obtain ⟨e48, E48⟩ := T.h48
  have r48 := E48.binds (ps := ["_law_thing"]) fun _ _ _ _ _ _ us hl => match us, hl with | [_], _ => rfl
  obtain ⟨e49, E49⟩ := T.h49
  have r49 := E49.binds (ps := ["_law_thing"]) fun _ _ _ _ _ _ us hl => match us, hl with | [_], _ => rfl
  obtain ⟨e50, E50⟩ := T.h50
  have r50 := E50.binds (ps := ["_law_dice_here", "_law_deep"]) fun _ _ _ _ _ _ us hl => match us, hl with | [_, _], _ => rfl
  obtain ⟨e51, E51⟩ := T.h51
  have r51 := E51.binds (ps := ["_law_tree"]) fun _ _ _ _ _ _ us hl => match us, hl with | [_], _ => rfl
  obtain ⟨e52, E52⟩ := T.h52
  have r52 := E52.binds (ps := ["_law_tree"]) fun _ _ _ _ _ _ us hl => match us, hl with | [_], _ => rfl
  obtain ⟨e53, E53⟩ := T.h53
  have r53 := E53.binds (ps := ["_law_dice_here", "_law_text_here"]) fun _ _ _ _ _ _ us hl => match us, hl with | [_, _], _ => rfl
  obtain ⟨e54, E54⟩ := T.h54
  have r54 := E54.binds (ps := ["_law_dice_here"]) fun _ _ _ _ _ _ us hl => match us, hl with | [_], _ => rfl
  obtain ⟨e55, E55⟩ := T.h55
  have r55 := E55.fn.binds (ps := ["_law_dice_here"]) fun _ _ _ _ _ _ us hl => match us, hl with | [_], _ => rfl
  obtain ⟨e56, E56⟩ := T.h56
  have r56 := E56.binds (ps := ["_law_script"]) fun _ _ _ _ _ _ us hl => match us, hl with | [_], _ => rfl
  obtain ⟨d9, F9⟩ := T.h9
  have b9 := F9.binds (ps := ["self", "value"]) fun _ _ _ _ _ _ us hl => match us, hl with | [_, _], _ => rfl
  obtain ⟨d0, F0⟩ := T.m0
  have b0 : Binds K d0 ["self", "why"] [] := by
    obtain ⟨ds, hv, hb⟩ := F0.binds1 (ps := ["self", "why"]) 2 1 (by simp) rfl fun T kV doc pm an cdv ct us its h1 h2 => match us, its, h1, h2 with
      | [_, _], [_], _, _ => ⟨_, rfl, rfl⟩
    cases hv
    exact hb
  have gi : ∀ {x : Str} {i : Int}, (∃ t, PySem.W.nsIn K mainGlobals x = some (some (.int i t))) → ∃ t, mg x = some (.int i t) := fun ⟨t, e⟩ => ⟨t, gl e⟩
  have TD : TxtD mg := ⟨no _ (by decide), no _ (by decide), no _ (by decide)⟩
  have TC : TxtC mg := ⟨no _ (by decide), no _ (by decide), no _ (by decide), no _ (by decide)⟩
  have WD : ∃ a, mg "WORDS" = some (.ref a) ∧ ∀ H, SqT K H a (words6.map V.str) := ⟨aW, gl T.words, fun H => tupB_ok T.wordsT H⟩
  have TN : TxtN K mg := ⟨no _ (by decide), no _ (by decide), no _ (by decide), no _ (by decide), gi T.iMAX_LETTERS, by
    obtain ⟨t, e⟩ := T.lets
    exact ⟨t, gl e⟩, WD⟩
  have DG : ∃ t, mg "DIGITS" = some (.str digits t) := by
    obtain ⟨t, e⟩ := T.digs
    exact ⟨t, gl e⟩
  have FF : FollF K w mg := by
    obtain ⟨es, n, kd⟩ := He.dicW_ok T.folD
    exact ⟨dF, es, n, gl T.fol, kd, fun a ha => folB_ok T.folV a ha, T.folW⟩
  have CP : CopF K mg (g 13) e13 := ⟨E13, TC, gl T.n13, r13⟩
  have DF : DiceF K mg (g 43) (g 44) e43 e44 := ⟨E43, E44, gl T.n43, gl T.n44, r43, r44, TD⟩
  have MM : MetK mg c := ⟨gl T.c0, gl T.c1, gl T.c2, gl T.c3, gl T.c4, gl T.c5, gl T.c6, gl T.c7, gl T.c8, gl T.c9, gl T.c10⟩
  have MX : MetY K c := kinB_ok T.kin (xfB_ok T.xf) T.xno
  refine ⟨e56, fun s u => ?_, fun base KB GB hs TR => ?_⟩
  · obtain ⟨oc, od, kV, doc, pm, an, cv, ct, osl, rfl, lk, hcd⟩ := E56.ex
    exact .of_eq rfl
  · have G24 : FnOk l.prog w K mg base CX0 1 (g 24) e24 ["value"] spName := ok_isname E24 TN
    have G25 : FnOk l.prog w K mg base CX0 2 (g 25) e25 ["value"] spSet := ok_isset E25 TN (no _ (by decide)) (no _ (by decide)) (gl T.n24) E24 r24
    have G33 : FnOk l.prog w K mg base CX0 1 (g 33) e33 ["text"] spPieces := ok_pieces E33
    have G37 : FnOk l.prog w K mg base CX0 1 (g 37) e37 ["text"] spNum := ok_wrnum E37 (no _ (by decide)) DG
    have G36 : FnOk l.prog w K mg base CX0 2 (g 36) e36 ["word"] spAtom := ok_atom E36 (gl T.n24) E24.kp r24 G24 (gl T.n37) E37.kp r37 G37
    have G35 : FnOk l.prog w K mg base CX0 3 (g 35) e35 ["piece", "after"] spKind := ok_kindP E35 (gl T.n24) E24.kp r24 G24 (gl T.n36) E36.kp r36 G36
    have G34 : FnOk l.prog w K mg base CX0 4 (g 34) e34 ["pieces"] spKinds := ok_kinds E34 (no _ (by decide)) (gl T.n35) E35.kp r35 G35
    have G38 : FnOk l.prog w K mg base CX0 1 (g 38) e38 ["kinds"] spTurn := ok_turn E38 (no _ (by decide)) (no _ (by decide)) FF
    have G39 : FnOk l.prog w K mg base CX0 1 (g 39) e39 ["kinds"] spNest := ok_nestP E39 (gi T.iMAX_ARGUMENTS)
    have G26 : FnOk l.prog w K mg base CX0 5 (g 26) e26 ["value"] spVal := ok_isval E26 (no _ (by decide)) (no _ (by decide)) (gl T.n33) E33.kp r33 G33 (gl T.n34) E34.kp r34 G34 (gl T.n38) E38.kp r38 G38 (gl T.n39) E39.kp r39 G39
    have GI0 : FnOk l.prog w K mg base CX0 1 f0 d0 ["self", "why"] (spI0 K "ValueError") := ok_iM F0 ⟨no _ (by decide), T.bV⟩
    have GI9 : FnOk l.prog w K mg base CX0 6 f9 d9 ["self", "value"] (spI1 K "RuntimeError" "value" 4) := ok_i9 F9 CP ⟨no _ (by decide), T.bR⟩
    have G22 : FnOk l.prog w K mg base CX0 2 (g 22) e22 ["value", "low", "high"] spNumD := ok_numD E22 (gl T.n23) E23.kp r23 (ok_wholeD E23 (no _ (by decide)) (no _ (by decide)) (no _ (by decide)))
    have G32 : FnOk l.prog w K mg base (L2.CX l.prog w) 6 (g 32) e32 ["value"] (spCheck (c 0)) := ok_check (k := 3) E32 T.k0 (gl T.c0) GI0 b0 (gl T.n26) E26.kp r26 G26
    have G40 : FnOk l.prog w K mg base CX0 1 (g 40) e40 ["inside"] spDiv := ok_divided E40 (no _ (by decide))
    have G30 : FnOk l.prog w K mg base (L2.CX l.prog w) 7 (g 30) e30 ["value"] (spParts (c 0)) := ok_parts (k := 5) E30 (gl T.n32) E32.kp r32 G32 (gl T.n40) E40.kp r40 G40
    have G31 : FnOk l.prog w K mg base (L2.CX l.prog w) 7 (g 31) e31 ["value"] (spAtoms (c 0)) := ok_atoms (k := 2) E31 (no _ (by decide)) (no _ (by decide)) (no _ (by decide)) (gl T.n32) E32.kp r32 G32 (gl T.n33) E33.kp r33 G33 (gl T.n34) E34.kp r34 G34
    have G27 : FnOk l.prog w K mg base (L2.CX l.prog w) 8 (g 27) e27 ["name", "number"] (spUnk (c 3) (c 7)) := ok_unknown E27 (gi T.iMAX_UNKNOWN) T.k3 (gl T.c3) GI0 b0 T.k7 (gl T.c7) GI9 b9 (gl T.n24) E24.kp r24 G24 (gl T.n22) E22.kp r22 G22
    have G29 : FnOk l.prog w K mg base CX0 1 (g 29) e29 ["function", "values"] (spWritten K) := ok_written E29
    have G28 : FnR l.prog w K mg base (L2.CX l.prog w) 6 (g 28) (spApp K (c 3) (c 0)) := ok_applied (k := 3) E28 (gi T.iMAX_ARGUMENTS) (no _ (by decide)) (no _ (by decide)) T.k3 (gl T.c3) T.k0 (gl T.c0) GI0 b0 (gl T.n24) E24.kp r24 G24 (gl T.n26) E26.kp r26 G26 (gl T.n29) E29.kp r29 G29
    have PF : ProgF l.prog w K mg base (c 3) (c 7) (c 0) := {
      name := ⟨g 24, e24, gl T.n24, E24.kp, r24, G24⟩
      set := ⟨g 25, e25, gl T.n25, E25.kp, r25, G25⟩
      val := ⟨g 26, e26, gl T.n26, E26.kp, r26, G26⟩
      parts := ⟨g 30, e30, gl T.n30, E30.kp, r30, G30.mono (by decide)⟩
      atoms := ⟨g 31, e31, gl T.n31, E31.kp, r31, G31.mono (by decide)⟩
      unk := ⟨g 27, e27, gl T.n27, E27.kp, r27, G27⟩
      app := ⟨g 28, gl T.n28, E28.kp, G28.mono (by decide)⟩ }
    have G46 : FnOk l.prog w K mg base CX0 20 (g 46) e46 ["_law_text_here", "_law_at"] (spEnd 20) := end_all E46 (no _ (by decide)) (no _ (by decide)) (no _ (by decide)) (gl T.n46) r46 20
    have G47 : FnOk l.prog w K mg base CX0 21 (g 47) e47 ["_law_thing"] (spLVal 20) := ok_lval E47 (no _ (by decide)) (no _ (by decide)) (no _ (by decide)) (gl T.n46) E46.kp r46 G46
    have G48 : FnOk l.prog w K mg base CX0 22 (g 48) e48 ["_law_thing"] (spLName 20) := ok_lname E48 (gl T.n47) E47.kp r47 G47
    have G49 : FnOk l.prog w K mg base CX0 23 (g 49) e49 ["_law_thing"] (spLSet 20) := ok_lset E49 (no _ (by decide)) (no _ (by decide)) (no _ (by decide)) (no _ (by decide)) (no _ (by decide)) (gl T.n48) E48.kp r48 G48
    have LF : LawF1 l.prog w K mg base := {
      dice := ⟨_, _, _, _, DF⟩
      drawn := ⟨g 50, e50, gl T.n50, E50.kp, r50, ok_drawn E50 DF (no _ (by decide)) (no _ (by decide)) (gl T.n50) r50⟩
      text := ⟨g 51, e51, gl T.n51, E51.kp, r51, ok_text E51 (no _ (by decide)) (no _ (by decide)) (gl T.n51) r51⟩
      latoms := ⟨g 52, e52, gl T.n52, E52.kp, r52, ok_latoms E52 (no _ (by decide)) (no _ (by decide)) (gl T.n52) r52⟩
      near := ⟨g 53, e53, gl T.n53, E53.kp, r53, ok_near E53 DF⟩
      lval := ⟨g 47, e47, gl T.n47, E47.kp, r47, G47⟩
      lname := ⟨g 48, e48, gl T.n48, E48.kp, r48, G48⟩
      lset := ⟨g 49, e49, gl T.n49, E49.kp, r49, G49⟩ }
    have BF : BltF mg := ⟨no _ (by decide), no _ (by decide), no _ (by decide), no _ (by decide), no _ (by decide), no _ (by decide)⟩
    have MF : MetF l.prog w K mg base c := ⟨⟨g 45, e45, gl T.n45, E45, r45⟩, MM, MX⟩
    have G54 : GFn l.prog w K mg base 24 (g 54) e54 ["_law_dice_here"] spRight1 := ok_right1 E54 PF LF BF hs
    have G55 : GFn l.prog w K mg base 24 (g 55) e55 ["_law_dice_here"] (spRefused [(PR, lamRf)]) := ok_refused (List.mem_cons_self ..) (fun p hp e => by
      rcases List.mem_cons.mp hp with rfl | hp
      · rfl
      · cases hp) E55 PF LF (no _ (by decide)) MF TR hs
    exact ok_law1 E56 {
      R := PF
      dice := ⟨g 42, e42, gl T.n42, E42.kp, r42, ok_dice E42 TD⟩
      right := ⟨g 54, e54, gl T.n54, E54.kp, r54, G54⟩
      ref := ⟨g 55, e55, gl T.n55, E55.fn.kp, r55, G55⟩
      max := no _ (by decide)
      min := no _ (by decide)
      len := no _ (by decide)
      rng := no _ (by decide)
      ml := gi T.iMAX_LETTERS
      wd := WD }
end OM

namespace OM
open PySem PySem.Spec PyProof.Rows L2 LamX VL
theorem fn_mk3 {K : PySem.W.Frag} {x qual : Str} {st : Stmt} {f : Addr} {oc : Value} {od an : Option Addr} {osl : Array (Option Value)} {kV doc pm cdv ct : Value}
    (l : K.lookup f = some ⟨oc, od, .func (PySem.W.fnOf x qual (defArgs st) (defBody st) (defScope st) .none kV doc pm an cdv ct), osl⟩) (c : PySem.W.codeIn K cdv qual = true) (k : PySem.W.keepIn K (.ref f) = true) : HasFn K x qual st f := ⟨_, fun_mk l c k⟩
theorem fc_mk3 {K : PySem.W.Frag} {x qual : Str} {st : Stmt} {f cc : Addr} {oc : Value} {od an : Option Addr} {osl : Array (Option Value)} {kV doc pm ct : Value}
    (l : K.lookup f = some ⟨oc, od, .func (PySem.W.fnOf x qual (defArgs st) (defBody st) (defScope st) .none kV doc pm an (.ref cc) ct), osl⟩) (c : PySem.W.codeIn K (.ref cc) qual = true) (k : PySem.W.keepIn K (.ref f) = true) : HasFnC K x qual st f cc := ⟨_, ⟨⟨_, _, _, _, _, _, _, _, rfl, l, c⟩, k⟩⟩
theorem m_mk3 {K : PySem.W.Frag} {f T : Addr} {oc tc : Value} {od an td : Option Addr} {osl tsl : Array (Option Value)} {kV doc pm cdv ct : Value} {tk : Tok} {n : Nat}
    (l : K.lookup f = some ⟨oc, od, .func (PySem.W.fnOf "__init__" "MoveError.__init__" (defArgs sMI) (defBody sMI) (defScope sMI) (.ref T) kV doc pm an cdv ct), osl⟩) (c : PySem.W.codeIn K cdv "MoveError.__init__" = true)
    (k : PySem.W.keepIn K (.ref f) = true) (lt : K.lookup T = some ⟨tc, td, .seq #[.str "" tk] n, tsl⟩) : HasM K f :=
  ⟨_, ⟨⟨_, _, _, _, _, _, _, _, _, _, rfl, l, c, .inr ⟨fun z => (nomatch z), T, _, [.str "" tk], n, rfl, lt, rfl, .cons ⟨tk, rfl⟩ .nil⟩, .inl rfl⟩, k⟩⟩
section
variable {K : PySem.W.Frag} {C fI : Addr} {B nI iI : String} {tail : List Value} {nq q : Str} {N : Addr} {bs bm : List Value} {sn : List Str} {sub : List Value} {ab : Bool} {col : Option Bool} {dd : Option Addr} {k0 k1 k2 k3 k5 : Option Value} {x y : Str}
theorem kc_mk3 (Y : BaseX B nI iI tail) (lk : K.lookup C = some (excClassObj nq q C N bs bm true sn sub ab col dd k0 k1 k2 k3 k5 nI)) (rt : refsT tail bm = true) (sa : PySem.W.findIn K (.ref C) "__setattr__" = some (some (.builtin "object.__setattr__")))
    (ex : PySem.W.subIn K (.ref C) (.type "BaseException") = some true) (ty : PySem.W.typeIn K (.ref C) = some (.type "type")) (kp : PySem.W.keepIn K (.ref C) = true) (ic : PySem.W.findIn K (.ref C) "__init__" = some (some (.ref fI)))
    (ti : PySem.W.typeIn K (.ref fI) = some (.type "function")) (hb : tail.contains (.type B) = true) : KCls K C fI B [] :=
  ⟨⟨tail, ⟨⟨⟨_, _, _, _, _, _, _, _, _, _, _, _, _, _, _, _, _, _, Y, lk, rt⟩, sa, ex, ty, kp⟩, ic, ti⟩, hb⟩, fun _ h => (nomatch h)⟩
theorem kc_mk6 {x : Str} (Y : BaseX B nI iI tail) (lk : K.lookup C = some (excClassObj nq q C N bs bm true sn sub ab col dd k0 k1 k2 k3 k5 nI)) (rt : refsT tail bm = true) (sa : PySem.W.findIn K (.ref C) "__setattr__" = some (some (.builtin "object.__setattr__")))
    (ex : PySem.W.subIn K (.ref C) (.type "BaseException") = some true) (ty : PySem.W.typeIn K (.ref C) = some (.type "type")) (kp : PySem.W.keepIn K (.ref C) = true) (ic : PySem.W.findIn K (.ref C) "__init__" = some (some (.ref fI)))
    (ti : PySem.W.typeIn K (.ref fI) = some (.type "function")) (hb : tail.contains (.type B) = true) (hx : PySem.W.findIn K (.ref C) x = some none) : KCls K C fI B [x] :=
  ⟨⟨tail, ⟨⟨⟨_, _, _, _, _, _, _, _, _, _, _, _, _, _, _, _, _, _, Y, lk, rt⟩, sa, ex, ty, kp⟩, ic, ti⟩, hb⟩, fun f h => by
    rw [List.mem_singleton.mp h]
    exact hx⟩
end
theorem hd_mk {K : PySem.W.Frag} {c P : Addr} {o2 : Value} {d2 : Option Addr} {vs : Array Value} {s2 : Array (Option Value)} (h4 : K.lookup c = some ⟨o2, d2, .fields vs, s2⟩) (_h5 : vs[11]? = some (.ref P)) (h : PySem.W.codeHdIn K c P = true) : PySem.W.codeHdIn K c P = true := h
/-- the end with one table, for a promise that asks for no guards -/
theorem walk1 {l : PySem.W.OpenLaw} {q : Program} {loose : List Str} {XP : (Str → Option Value) → Heap → Prop} {YP : World → Heap → Prop} {d : DefRec} {K : Params → PySem.W.Frag} {ts : List Addr} (hn : l.most = some 63) (hdf : d.params.defaults = []) (hi : importsNone q = true) (hd : d.name = "law")
    (hY : ∀ (w : World) (h : Heap), YP w h → (K w.params).In h) (hTs : ∀ (w : World) (h : Heap), YP w h → ∀ P ∈ ts, h.get? P = some (PySem.W.tabObj #[]))
    (T : ∀ w : World, ∃ c g f0 f9 cc dF aW PR, PR ∈ ts ∧ (K w.params).lookup PR = none ∧ PySem.W.codeHdIn (K w.params) cc PR = true ∧ Top1 (K w.params) w c g f0 f9 cc dF aW) : PySem.W.WalkO q loose XP YP l.row.toRowW d [] (fun f vs => PySem.call f vs) := by
  refine walkGs (n := 63) (k := 25) (x := "_law_script") hn (by decide) hdf hi ⟨rfl, by decide, by decide⟩ hY (fun w mg fa h Y KX G hmg => ?_)
  obtain ⟨c, g, f0, f9, cc, dF, aW, PR, m1, l1, k1, t⟩ := T w
  rw [hd] at hmg
  obtain ⟨gd, hb, hF⟩ := all_mk1 (l := l) (PR := PR) KX G hmg t
  refine ⟨gd, [(cc, PR)], spLaw1 (K w.params) [(PR, lamRf)], fun p hp => ?_, fun p hp => ?_, fun p hp => ?_, hb, fun H a ns hl hS hP => ⟨a, ns, rfl, hl, hS, fun p hp => ?_, fun _ => rfl⟩, fun base KB GB hs TBs => hF base KB GB hs (TBs _ (List.mem_cons_self ..))⟩
  · rcases List.mem_cons.mp hp with rfl | hp
    · exact hTs w h Y _ m1
    · cases hp
  · rcases List.mem_cons.mp hp with rfl | hp
    · exact l1
    · cases hp
  · rcases List.mem_cons.mp hp with rfl | hp
    · exact PySem.W.codeHd_of_K KX k1
    · cases hp
  · rcases List.mem_cons.mp hp with rfl | hp
    · exact TabS.nil (hP _ (List.mem_cons_self ..))
    · cases hp
theorem top_mk1 {K : PySem.W.Frag} {w : World} {c0 c1 c2 c3 c4 c5 c6 c7 c8 c9 c10 g13 g22 g23 g24 g25 g26 g27 g28 g29 g30 g31 g32 g33 g34 g35 g36 g37 g38 g39 g40 g42 g43 g44 g45 g46 g47 g48 g49 g50 g51 g52 g53 g54 g55 g56 f0 f9 cc dF aW : Addr} {t_iMAX_LETTERS t_iMAX_UNKNOWN t_iMAX_ARGUMENTS t_lets t_digs : Tok}
    (a_c0 : PySem.W.nsIn K mainGlobals "InvalidValue" = some (some (.ref c0)))
    (a_c1 : PySem.W.nsIn K mainGlobals "InvalidStretch" = some (some (.ref c1)))
    (a_c2 : PySem.W.nsIn K mainGlobals "InvalidProgram" = some (some (.ref c2)))
    (a_c3 : PySem.W.nsIn K mainGlobals "InvalidOperation" = some (some (.ref c3)))
    (a_c4 : PySem.W.nsIn K mainGlobals "ParseError" = some (some (.ref c4)))
    (a_c5 : PySem.W.nsIn K mainGlobals "UnknownName" = some (some (.ref c5)))
    (a_c6 : PySem.W.nsIn K mainGlobals "Unanswered" = some (some (.ref c6)))
    (a_c7 : PySem.W.nsIn K mainGlobals "InvalidNumber" = some (some (.ref c7)))
    (a_c8 : PySem.W.nsIn K mainGlobals "TooMany" = some (some (.ref c8)))
    (a_c9 : PySem.W.nsIn K mainGlobals "NothingToUndo" = some (some (.ref c9)))
    (a_c10 : PySem.W.nsIn K mainGlobals "Refused" = some (some (.ref c10)))
    (a_iMAX_LETTERS : PySem.W.nsIn K mainGlobals "MAX_LETTERS" = some (some (.int 8 t_iMAX_LETTERS)))
    (a_iMAX_UNKNOWN : PySem.W.nsIn K mainGlobals "MAX_UNKNOWN" = some (some (.int 999 t_iMAX_UNKNOWN)))
    (a_iMAX_ARGUMENTS : PySem.W.nsIn K mainGlobals "MAX_ARGUMENTS" = some (some (.int 2 t_iMAX_ARGUMENTS)))
    (a_lets : PySem.W.nsIn K mainGlobals "LETTERS" = some (some (.str alphabet t_lets)))
    (a_digs : PySem.W.nsIn K mainGlobals "DIGITS" = some (some (.str digits t_digs)))
    (a_words : PySem.W.nsIn K mainGlobals "WORDS" = some (some (.ref aW)))
    (a_wordsT : tupB K aW words6 = true)
    (a_fol : PySem.W.nsIn K mainGlobals "FOLLOWERS" = some (some (.ref dF)))
    (a_folD : He.dicW K dF = some (He.keysIn w.params fol6))
    (a_folV : folB K dF = true)
    (a_folW : PySem.W.nsIn K dF "wrong" = some none)
    (a_k0 : KCls K c0 f0 "ValueError" [])
    (a_k3 : KCls K c3 f0 "ValueError" [])
    (a_k7 : KCls K c7 f9 "RuntimeError" ["value"])
    (a_m0 : HasM K f0)
    (a_h9 : HasFn K "__init__" "InvalidNumber.__init__" sNI f9)
    (a_bV : PySem.W.findCls K (.type "ValueError") (.type "type") "__init__" = some (.val (.builtin "ValueError.__init__")))
    (a_bR : PySem.W.findCls K (.type "RuntimeError") (.type "type") "__init__" = some (.val (.builtin "RuntimeError.__init__")))
    (a_kin : kinB K c0 c1 c2 c3 c4 c5 c6 c7 = true)
    (a_xf : xfB K c7 = true)
    (a_xno : PySem.W.findIn K (.ref c7) "value" = some none)
    (a_nn : freeB K = true)
    (a_n13 : PySem.W.nsIn K mainGlobals "_copied" = some (some (.ref g13)))
    (a_h13 : HasFn K "_copied" "_copied" (top 13) g13)
    (a_n22 : PySem.W.nsIn K mainGlobals "is_number" = some (some (.ref g22)))
    (a_h22 : HasFn K "is_number" "is_number" (top 22) g22)
    (a_n23 : PySem.W.nsIn K mainGlobals "is_whole" = some (some (.ref g23)))
    (a_h23 : HasFn K "is_whole" "is_whole" (top 23) g23)
    (a_n24 : PySem.W.nsIn K mainGlobals "is_name" = some (some (.ref g24)))
    (a_h24 : HasFn K "is_name" "is_name" (top 24) g24)
    (a_n25 : PySem.W.nsIn K mainGlobals "is_set" = some (some (.ref g25)))
    (a_h25 : HasFn K "is_set" "is_set" (top 25) g25)
    (a_n26 : PySem.W.nsIn K mainGlobals "is_value" = some (some (.ref g26)))
    (a_h26 : HasFn K "is_value" "is_value" (top 26) g26)
    (a_n27 : PySem.W.nsIn K mainGlobals "unknown" = some (some (.ref g27)))
    (a_h27 : HasFn K "unknown" "unknown" (top 27) g27)
    (a_n28 : PySem.W.nsIn K mainGlobals "applied" = some (some (.ref g28)))
    (a_h28 : HasFn K "applied" "applied" (top 28) g28)
    (a_n29 : PySem.W.nsIn K mainGlobals "written" = some (some (.ref g29)))
    (a_h29 : HasFn K "written" "written" (top 29) g29)
    (a_n30 : PySem.W.nsIn K mainGlobals "parts" = some (some (.ref g30)))
    (a_h30 : HasFn K "parts" "parts" (top 30) g30)
    (a_n31 : PySem.W.nsIn K mainGlobals "atoms" = some (some (.ref g31)))
    (a_h31 : HasFn K "atoms" "atoms" (top 31) g31)
    (a_n32 : PySem.W.nsIn K mainGlobals "_check_value" = some (some (.ref g32)))
    (a_h32 : HasFn K "_check_value" "_check_value" (top 32) g32)
    (a_n33 : PySem.W.nsIn K mainGlobals "_pieces" = some (some (.ref g33)))
    (a_h33 : HasFn K "_pieces" "_pieces" (top 33) g33)
    (a_n34 : PySem.W.nsIn K mainGlobals "_kinds" = some (some (.ref g34)))
    (a_h34 : HasFn K "_kinds" "_kinds" (top 34) g34)
    (a_n35 : PySem.W.nsIn K mainGlobals "_kind" = some (some (.ref g35)))
    (a_h35 : HasFn K "_kind" "_kind" (top 35) g35)
    (a_n36 : PySem.W.nsIn K mainGlobals "_is_atom" = some (some (.ref g36)))
    (a_h36 : HasFn K "_is_atom" "_is_atom" (top 36) g36)
    (a_n37 : PySem.W.nsIn K mainGlobals "_is_written_number" = some (some (.ref g37)))
    (a_h37 : HasFn K "_is_written_number" "_is_written_number" (top 37) g37)
    (a_n38 : PySem.W.nsIn K mainGlobals "_is_in_turn" = some (some (.ref g38)))
    (a_h38 : HasFn K "_is_in_turn" "_is_in_turn" (top 38) g38)
    (a_n39 : PySem.W.nsIn K mainGlobals "_is_nested" = some (some (.ref g39)))
    (a_h39 : HasFn K "_is_nested" "_is_nested" (top 39) g39)
    (a_n40 : PySem.W.nsIn K mainGlobals "_divided" = some (some (.ref g40)))
    (a_h40 : HasFn K "_divided" "_divided" (top 40) g40)
    (a_n42 : PySem.W.nsIn K mainGlobals "_law_dice" = some (some (.ref g42)))
    (a_h42 : HasFn K "_law_dice" "_law_dice" (top 42) g42)
    (a_n43 : PySem.W.nsIn K mainGlobals "_law_roll" = some (some (.ref g43)))
    (a_h43 : HasFn K "_law_roll" "_law_roll" (top 43) g43)
    (a_n44 : PySem.W.nsIn K mainGlobals "_law_one_of" = some (some (.ref g44)))
    (a_h44 : HasFn K "_law_one_of" "_law_one_of" (top 44) g44)
    (a_n45 : PySem.W.nsIn K mainGlobals "_law_met" = some (some (.ref g45)))
    (a_h45 : HasFn K "_law_met" "_law_met" (top 45) g45)
    (a_n46 : PySem.W.nsIn K mainGlobals "_law_end" = some (some (.ref g46)))
    (a_h46 : HasFn K "_law_end" "_law_end" (top 46) g46)
    (a_n47 : PySem.W.nsIn K mainGlobals "_law_is_value" = some (some (.ref g47)))
    (a_h47 : HasFn K "_law_is_value" "_law_is_value" (top 47) g47)
    (a_n48 : PySem.W.nsIn K mainGlobals "_law_is_name" = some (some (.ref g48)))
    (a_h48 : HasFn K "_law_is_name" "_law_is_name" (top 48) g48)
    (a_n49 : PySem.W.nsIn K mainGlobals "_law_is_set" = some (some (.ref g49)))
    (a_h49 : HasFn K "_law_is_set" "_law_is_set" (top 49) g49)
    (a_n50 : PySem.W.nsIn K mainGlobals "_law_drawn" = some (some (.ref g50)))
    (a_h50 : HasFn K "_law_drawn" "_law_drawn" (top 50) g50)
    (a_n51 : PySem.W.nsIn K mainGlobals "_law_text" = some (some (.ref g51)))
    (a_h51 : HasFn K "_law_text" "_law_text" (top 51) g51)
    (a_n52 : PySem.W.nsIn K mainGlobals "_law_atoms" = some (some (.ref g52)))
    (a_h52 : HasFn K "_law_atoms" "_law_atoms" (top 52) g52)
    (a_n53 : PySem.W.nsIn K mainGlobals "_law_near" = some (some (.ref g53)))
    (a_h53 : HasFn K "_law_near" "_law_near" (top 53) g53)
    (a_n54 : PySem.W.nsIn K mainGlobals "_law_right" = some (some (.ref g54)))
    (a_h54 : HasFn K "_law_right" "_law_right" (top 54) g54)
    (a_n55 : PySem.W.nsIn K mainGlobals "_law_refused" = some (some (.ref g55)))
    (a_h55 : HasFnC K "_law_refused" "_law_refused" (top 55) g55 cc)
    (a_n56 : PySem.W.nsIn K mainGlobals "law" = some (some (.ref g56)))
    (a_h56 : HasFn K "law" "law" (top 56) g56) :
    Top1 K w (fun i => [c0, c1, c2, c3, c4, c5, c6, c7, c8, c9, c10].getD i 0) (fun i => [0, 0, 0, 0, 0, 0, 0, 0, 0, 0, 0, 0, 0, g13, 0, 0, 0, 0, 0, 0, 0, 0, g22, g23, g24, g25, g26, g27, g28, g29, g30, g31, g32, g33, g34, g35, g36, g37, g38, g39, g40, 0, g42, g43, g44, g45, g46, g47, g48, g49, g50, g51, g52, g53, g54, g55, g56].getD i 0) f0 f9 cc dF aW where
  c0 := a_c0
  c1 := a_c1
  c2 := a_c2
  c3 := a_c3
  c4 := a_c4
  c5 := a_c5
  c6 := a_c6
  c7 := a_c7
  c8 := a_c8
  c9 := a_c9
  c10 := a_c10
  iMAX_LETTERS := ⟨_, a_iMAX_LETTERS⟩
  iMAX_UNKNOWN := ⟨_, a_iMAX_UNKNOWN⟩
  iMAX_ARGUMENTS := ⟨_, a_iMAX_ARGUMENTS⟩
  lets := ⟨_, a_lets⟩
  digs := ⟨_, a_digs⟩
  words := a_words
  wordsT := a_wordsT
  fol := a_fol
  folD := a_folD
  folV := a_folV
  folW := a_folW
  k0 := a_k0
  k3 := a_k3
  k7 := a_k7
  m0 := a_m0
  h9 := a_h9
  bV := a_bV
  bR := a_bR
  kin := a_kin
  xf := a_xf
  xno := a_xno
  nn := a_nn
  n13 := a_n13
  h13 := a_h13
  n22 := a_n22
  h22 := a_h22
  n23 := a_n23
  h23 := a_h23
  n24 := a_n24
  h24 := a_h24
  n25 := a_n25
  h25 := a_h25
  n26 := a_n26
  h26 := a_h26
  n27 := a_n27
  h27 := a_h27
  n28 := a_n28
  h28 := a_h28
  n29 := a_n29
  h29 := a_h29
  n30 := a_n30
  h30 := a_h30
  n31 := a_n31
  h31 := a_h31
  n32 := a_n32
  h32 := a_h32
  n33 := a_n33
  h33 := a_h33
  n34 := a_n34
  h34 := a_h34
  n35 := a_n35
  h35 := a_h35
  n36 := a_n36
  h36 := a_h36
  n37 := a_n37
  h37 := a_h37
  n38 := a_n38
  h38 := a_h38
  n39 := a_n39
  h39 := a_h39
  n40 := a_n40
  h40 := a_h40
  n42 := a_n42
  h42 := a_h42
  n43 := a_n43
  h43 := a_h43
  n44 := a_n44
  h44 := a_h44
  n45 := a_n45
  h45 := a_h45
  n46 := a_n46
  h46 := a_h46
  n47 := a_n47
  h47 := a_h47
  n48 := a_n48
  h48 := a_h48
  n49 := a_n49
  h49 := a_h49
  n50 := a_n50
  h50 := a_h50
  n51 := a_n51
  h51 := a_h51
  n52 := a_n52
  h52 := a_h52
  n53 := a_n53
  h53 := a_h53
  n54 := a_n54
  h54 := a_h54
  n55 := a_n55
  h55 := a_h55
  n56 := a_n56
  h56 := a_h56
end OM

open PySem PySem.W PyProof.Rows OM in
set_option maxRecDepth 100000 in
set_option maxHeartbeats 0 in
theorem PySem.Challenge.cw_orderlymoves_k01_names_sets_and_values_holds : PySem.Challenge.rw_orderlymoves_k01_names_sets_and_values.Holds := by
  w_on; o_law; k_head; (case hw => w_witness2)
  k_fill
  refine OM.walk1 (l := PySem.Challenge.rw_orderlymoves_k01_names_sets_and_values) rfl rfl rfl rfl (fun w h Y => PySem.W.km_in_of Y) (fun w h Y => PySem.W.km_tabs_of Y) ?T
  case T =>
    intro w
    refine' ⟨_, _, _, _, _, _, _, _, ?m1, ?l1, ?k1, OM.top_mk1 ?a_c0 ?a_c1 ?a_c2 ?a_c3 ?a_c4 ?a_c5 ?a_c6 ?a_c7 ?a_c8 ?a_c9 ?a_c10 ?a_iMAX_LETTERS ?a_iMAX_UNKNOWN ?a_iMAX_ARGUMENTS ?a_lets ?a_digs ?a_words ?a_wordsT ?a_fol ?a_folD ?a_folV ?a_folW ?a_k0 ?a_k3 ?a_k7 ?a_m0 ?a_h9 ?a_bV ?a_bR ?a_kin ?a_xf ?a_xno ?a_nn ?a_n13 ?a_h13 ?a_n22 ?a_h22 ?a_n23 ?a_h23 ?a_n24 ?a_h24 ?a_n25 ?a_h25 ?a_n26 ?a_h26 ?a_n27 ?a_h27 ?a_n28 ?a_h28 ?a_n29 ?a_h29 ?a_n30 ?a_h30 ?a_n31 ?a_h31 ?a_n32 ?a_h32 ?a_n33 ?a_h33 ?a_n34 ?a_h34 ?a_n35 ?a_h35 ?a_n36 ?a_h36 ?a_n37 ?a_h37 ?a_n38 ?a_h38 ?a_n39 ?a_h39 ?a_n40 ?a_h40 ?a_n42 ?a_h42 ?a_n43 ?a_h43 ?a_n44 ?a_h44 ?a_n45 ?a_h45 ?a_n46 ?a_h46 ?a_n47 ?a_h47 ?a_n48 ?a_h48 ?a_n49 ?a_h49 ?a_n50 ?a_h50 ?a_n51 ?a_h51 ?a_n52 ?a_h52 ?a_n53 ?a_h53 ?a_n54 ?a_h54 ?a_n55 ?a_h55 ?a_n56 ?a_h56⟩
    (case a_c0 => (k_is))
    (case a_c1 => (k_is))
    (case a_c2 => (k_is))
    (case a_c3 => (k_is))
    (case a_c4 => (k_is))
    (case a_c5 => (k_is))
    (case a_c6 => (k_is))
    (case a_c7 => (k_is))
    (case a_c8 => (k_is))
    (case a_c9 => (k_is))
    (case a_c10 => (k_is))
    (case a_iMAX_LETTERS => (k_is))
    (case a_iMAX_UNKNOWN => (k_is))
    (case a_iMAX_ARGUMENTS => (k_is))
    (case a_lets => (k_is))
    (case a_digs => (k_is))
    (case a_words => (k_is))
    (case a_wordsT => (kernel_rfl))
    (case a_fol => (k_is))
    (case a_folD => (kernel_rfl))
    (case a_folV => (kernel_rfl))
    (case a_folW => (kernel_rfl))
    (case a_k0 => (apply OM.kc_mk3 OM.base_VE; k_is; kernel_rfl; k_is; k_is; k_is; k_is; k_is; k_is; decide +kernel))
    (case a_k3 => (apply OM.kc_mk3 OM.base_VE; k_is; kernel_rfl; k_is; k_is; k_is; k_is; k_is; k_is; decide +kernel))
    (case a_k7 => (apply OM.kc_mk6 OM.base_RE; k_is; kernel_rfl; k_is; k_is; k_is; k_is; k_is; k_is; decide +kernel; k_is))
    (case a_m0 => (apply OM.m_mk3; k_is; k_is; k_is; k_is))
    (case a_h9 => (apply OM.fn_mk3; k_is; k_is; k_is))
    (case a_bV => (k_is))
    (case a_bR => (k_is))
    (case a_kin => (kernel_rfl))
    (case a_xf => (kernel_rfl))
    (case a_xno => (k_is))
    (case a_nn => (kernel_rfl))
    (case a_n13 => (k_is))
    (case a_h13 => (apply OM.fn_mk3; k_is; k_is; k_is))
    (case a_n22 => (k_is))
    (case a_h22 => (apply OM.fn_mk3; k_is; k_is; k_is))
    (case a_n23 => (k_is))
    (case a_h23 => (apply OM.fn_mk3; k_is; k_is; k_is))
    (case a_n24 => (k_is))
    (case a_h24 => (apply OM.fn_mk3; k_is; k_is; k_is))
    (case a_n25 => (k_is))
    (case a_h25 => (apply OM.fn_mk3; k_is; k_is; k_is))
    (case a_n26 => (k_is))
    (case a_h26 => (apply OM.fn_mk3; k_is; k_is; k_is))
    (case a_n27 => (k_is))
    (case a_h27 => (apply OM.fn_mk3; k_is; k_is; k_is))
    (case a_n28 => (k_is))
    (case a_h28 => (apply OM.fn_mk3; k_is; k_is; k_is))
    (case a_n29 => (k_is))
    (case a_h29 => (apply OM.fn_mk3; k_is; k_is; k_is))
    (case a_n30 => (k_is))
    (case a_h30 => (apply OM.fn_mk3; k_is; k_is; k_is))
    (case a_n31 => (k_is))
    (case a_h31 => (apply OM.fn_mk3; k_is; k_is; k_is))
    (case a_n32 => (k_is))
    (case a_h32 => (apply OM.fn_mk3; k_is; k_is; k_is))
    (case a_n33 => (k_is))
    (case a_h33 => (apply OM.fn_mk3; k_is; k_is; k_is))
    (case a_n34 => (k_is))
    (case a_h34 => (apply OM.fn_mk3; k_is; k_is; k_is))
    (case a_n35 => (k_is))
    (case a_h35 => (apply OM.fn_mk3; k_is; k_is; k_is))
    (case a_n36 => (k_is))
    (case a_h36 => (apply OM.fn_mk3; k_is; k_is; k_is))
    (case a_n37 => (k_is))
    (case a_h37 => (apply OM.fn_mk3; k_is; k_is; k_is))
    (case a_n38 => (k_is))
    (case a_h38 => (apply OM.fn_mk3; k_is; k_is; k_is))
    (case a_n39 => (k_is))
    (case a_h39 => (apply OM.fn_mk3; k_is; k_is; k_is))
    (case a_n40 => (k_is))
    (case a_h40 => (apply OM.fn_mk3; k_is; k_is; k_is))
    (case a_n42 => (k_is))
    (case a_h42 => (apply OM.fn_mk3; k_is; k_is; k_is))
    (case a_n43 => (k_is))
    (case a_h43 => (apply OM.fn_mk3; k_is; k_is; k_is))
    (case a_n44 => (k_is))
    (case a_h44 => (apply OM.fn_mk3; k_is; k_is; k_is))
    (case a_n45 => (k_is))
    (case a_h45 => (apply OM.fn_mk3; k_is; k_is; k_is))
    (case a_n46 => (k_is))
    (case a_h46 => (apply OM.fn_mk3; k_is; k_is; k_is))
    (case a_n47 => (k_is))
    (case a_h47 => (apply OM.fn_mk3; k_is; k_is; k_is))
    (case a_n48 => (k_is))
    (case a_h48 => (apply OM.fn_mk3; k_is; k_is; k_is))
    (case a_n49 => (k_is))
    (case a_h49 => (apply OM.fn_mk3; k_is; k_is; k_is))
    (case a_n50 => (k_is))
    (case a_h50 => (apply OM.fn_mk3; k_is; k_is; k_is))
    (case a_n51 => (k_is))
    (case a_h51 => (apply OM.fn_mk3; k_is; k_is; k_is))
    (case a_n52 => (k_is))
    (case a_h52 => (apply OM.fn_mk3; k_is; k_is; k_is))
    (case a_n53 => (k_is))
    (case a_h53 => (apply OM.fn_mk3; k_is; k_is; k_is))
    (case a_n54 => (k_is))
    (case a_h54 => (apply OM.fn_mk3; k_is; k_is; k_is))
    (case a_n55 => (k_is))
    (case a_h55 => (apply OM.fc_mk3; k_is; k_is; k_is))
    (case a_n56 => (k_is))
    (case a_h56 => (apply OM.fn_mk3; k_is; k_is; k_is))
    (case k1 => (apply OM.hd_mk; k_is; rfl; kernel_rfl))
    (case m1 => (decide +kernel))
    (case l1 => (kernel_rfl))
