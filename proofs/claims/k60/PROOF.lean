import PyProof.Rows.All
import Wide.All
import OpenK.AllK
import Wide.FinOn
import HandS.ForMost
import HandS.Exc
import HandS.ExcInit
import HandS.IsInst
import HandS.ExcIs
import HandS.ExcField
import HandS.TryMany
import HandS.Wide
import HandS.Comp
import HandS.DictComp
import HandS.Iter
import HandS.Dict
import HandS.Text
import HandS.Codes
import HandS.Zip
import HandS.TupAny
import HandS.More
import HandS.Defaults
import PyProof.NeKinds
import HandS.Set
import HandS.Base
import HandS.Call
import HandS.List
import HandS.SetBool
import HandS.Sort
import PyProof.Rows.SortShellAny
import HandS.TupSets
import HandS.SetFor
import HandS.Strs
import HandS.SortKw
import KE.DatumOrd
import HandS.WordsExc
import HandS.Ends
import HandS.Lambda
import HandS.Star
import HandS.Property
import HandS.OwnEq
import PyProof.InstNe
import HandS.FStr
import HandS.CallRecv
import HandS.Flow
import KE.KUnpackStar
import HandS.HeadHook3
import PySem.Challenge.RW_orderlymoves_k60_texts_of_code_and_stret
set_option Elab.async false
set_option linter.all false
set_option maxRecDepth 100000
set_option maxHeartbeats 4000000
namespace OM
open PySem
/-- what is asked of a built-in class's own __init__ -/
structure InitF (B initId : String) : Prop where
  init : Slot B "__init__" initId
  initEntry : entryFor table initId = some Builtin.«BaseException.__init__»
  initSplit : splitId initId = some (B, "__init__")
  initKind : builtinKind initId = some .slot
  initRow : Manifest.signature? initId = some ⟨.positional, "*", B, .self, [⟨"args", .varPos, false⟩]⟩
  noStar : (B != "*") = true
theorem InitF.of {B n i : String} (F : ExcCallFacts B n i) : InitF B i := ⟨F.init, F.initEntry, F.initSplit, F.initKind, F.initRow, F.noStar⟩
theorem initF_KE : InitF "KeyError" "KeyError.__init__" where
  init := .of (owner := "KeyError") (n := "__init__") (by rw [typeLookup_type, builtinLookup_eq_fast]; kernel_rfl) (by decide +kernel) (by decide +kernel) (by decide +kernel)
    (by first | exact .inl (by decide +kernel) | exact .inr (by decide +kernel)) (by rw [isSubtype_type]; kernel_rfl)
  initEntry := entryFor_alias (id' := "BaseException.__init__") (by rw [fastTable_eq_tree]; kernel_rfl) (by first | rfl | decide +kernel) (by decide +kernel) (by rw [fastTable_eq_tree]; kernel_rfl)
  initSplit := by kernel_rfl
  initKind := by kernel_rfl
  initRow := by kernel_rfl
  noStar := by decide +kernel

/-- own classes, then a built-in chain -/
def refsT (tail : List Value) : List Value → Bool
  | .ref _ :: r => refsT tail r
  | l => l == tail
structure BaseX (B newId initId : String) (tail : List Value) : Prop where
  F : ∃ Bn inN bmN, ExcBaseFacts Bn newId inN bmN ∧ tail.contains (.type Bn) = true
  I : InitF B initId
  hasB : tail.contains (.type B) = true
  noAttr : tail.contains (.type "AttributeError") = false
  noName : tail.contains (.type "NameError") = false
  pass : ∀ self : Value, refuseLoop self "__setattr__" tail = pure ()
  obj : tail.contains (.type "object") = true
  ne : tail.isEmpty = false
  ty : typeOf (.type B) = pure (.type "type")
  stub : Manifest.isStub B = false
theorem base_VE : BaseX "ValueError" "ValueError.__new__" "ValueError.__init__" [.type "ValueError", .type "Exception", .type "BaseException", .type "object"] :=
  ⟨⟨_, _, _, F.excBase_ValueError, by decide +kernel⟩, .of F.excBase_ValueError.toExcCallFacts, by decide +kernel, by decide +kernel, by decide +kernel, fun self => by kernel_rfl, by decide +kernel, rfl, by kernel_rfl, by decide +kernel⟩
theorem base_LE : BaseX "LookupError" "LookupError.__new__" "LookupError.__init__" [.type "LookupError", .type "Exception", .type "BaseException", .type "object"] :=
  ⟨⟨_, _, _, F.excBase_LookupError, by decide +kernel⟩, .of F.excBase_LookupError.toExcCallFacts, by decide +kernel, by decide +kernel, by decide +kernel, fun self => by kernel_rfl, by decide +kernel, rfl, by kernel_rfl, by decide +kernel⟩
theorem base_RE : BaseX "RuntimeError" "RuntimeError.__new__" "RuntimeError.__init__" [.type "RuntimeError", .type "Exception", .type "BaseException", .type "object"] :=
  ⟨⟨_, _, _, F.excBase_RuntimeError, by decide +kernel⟩, .of F.excBase_RuntimeError.toExcCallFacts, by decide +kernel, by decide +kernel, by decide +kernel, fun self => by kernel_rfl, by decide +kernel, rfl, by kernel_rfl, by decide +kernel⟩
theorem base_OE : BaseX "OverflowError" "OverflowError.__new__" "OverflowError.__init__" [.type "OverflowError", .type "ArithmeticError", .type "Exception", .type "BaseException", .type "object"] :=
  ⟨⟨_, _, _, F.excBase_OverflowError, by decide +kernel⟩, .of F.excBase_OverflowError.toExcCallFacts, by decide +kernel, by decide +kernel, by decide +kernel, fun self => by kernel_rfl, by decide +kernel, rfl, by kernel_rfl, by decide +kernel⟩
theorem base_IE : BaseX "IndexError" "IndexError.__new__" "IndexError.__init__" [.type "IndexError", .type "LookupError", .type "Exception", .type "BaseException", .type "object"] :=
  ⟨⟨_, _, _, F.excBase_IndexError, by decide +kernel⟩, .of F.excBase_IndexError.toExcCallFacts, by decide +kernel, by decide +kernel, by decide +kernel, fun self => by kernel_rfl, by decide +kernel, rfl, by kernel_rfl, by decide +kernel⟩
theorem base_AE : BaseX "ArithmeticError" "ArithmeticError.__new__" "ArithmeticError.__init__" [.type "ArithmeticError", .type "Exception", .type "BaseException", .type "object"] :=
  ⟨⟨_, _, _, F.excBase_ArithmeticError, by decide +kernel⟩, .of F.excBase_ArithmeticError.toExcCallFacts, by decide +kernel, by decide +kernel, by decide +kernel, fun self => by kernel_rfl, by decide +kernel, rfl, by kernel_rfl, by decide +kernel⟩
theorem base_KE : BaseX "KeyError" "LookupError.__new__" "KeyError.__init__" [.type "KeyError", .type "LookupError", .type "Exception", .type "BaseException", .type "object"] :=
  ⟨⟨_, _, _, F.excBase_LookupError, by decide +kernel⟩, initF_KE, by decide +kernel, by decide +kernel, by decide +kernel, fun self => by kernel_rfl, by decide +kernel, rfl, by kernel_rfl, by decide +kernel⟩
theorem refsT_cases {tail : List Value} : ∀ l : List Value, refsT tail l = true → (∃ c r, l = .ref c :: r ∧ refsT tail r = true) ∨ l = tail
  | [], e => .inr (beq_iff_eq.mp e)
  | .ref c :: r, e => .inl ⟨c, r, rfl, e⟩
  | .none :: _, e => .inr (beq_iff_eq.mp e)
  | .ellipsis :: _, e => .inr (beq_iff_eq.mp e)
  | .notImplemented :: _, e => .inr (beq_iff_eq.mp e)
  | .bool _ :: _, e => .inr (beq_iff_eq.mp e)
  | .int _ _ :: _, e => .inr (beq_iff_eq.mp e)
  | .float _ _ :: _, e => .inr (beq_iff_eq.mp e)
  | .str _ _ :: _, e => .inr (beq_iff_eq.mp e)
  | .bytes _ _ :: _, e => .inr (beq_iff_eq.mp e)
  | .type _ :: _, e => .inr (beq_iff_eq.mp e)
  | .builtin _ :: _, e => .inr (beq_iff_eq.mp e)
theorem refsT_pass {tail : List Value} {self : Value} (hp : refuseLoop self "__setattr__" tail = pure ()) : ∀ l : List Value, refsT tail l = true → refuseLoop self "__setattr__" l = pure () := by
  intro l
  induction l with
  | nil =>
    intro e
    rcases refsT_cases [] e with ⟨c, r', q, h⟩ | q
    · cases q
    · rw [q]; exact hp
  | cons a r ih =>
    intro e
    rcases refsT_cases (a :: r) e with ⟨c, r', q, h⟩ | q
    · obtain ⟨rfl, rfl⟩ := List.cons.inj q
      rw [refuseLoop_ref]; exact ih h
    · rw [q]; exact hp
theorem refsT_contains {tail : List Value} (X : String) : ∀ l : List Value, refsT tail l = true → l.contains (.type X) = tail.contains (.type X) := by
  intro l
  induction l with
  | nil =>
    intro e
    rcases refsT_cases [] e with ⟨c, r', q, h⟩ | q
    · cases q
    · rw [q]
  | cons a r ih =>
    intro e
    rcases refsT_cases (a :: r) e with ⟨c, r', q, h⟩ | q
    · obtain ⟨rfl, rfl⟩ := List.cons.inj q
      rw [List.contains_cons, ih h]; rfl
    · rw [q]
theorem refsT_ne {tail : List Value} (hn : tail.isEmpty = false) {l : List Value} (e : refsT tail l = true) : l.isEmpty = false := by
  rcases refsT_cases l e with ⟨c, r', q, h⟩ | q
  · rw [q]; rfl
  · rw [q]; exact hn

open PySem.HandSPX Builtin Builtin.ObjectAttr
section
variable {M : Model} {A : Around} {E : Value → Shared → Prop} {h : Heap} {g : Array GenState} {d : Drawn} {t : Nat} {os : OsState}
variable {nm q : Str} {C N : Addr} {bs bm bmB tail : List Value} {hdct : Bool} {sn : List Str} {sub : List Value} {ab : Bool} {col : Option Bool} {dd : Option Addr} {k0 k1 k2 k3 k5 : Option Value} {B newId initId : String}
theorem check_newX {Bn inN : String} {bmN : List Value} (F : ExcBaseFacts Bn newId inN bmN) (hB : bm.contains (.type Bn) = true) {rest : List Value} {Q : Unit → Shared → Prop}
    (hC : h.get? C = some (excClassObj nm q C N bs bm hdct sn sub ab col dd k0 k1 k2 k3 k5 newId)) (hq : Q () ⟨h, g, d, t, os⟩) : wpAny M A (checkBuiltinCall newId ⟨.ref C :: rest, []⟩) Q E ⟨h, g, d, t, os⟩ := by
  have hcont : (Value.ref C :: bm).contains (.type Bn) = true := by rw [List.contains_cons, hB, Bool.or_true]
  have hstar := F.noStar
  simp only [checkBuiltinCall, F.newKind, F.newSplit, F.newRow]
  repeat (first | refine wpAny_loadPart_at hC ?_ | (refine wpAny_isSubtype_exc hC ?_; rw [hcont]) | refine wpAny_staticBase_exc hC ?_ | refine wpAny_madeBy_exc hC ?_ | simp only [bne_self_eq_false, Bool.false_eq_true, if_false] | wp_step)
  exact hq
theorem check_initX (F : InitF B initId) (hB : bm.contains (.type B) = true) {e : Addr} {oe : Obj} {rest : List Value} {Q : Unit → Shared → Prop}
    (hC : h.get? C = some (excClassObj nm q C N bs bm hdct sn sub ab col dd k0 k1 k2 k3 k5 newId)) (he : h.get? e = some oe) (hcls : oe.cls = .ref C) (hq : Q () ⟨h, g, d, t, os⟩) :
    wpAny M A (checkBuiltinCall initId ⟨.ref e :: rest, []⟩) Q E ⟨h, g, d, t, os⟩ := by
  have hcB : (Value.ref C :: bm).contains (.type B) = true := by rw [List.contains_cons, hB, Bool.or_true]
  have hshort := F.noStar
  simp only [checkBuiltinCall, F.initKind, F.initSplit, F.initRow]
  repeat (first | (with_reducible refine wpAny_loadPart_at he ?_; rw [hcls]) | with_reducible refine wpAny_loadPart_at hC ?_ | (with_reducible refine wpAny_isSubtype_exc hC ?_; rw [hcB]) | wp_step)
  refine wpAny_onRaise ?_
  rw [show ∀ (a b : String) (n : Nat), Bind.check ⟨.positional, "*", B, .self, [⟨"args", .varPos, false⟩]⟩ a b n (List.map (fun x => x.fst) ({ pos := Value.ref e :: rest } : Args).kw) = pure () from
    fun a b n => check_star_args _ _ _ _ _ _]
  exact wpAny_pure hq
end
section
variable {prog : Program} {w : World} {A : Around} {E : Value → Shared → Prop} {R : Result → Shared → Prop} {h : Heap} {g : Array GenState} {d : Drawn} {t : Nat} {os : OsState}
variable {nm q : Str} {C N : Addr} {bs bm tail : List Value} {hdct : Bool} {sn : List Str} {sub : List Value} {ab : Bool} {col : Option Bool} {dd : Option Addr} {k0 k1 k2 k3 k5 : Option Value} {B newId initId : String}
theorem newX (X : BaseX B newId initId tail) (hm : refsT tail bm = true) {rest : List Value}
    (hC : h.get? C = some (excClassObj nm q C N bs bm hdct sn sub ab col dd k0 k1 k2 k3 k5 newId))
    (hq : R (.ok (.ret (.ref (h.objs.size + 1)))) ⟨(h.push { cls := .type "tuple", data := .seq rest.toArray }).push
      { cls := .ref C, data := .fields #[.ref h.objs.size, .none, .none, .none, .bool false, .none] }, g, d, t, os⟩) (hrest : rest.length ≤ sizeLine) :
    codeAny (model prog w) A (.builtin newId ⟨.ref C :: rest, []⟩) R ⟨h, g, d, t, os⟩ := by
  obtain ⟨Bn, inN, bmN, F, hBn⟩ := X.F
  have hends := F.ends
  have hcB : (Value.ref C :: bm).contains (.type Bn) = true := by rw [List.contains_cons, refsT_contains _ _ hm, hBn, Bool.or_true]
  have hcA : (Value.ref C :: bm).contains (.type "AttributeError") = false := by rw [List.contains_cons, refsT_contains _ _ hm, X.noAttr]; rfl
  have hcN : (Value.ref C :: bm).contains (.type "NameError") = false := by rw [List.contains_cons, refsT_contains _ _ hm, X.noName]; rfl
  refine codeAny_builtinAt F.entry ?_
  unfold Builtin.«BaseException.__new__»
  refine wpAt_bind ?_
  show wpAt _ _ _ (stack >>= _) _ _ _
  refine wpAt_bind (wpAt_stack fun p below => wpAt_of_wpAny ?_)
  wp_walk
  refine wpAt_of_wpAny ?_
  rw [F.owner]
  repeat (first | with_reducible refine wpAny_madeHere_exc F.canon hC ?_ | with_reducible refine wpAny_loadPart_at hC ?_ | (with_reducible refine wpAny_isSubtype_exc hC ?_; first | rw [hcB] | rw [hcA] | rw [hcN]) | wp_step)
  show R _ _
  rw [Heap.size_push]
  exact hq
theorem type_callX (X : BaseX B newId initId tail) (hm : refsT tail bm = true) {rest : List Value} {fI : Addr} {Q : Fin → Shared → Prop}
    (hC : h.get? C = some (excClassObj nm q C N bs bm hdct sn sub ab col dd k0 k1 k2 k3 k5 newId))
    (hi : W.Looks (model prog w) h (typeLookup (.ref C) "__init__") (some (.ref fI))) (hb : ∀ self, W.Looks (model prog w) h (bindSpecial (.ref fI) self) (.ref fI, [self])) (hrest : rest.length ≤ sizeLine)
    (hq : codeAny (model prog w) A (.call (.ref fI) ⟨.ref (h.objs.size + 1) :: rest, []⟩)
      (fun r s' => match r with | .ok (.ret v) => v = .none ∧ Q (.done (.ret (.ref (h.objs.size + 1)))) s' | .ok _ => False | .error e => E e s')
      ⟨(h.push (W.kdv_tup rest)).push (excO C h.objs.size), g, d, t, os⟩) :
    wpAny (model prog w) A (Builtin.«type.__call__» ⟨.ref C :: rest, []⟩) Q E ⟨h, g, d, t, os⟩ := by
  obtain ⟨Bn, inN, bmN, F, hBn⟩ := X.F
  repeat (first | with_reducible refine wpAny_loadPart_at hC ?_ | with_reducible refine wpAny_madeBy_exc hC ?_ | wp_step)
  refine codeAny_call_builtin_code (Code.quiet_builtin _ F.quiet) (check_newX F (by rw [refsT_contains _ _ hm, hBn]) hC ?_)
  refine newX X hm hC ?_ hrest
  show wpAny _ _ _ _ _ _
  have k : ∀ b o, h.get? b = some o → ((h.push (W.kdv_tup rest)).push (excO C h.objs.size)).get? b = some o := fun b o e => Heap.get?_push_of_some _ (Heap.get?_push_of_some _ e)
  have hC₁ := k _ _ hC
  have hget : ((h.push (W.kdv_tup rest)).push (excO C h.objs.size)).get? (h.objs.size + 1) = some (excO C h.objs.size) := by heap_get
  have hcC : (Value.ref C :: bm).contains (.ref C) = true := by simp
  have i1 := hi.keeps k
  have b1 := (hb (.ref (h.objs.size + 1))).keeps k
  unfold isInstance
  repeat (first | with_reducible refine wpAny_loadPart_at hget ?_ | (with_reducible refine wpAny_isSubtype_exc hC₁ ?_; rw [hcC]) | wp_step)
  show wpAny _ _ (typeLookup (.ref C) _) _ _ _
  refine i1.at ?_
  refine wpAny_holding (wpAny_bind (b1.at ?_))
  refine wpAny_bind (wpAny_call (codeAny_mono hq fun r s' z => ?_))
  rcases r with e | (v | _ | _ | _) <;> first | exact z | exact z.elim | skip
  obtain ⟨rfl, z⟩ := z
  first
    | exact wpAny_pure (wpAny_pure z)
    | (wp_walk; exact z)
theorem callX (X : BaseX B newId initId tail) (hm : refsT tail bm = true) {rest : List Value} {fI : Addr}
    (hC : h.get? C = some (excClassObj nm q C N bs bm hdct sn sub ab col dd k0 k1 k2 k3 k5 newId))
    (hi : W.Looks (model prog w) h (typeLookup (.ref C) "__init__") (some (.ref fI))) (hb : ∀ self, W.Looks (model prog w) h (bindSpecial (.ref fI) self) (.ref fI, [self])) (hrest : rest.length ≤ sizeLine)
    (hq : codeAny (model prog w) (A.under (.builtin "type.__call__" ⟨.ref C :: rest, []⟩)) (.call (.ref fI) ⟨.ref (h.objs.size + 1) :: rest, []⟩) (W.InitBack (h.objs.size + 1) R)
      ⟨(h.push (W.kdv_tup rest)).push (excO C h.objs.size), g, d, t, os⟩) :
    codeAny (model prog w) A (.call (.ref C) ⟨rest, []⟩) R ⟨h, g, d, t, os⟩ := by
  have f1 := tc_lookup
  have f2 := tc_bind (.ref C)
  have hTy : (⟨h, g, d, t, os⟩ : Shared).TypeIs (.ref C) "type" := ⟨_, hC, rfl⟩
  refine codeAny_of_tree ?_
  show wpAny _ _ (callAny (.ref C) _) _ _ _
  repeat (any_goals (first | assumption | with_reducible refine wpAny_loadPart_at hC ?_ | wp_step))
  refine ⟨rfl, ?_⟩
  refine codeAny_call_builtin_at (Code.quiet_builtin _ (by decide +kernel)) entry_typeCall (wpAny_check_type_call_sub hC (type_callX X hm hC hi hb hrest ?_))
  refine codeAny_mono hq fun r s' z => ?_
  rcases r with e | (v | _ | _ | _) <;> exact z
theorem init_baseX (X : BaseX B newId initId tail) {tail' : List Value} {newId' : String} (hm : refsT tail' bm = true) (hB : tail'.contains (.type B) = true) {e t0 : Addr} {rest : List Value}
    (hC : h.get? C = some (excClassObj nm q C N bs bm hdct sn sub ab col dd k0 k1 k2 k3 k5 newId')) (he : h.get? e = some (excO C t0)) (hrest : rest.length ≤ sizeLine)
    (hq : ∀ h' t1, (∀ b o, b ≠ e → h.get? b = some o → h'.get? b = some o) → h'.get? e = some (excO C t1) → R (.ok (.ret .none)) ⟨h', g, d, t, os⟩) :
    codeAny (model prog w) A (.call (.builtin initId) ⟨.ref e :: rest, []⟩) R ⟨h, g, d, t, os⟩ := by
  refine codeAny_call_builtin X.I.init.plain X.I.initEntry (check_initX X.I (by rw [refsT_contains _ _ hm, hB]) hC he rfl ?_)
  wp_walk
  refine hq _ h.objs.size (fun b o hb ho => ?_) ?_
  · rw [Heap.get?_update_other _ _ (Ne.symm hb)]
    exact Heap.get?_push_of_some _ ho
  · rw [Heap.get?_update_self _ (Heap.get?_push_of_some _ he) rfl]
    rfl
end
end OM

namespace OM
open PySem PySem.HandSPX Builtin Builtin.ObjectAttr
section
variable {prog : Program} {w : World} {A : Around} {E : Value → Shared → Prop} {R : Result → Shared → Prop} {hp : Heap} {g : Array GenState} {d : Drawn} {t : Nat} {os : OsState}
variable {B newId initId : String} {tail : List Value}
theorem osaX (Y : BaseX B newId initId tail) {K : W.Frag} {name : Str} {tk : Tok} {v : Value} {x C : Addr} {fv : Array Value} {cd : ClassData}
    (X : K.In hp) (hx : hp.get? x = some { cls := .ref C, data := .fields fv }) (hcd : W.clsIn K C = some cd) (hm : refsT tail cd.mro = true) (hh : cd.hasDict = true) (ha : W.findIn K (.ref C) name = some none)
    (hq : ∀ h' tk' dx, (∀ b o, b ≠ x → hp.get? b = some o → h'.get? b = some o) → hp.objs.size ≤ dx → dx ≠ x → h'.get? x = some { cls := .ref C, dict := some dx, data := .fields fv } →
      h'.Ns1 dx (fun y => if y = name then some v else none) → R (.ok (.ret .none)) ⟨h', g, d, tk', os⟩) :
    codeAny (model prog w) A (.call (.builtin "object.__setattr__") ⟨[.ref x, .str name tk, v], []⟩) R ⟨hp, g, d, t, os⟩ := by
  have I : W.InstAt hp x { cls := .ref C, data := .fields fv } C none := ⟨hx, rfl, rfl, trivial⟩
  have SF := F.store_object
  have ne := refsT_ne Y.ne hm
  have hob : cd.mro.contains (.type "object") = true := (refsT_contains "object" _ hm).trans Y.obj
  have hxs : x ≠ hp.objs.size := Nat.ne_of_lt (Heap.lt_size hx)
  have sub : W.Looks (model prog w) hp (isInstance (.ref x) (.type "object")) true := I.type.andThen (W.looks_mroIn X (by unfold W.mroIn; rw [hcd, Option.bind_some, if_neg (by rw [ne]; decide), hob]))
  refine codeAny_call_builtin SF.slot.plain SF.entry (@W.check_slot (model prog w) _ _ ⟨hp, g, d, t, os⟩ "object.__setattr__" "object" "__setattr__" (.ref x) [.str name tk, v] [] _ SF.kind SF.split sub (SF.args (.ref x) (.str name tk) v) ?_)
  have hmr : W.Looks (model prog w) hp (mroOf (.ref C)) cd.mro := (W.looks_clsIn X hcd).andThen .now
  have L3 : W.Looks (model prog w) hp (storeTaker? none) none := .now
  have hcls : W.Looks (model prog w) hp (classData C) cd := W.looks_clsIn X hcd
  rw [W.osa_eq, refuse_eq]
  refine wpAny_bind (wpAny_bind (I.type.at (wpAny_bind (hmr.at ?_))))
  rw [refsT_pass (Y.pass _) _ hm]
  refine wpAny_pure (wpAny_bind (I.type.at (wpAny_bind ((W.looks_findIn X ha).at (wpAny_bind (L3.at ?_))))))
  show wpAny _ _ (storeInOwnDict (.ref x) (.ref C) (.str name tk) name v false) _ _ _
  obtain ⟨nm, bs, mro, ns, qn, hd, sn, sb, ab, col, del⟩ := cd
  dsimp only at hh
  subst hh
  unfold storeInOwnDict ownDictForStores
  repeat (first | with_reducible refine store_in_new ?_ ?_ | with_reducible refine wpAny_loadPart_at hx ?_ | with_reducible refine hcls.at ?_ | wp_step)
  · exact ⟨_, #[], _, (Heap.get?_update_ne _ _ _ _ hxs.symm).trans (Heap.get?_push_at rfl rfl), rfl, fun e he => absurd he (by simp), fun _ => rfl⟩
  · intro h' tk' hn' hs
    have hx₁ : (hp.push { cls := .type "dict", data := .dict #[] }).get? x = some { cls := .ref C, data := .fields fv } := Heap.get?_push_of_some _ hx
    refine hq h' tk' hp.objs.size (fun b o hb ho => ?_) (Nat.le_refl _) hxs.symm ?_ hn'
    · exact (hs.2 b (Nat.ne_of_lt (Heap.lt_size ho))).trans ((Heap.get?_update_ne _ _ _ _ hb).trans (Heap.get?_push_of_some _ ho))
    · exact (hs.2 x hxs).trans (Heap.get?_update_self _ hx₁ rfl)
theorem osaX_old (Y : BaseX B newId initId tail) {K : W.Frag} {name : Str} {tk : Tok} {v : Value} {x C dx : Addr} {fv : Array Value} {cd : ClassData} {m0 : Str → Option Value} {nl : List Str}
    (X : K.In hp) (hx : hp.get? x = some { cls := .ref C, dict := some dx, data := .fields fv }) (hns : hp.Ns1 dx m0) (hw : Within m0 nl) (hz : nl.length ≤ 1000) (hcd : W.clsIn K C = some cd) (hm : refsT tail cd.mro = true) (hh : cd.hasDict = true)
    (ha : W.findIn K (.ref C) name = some none)
    (hq : ∀ h' tk', (∀ b o, b ≠ dx → hp.get? b = some o → h'.get? b = some o) → h'.Ns1 dx (fun y => if y = name then some v else m0 y) → R (.ok (.ret .none)) ⟨h', g, d, tk', os⟩) :
    codeAny (model prog w) A (.call (.builtin "object.__setattr__") ⟨[.ref x, .str name tk, v], []⟩) R ⟨hp, g, d, t, os⟩ := by
  obtain ⟨oD, esD, epD, hoD, hdD, _⟩ := hns.count hw
  have I : W.InstAt hp x { cls := .ref C, dict := some dx, data := .fields fv } C (some oD) := ⟨hx, rfl, rfl, hoD⟩
  have SF := F.store_object
  have ne := refsT_ne Y.ne hm
  have hob : cd.mro.contains (.type "object") = true := (refsT_contains "object" _ hm).trans Y.obj
  have sub : W.Looks (model prog w) hp (isInstance (.ref x) (.type "object")) true := I.type.andThen (W.looks_mroIn X (by unfold W.mroIn; rw [hcd, Option.bind_some, if_neg (by rw [ne]; decide), hob]))
  refine codeAny_call_builtin SF.slot.plain SF.entry (@W.check_slot (model prog w) _ _ ⟨hp, g, d, t, os⟩ "object.__setattr__" "object" "__setattr__" (.ref x) [.str name tk, v] [] _ SF.kind SF.split sub (SF.args (.ref x) (.str name tk) v) ?_)
  have hmr : W.Looks (model prog w) hp (mroOf (.ref C)) cd.mro := (W.looks_clsIn X hcd).andThen .now
  have L3 : W.Looks (model prog w) hp (storeTaker? none) none := .now
  have hcls : W.Looks (model prog w) hp (classData C) cd := W.looks_clsIn X hcd
  rw [W.osa_eq, refuse_eq]
  refine wpAny_bind (wpAny_bind (I.type.at (wpAny_bind (hmr.at ?_))))
  rw [refsT_pass (Y.pass _) _ hm]
  refine wpAny_pure (wpAny_bind (I.type.at (wpAny_bind ((W.looks_findIn X ha).at (wpAny_bind (L3.at ?_))))))
  show wpAny _ _ (storeInOwnDict (.ref x) (.ref C) (.str name tk) name v false) _ _ _
  obtain ⟨nm, bs, mro, ns, qn, hd, sn, sb, ab, col, del⟩ := cd
  dsimp only at hh
  subst hh
  unfold storeInOwnDict ownDictForStores
  repeat (first | with_reducible refine PySem.OEX.store_in_old hns hw hz ?_ | with_reducible refine wpAny_loadPart_at hx ?_ | with_reducible refine hcls.at ?_ | wp_step)
  intro h' tk' hn' hs
  exact hq h' tk' (fun b o hb ho => (hs.2 b hb).trans ho) hn'
end
end OM

namespace PySem.W
open PySem PySem.Calls PyProof.Rows
/-- a function read off its class: itself -/
theorem om_fn_get_none {prog : Program} {w : World} {A : Around} {R : Result → Shared → Prop} {s : Shared} {K : Frag} {p C : Addr} (X : K.In s.heap) (hp : typeIn K (.ref p) = some (.type "function"))
    (h : R (.ok (.ret (.ref p))) s) : codeAny (model prog w) A (.call (.builtin "function.__get__") ⟨[.ref p, .none, .ref C], []⟩) R s := by
  obtain ⟨o, ho, hc⟩ := Option.map_eq_some_iff.mp hp
  obtain ⟨hh, g, dr, t, os⟩ := s
  refine codeAny_call_builtin KF.slot_fn.plain KF.entry_fn (KF.slot_fn.check _ _ _ _ _ _ _ _ ⟨_, X _ _ ho, hc⟩ (KF.args_fn _ _ _) ?_)
  unfold Builtin.«function.__get__»
  refine wpAny_bind (wpAny_of_eq (a := ((.ref p : Value), (none : Option Value), some (.ref C : Value))) (by first | rfl | kernel_rfl) ?_)
  exact wpAny_pure h
end PySem.W

namespace OM
open PySem PySem.Spec PyProof.Rows L2
/-- what the written part says of an own exception class -/
structure OexB (K : PySem.W.Frag) (C : Addr) (tail : List Value) : Prop where
  cls : ∃ B newId initId nm q N bs bm sn sub ab col dd k0 k1 k2 k3 k5, BaseX B newId initId tail ∧ K.lookup C = some (excClassObj nm q C N bs bm true sn sub ab col dd k0 k1 k2 k3 k5 newId) ∧ refsT tail bm = true
  sa : PySem.W.findIn K (.ref C) "__setattr__" = some (some (.builtin "object.__setattr__"))
  exC : PySem.W.subIn K (.ref C) (.type "BaseException") = some true
  tyC : PySem.W.typeIn K (.ref C) = some (.type "type")
  kC : PySem.W.keepIn K (.ref C) = true
section
variable {X : Cx} {pins : List (Addr × Obj)} {σ : L2.St} {H : Hp} {s : Shared} {a C dx : Addr} {f : Str} {y : V} {u : Value} {fs : List (Str × V)} {Q : Unit → Shared → Prop} {E : Value → Shared → Prop} {A : Around} {tail : List Value}
theorem ostB_new (T : OexB X.K C tail) (I : Inv X pins σ H s) (e : H a = some (exo a C none)) (hno : PySem.W.findIn X.K (.ref C) f = some none) (ry : RelV y u)
    (h : ∀ dx s', H dx = none → dx ≠ a → Inv X pins σ (upd (upd H dx (exd dx [(f, y)])) a (exo a C (some dx))) s' → Q () s') : wpAny (model X.prog X.w) A (setAttr (.ref a) f u) Q E s := by
  obtain ⟨B, newId, initId, nm, q, N, bs, bm, sn, sub, ab, col, dd, k0, k1, k2, k3, k5, Y, hC, hbm⟩ := T.cls
  have hcl : PySem.W.clsIn X.K C = some { name := nm, bases := bs, mro := .ref C :: bm, ns := N, qualname := q, hasDict := true, slotNames := sn, subclasses := sub, abstract := ab, collection := col, hasDel := false } := by unfold PySem.W.clsIn; rw [hC] <;> rfl
  obtain ⟨t1, ho⟩ := exo_at I.hok e
  obtain ⟨hp, g, d, t, os⟩ := s
  refine PySem.W.set_plain I.kIn (ox := { cls := .ref C, dict := none, data := .fields #[.ref t1, .none, .none, .none, .bool false, .none] }) (od := none) ⟨ho, rfl, rfl, trivial⟩ T.sa ?_
  refine osaX Y I.kIn ho hcl (show refsT tail (.ref C :: bm) = true from hbm) rfl hno (fun h' tk' dx k dn dne hx hn => ?_)
  have hnd : H dx = none := I.hok.fresh dn
  have nd : ∀ {b : Addr} {o : Obj}, hp.get? b = some o → b ≠ dx := fun {b o} q => Nat.ne_of_lt (Nat.lt_of_lt_of_le (Heap.lt_size q) dn)
  have na : ∀ {b : Addr}, H b = none → b ≠ a := fun {b} n z => by
    rw [z, e] at n
    cases n
  have Un1 : Un X.fs [] H (upd (upd H dx (exd dx [(f, y)])) a (exo a C (some dx))) hp h' := {
    keep := fun b o q n _ _ => k b o (na n) q
    slot := fun b o q n _ _ => ⟨o.slots, k b o (na n) q⟩
    free := fun b o q n _ => by rw [upd_ne (na n), upd_ne (nd q)]; exact n
    there := fun b o q _ => by
      by_cases hb : b = a
      · exact ⟨_, by rw [hb]; exact hx⟩
      · exact ⟨o, k b o hb q⟩
    tups := fun b xs q => by rw [upd_ne (at_ne e q exo_tup), upd_ne (ne_of_none q hnd)]; exact q
    frzs := fun b o v q => by rw [upd_ne (at_ne e q exo_frz), upd_ne (ne_of_none q hnd)]; exact q
    tbls := fun b ps q => ⟨#[], by rw [upd_ne (at_ne e q exo_tbl), upd_ne (ne_of_none q hnd), q]; simp⟩ }
  refine h dx _ hnd dne (I.un (t' := tk') Un1 fun b o q => ?_)
  by_cases hb : b = a
  · subst hb
    rw [upd_same] at q
    cases q
    exact exo_ok hx
  · rw [upd_ne hb] at q
    by_cases hd : b = dx
    · subst hd
      rw [upd_same] at q
      cases q
      exact exd_ok hn (relO_put (fs := []) ry fun g => True.intro)
    · rw [upd_ne hd] at q
      exact (I.hok b o q).stay (fun c v hc z => k c v (by
          rcases hc with hc | hc
          · rw [hc]
            exact hb
          · exact at_ne e hc exo_own) z)
        (fun c hc => by rw [upd_ne (at_ne e hc exo_own), upd_ne (ne_of_none hc hnd)]; exact hc) (fun c xs hc => by rw [upd_ne (at_ne e hc exo_tup), upd_ne (ne_of_none hc hnd)]; exact hc)
theorem ostB_old (T : OexB X.K C tail) (I : Inv X pins σ H s) (e : H a = some (exo a C (some dx))) (ed : H dx = some (exd dx fs)) (hl : fs.length ≤ 900) (hno : PySem.W.findIn X.K (.ref C) f = some none) (ry : RelV y u)
    (h : ∀ s', Inv X pins σ (upd H dx (exd dx ((f, y) :: fs))) s' → Q () s') : wpAny (model X.prog X.w) A (setAttr (.ref a) f u) Q E s := by
  obtain ⟨B, newId, initId, nm, q, N, bs, bm, sn, sub, ab, col, dd, k0, k1, k2, k3, k5, Y, hC, hbm⟩ := T.cls
  have hcl : PySem.W.clsIn X.K C = some { name := nm, bases := bs, mro := .ref C :: bm, ns := N, qualname := q, hasDict := true, slotNames := sn, subclasses := sub, abstract := ab, collection := col, hasDel := false } := by unfold PySem.W.clsIn; rw [hC] <;> rfl
  obtain ⟨t1, ho⟩ := exo_at I.hok e
  obtain ⟨mA, hns, rel⟩ := exd_at I.hok ed
  have hw := within_of rel
  obtain ⟨hp, g, d, t, os⟩ := s
  obtain ⟨oD, _, _, hoD, _, _⟩ := hns.count hw
  refine PySem.W.set_plain I.kIn (ox := { cls := .ref C, dict := some dx, data := .fields #[.ref t1, .none, .none, .none, .bool false, .none] }) (od := some oD) ⟨ho, rfl, rfl, hoD⟩ T.sa ?_
  refine osaX_old Y I.kIn ho hns hw (by rw [List.length_map]; omega) hcl (show refsT tail (.ref C :: bm) = true from hbm) rfl hno (fun h' tk' k hn => ?_)
  have hd : ∃ o, h'.get? dx = some o := by
    obtain ⟨o, _, _, e', _⟩ := hn
    exact ⟨o, e'⟩
  exact h _ (I.write (t' := tk') (x := dx) (e := dx) (o := exd dx ((f, y) :: fs)) (by rw [ed]; exact True.intro) (.inl rfl) k hd (exd_ok hn (relO_put ry rel)))
/-- B.__init__(self, ..): nothing of it is told -/
theorem binit_ok {B nI initId : String} {tB : List Value} {us : List Value} {Q : Value → Shared → Prop} (Y : BaseX B nI initId tB) (T : OexB X.K C tail) (hB : tail.contains (.type B) = true) (I : Inv X pins σ H s) (e : H a = some (exo a C none)) (hl : us.length ≤ sizeLine)
    (h : ∀ s', Inv X pins σ H s' → Q .none s') : wpAny (model X.prog X.w) A (call (.builtin initId) (.ref a :: us)) Q E s := by
  obtain ⟨B', newId, initId', nm, q, N, bs, bm, sn, sub, ab, col, dd, k0, k1, k2, k3, k5, Y', hC, hbm⟩ := T.cls
  obtain ⟨t1, ho⟩ := exo_at I.hok e
  obtain ⟨hp, g, d, t, os⟩ := s
  refine wpAny_call (init_baseX Y hbm hB (I.kIn _ _ hC) ho hl fun h' t2 k hx => ?_)
  have J := I.write (t' := t) (x := a) (e := a) (o := exo a C none) (by rw [e]; exact True.intro) (.inl rfl) k ⟨_, hx⟩ (exo_ok hx)
  have eu : upd H a (exo a C none) = H := by
    funext b
    by_cases hb : b = a
    · rw [hb, upd_same, e]
    · rw [upd_ne hb]
  rw [eu] at J
  exact h _ J
end
/-- B.__init__(self, ..) -/
def tBin (K : PySem.W.Frag) (B : String) (ta : TA) : TE := fun σ H Q => ta σ H fun vs H1 => ∃ (a C : Addr) (tail : List Value) (ws : List V), vs = .ref a :: ws ∧ ws.length ≤ 1000 ∧ OexB K C tail ∧ tail.contains (.type B) = true ∧ H1 a = some (exo a C none) ∧ Q .non H1
/-- self.f = e -/
def tOsB (K : PySem.W.Frag) (f : Str) (to te : TE) : TS := fun D σ H => te σ H fun y H1 => to σ H1 fun x H2 => ∃ (a C : Addr) (tail : List Value), x = .ref a ∧ OexB K C tail ∧ PySem.W.findIn K (.ref C) f = some none ∧
  ((H2 a = some (exo a C none) ∧ ∀ dx, H2 dx = none → dx ≠ a → D.nx σ (upd (upd H2 dx (exd dx [(f, y)])) a (exo a C (some dx)))) ∨
    ∃ (dx : Addr) (fs : List (Str × V)), H2 a = some (exo a C (some dx)) ∧ H2 dx = some (exd dx fs) ∧ fs.length ≤ 900 ∧ D.nx σ (upd H2 dx (exd dx ((f, y) :: fs))))
/-- C.m(e, ..): a function of the class at C, called unbound -/
structure UMeth (K : PySem.W.Frag) (C : Addr) (m : Str) (f : Addr) : Prop where
  ga : PySem.W.specialIn K (.ref C) "__getattribute__" = some (some (.builtin "type.__getattribute__"))
  rd : PySem.W.readsIn K C (.type "type") = true
  at_ : PySem.W.findCls K (.ref C) (.type "type") m = some (.val (.ref f))
  ty : PySem.W.typeIn K (.ref f) = some (.type "function")
  kp : PySem.W.keepIn K (.ref f) = true
section
variable {X : Cx} {o e : Expr} {es : List Expr} {to te : TE} {ta : TA} {f : Str} {p p' p1 p2 pos apos : Pos} {x : Str}
theorem pe_binit {B nI initId : String} {tB : List Value} {pl : Sem Bool} (Y : BaseX B nI initId tB) (hg : Gl X x) (hm : X.mg x = none) (hv : bootBuiltins x = some (.type B)) (vV : PySem.W.findCls X.K (.type B) (.type "type") "__init__" = some (.val (.builtin initId))) (hi : PySem.W.handedIn (.builtin initId) = true) (ha : PA X (e :: es) ta)
    (hn : x ≠ "__name__" := by decide) (hd : (x == ("__debug__" : Str)) = false := by decide)
    (hc : eval (.Call (.Attribute (.Name x p1) "__init__" p2) (e :: es) [] pos) X.env = (do
      let ov ← eval (.Name x p1) X.env
      standAt p2.atName
      let (f, first) ← holding [ov] (getMethod ov "__init__" pl)
      callWith pos f first (backTo pos (starEach (e :: es) X.env)) (backToKw pos (keywordEach [] X.env))) := by rfl)
    (he : starEach (e :: es) X.env = (false, eval e X.env) :: starEach es X.env := by rfl) (hpl : (backTo pos (starEach es X.env)).any (·.1) = false := by rfl) :
    PE X (.Call (.Attribute (.Name x p1) "__init__" p2) (e :: es) [] pos) (tBin X.K B ta) := by
  refine ⟨fun pins s σ H Q I h => ?_⟩
  refine PySem.W.methodCall_KW (ld_blt I hg hm hv ?_ hn hd) hc
  obtain ⟨m, fr⟩ := I.fr
  refine PySem.W.method_type fr I.ok.mod.kin Y.ty Y.stub vV hi ?_
  show wpAny _ _ (callWith pos (Value.builtin initId) [] (backTo pos (starEach (e :: es) X.env)) []) _ _ _
  refine PyProof.Rows.callWith_method1 (thn (ha.run pos pins _ σ H _ (I.tok _) h) fun us s1 ⟨vs, H1, I1, r1, a, C, tail, ws, ev, hl, T, hB, ea, q⟩ => ?_) he hpl
  subst ev
  cases r1 with
  | @cons _ u0 _ ur ra rw' =>
    obtain rfl : u0 = Value.ref a := ra
    have hlen : ur.length ≤ sizeLine := by
      rw [← Paired.length rw', sizeLine_eq]
      omega
    exact binit_ok Y T hB I1 ea hlen fun s' J => ⟨.non, H1, J, rfl, q⟩
theorem ps_ostB (ho : PE X o to) (he : PE X e te) (hs : swapsWith e (some (.Attribute o f p')) pos.line X.env = pure false := by rfl) : PS X (.Assign [.Attribute o f p'] e pos) (tOsB X.K f to te) := by
  refine ⟨fun pins s σ H D I h => ?_⟩
  refine plainObj_wpAny_Assign_Attribute (thn (he.run pins s σ H _ I h) fun v s1 ⟨y, H1, I1, r1, q1⟩ => thn (ho.run pins s1 σ H1 _ I1 q1) fun u s2 ⟨x, H2, I2, r2, a, C, tail, ex, T, hno, q⟩ => ?_) hs
  subst ex
  obtain rfl : u = Value.ref a := r2
  rcases q with ⟨ea, q⟩ | ⟨dx, fs, ea, ed, hl, q⟩
  · exact ostB_new T I2 ea hno r1 fun dx s' n ne J => ⟨σ, _, J, q dx n ne⟩
  · exact ostB_old T I2 ea ed hl hno r1 fun s' J => ⟨σ, _, J, q⟩
def tUMe (C : Addr) (sp : Sp) (E : XK) (to : TE) (t : TA) : TE := fun σ H Q => to σ H fun x H1 => x = .ref C ∧ t σ H1 fun vs H2 => sp vs H2 Q E
theorem pe_umeth {CX : CXT} {k : Nat} {C fn : Addr} {m : Str} {fd : FuncData} {ps : List Str} {sp : Sp} {E : XK} {pl : Sem Bool} (ho : PE X o to) (U : UMeth X.K C m fn) (F : FnOk X.prog X.w X.K X.mg X.base CX k fn fd ps sp) (hr : Room k X.A) (hb : Binds X.K fd ps []) (hx : Passes CX X E) (ha : PA X (e :: es) ta)
    (hst : starEach (e :: es) X.env = (false, eval e X.env) :: starEach es X.env := by rfl) (hpl : (backTo pos (starEach es X.env)).any (·.1) = false := by rfl)
    (ht : eval (.Call (.Attribute o m apos) (e :: es) [] pos) X.env = (do
      let ov ← eval o X.env
      standAt apos.atName
      let (f, first) ← holding [ov] (getMethod ov m pl)
      callWith pos f first (backTo pos (starEach (e :: es) X.env)) (backToKw pos (keywordEach [] X.env))) := by rfl) :
    PE X (.Call (.Attribute o m apos) (e :: es) [] pos) (tUMe C sp E to ta) := by
  refine ⟨fun pins s σ H Q I h => ?_⟩
  refine PySem.W.methodCall_KW (pl := pl) (thn (ho.run pins s σ H _ I h) fun u s1 ⟨x, H1, I1, rx, ex, q⟩ => ?_) ht
  subst ex
  obtain rfl : u = Value.ref C := rx
  refine PySem.W.method_cls I1.kIn U.ga (PySem.W.cls_value I1.kIn U.rd U.at_ rfl ?_)
  have I2 : Inv X pins σ H1 { s1 with toks := s1.toks + 1 } := I1.tok _
  refine PySem.W.callWith_K (first := []) (h₀ := X.base) I.ok.mod.kin U.kp (thn (ha.run pos pins _ σ H1 _ I2 q) fun us s3 ⟨vs, H2, I3, rv, q2⟩ => ⟨I3.kIn, ?_⟩) hst hpl
  have q3 : sp (vs ++ []) H2 Q E := by rw [List.append_nil]; exact q2
  exact run_fn F hr hb (dvs := []) (ds := []) .nil hx I3 rv q3
end
end OM

namespace PySem.W
open PySem PySem.Spec PySem.Calls PyProof.Rows
theorem om_forIn_pass {M : Model} {A : Around} {β : Type} {f : Value → β → Sem (ForInStep β)} {b : β} {E : Value → Shared → Prop} {s : Shared} : ∀ {l : List Value} {Q : β → Shared → Prop},
    (∀ c ∈ l, ∀ (Q : ForInStep β → Shared → Prop), Q (.yield b) s → wpAny M A (f c b) Q E s) → Q b s → wpAny M A (forIn l b f) Q E s
  | [], Q, _, q => by
    rw [List.forIn_nil]
    exact wpAny_pure q
  | c :: l, Q, h, q => by
    rw [List.forIn_cons]
    refine wpAny_bind (h c List.mem_cons_self _ ?_)
    exact om_forIn_pass (fun c hc => h c (List.mem_cons_of_mem _ hc)) q
theorem om_forIn_any {M : Model} {A : Around} {β : Type} {f : Value → β → Sem (ForInStep β)} {b x : β} {E : Value → Shared → Prop} {s : Shared} (g : Value → Bool) : ∀ {l : List Value} {Q : β → Shared → Prop},
    (∀ c ∈ l, ∀ (Q : ForInStep β → Shared → Prop), Q (if g c = true then .done x else .yield b) s → wpAny M A (f c b) Q E s) → Q (if l.any g = true then x else b) s → wpAny M A (forIn l b f) Q E s
  | [], Q, _, q => by
    rw [List.forIn_nil]
    exact wpAny_pure q
  | c :: l, Q, h, q => by
    rw [List.forIn_cons]
    refine wpAny_bind (h c List.mem_cons_self _ ?_)
    rw [List.any_cons] at q
    cases e : g c with
    | true =>
      rw [e, Bool.true_or, if_pos rfl] at q
      rw [if_pos rfl]
      exact wpAny_pure q
    | false =>
      rw [e, Bool.false_or] at q
      rw [if_neg Bool.false_ne_true]
      exact om_forIn_any g (fun c hc => h c (List.mem_cons_of_mem _ hc)) q
theorem om_exmAny_all {K : Frag} {cls : Value} : ∀ {l : List Value} {b : Bool}, exmAny K cls l = some b → (∀ c ∈ l, exmOne K cls c = some (exmOne K cls c == some true)) ∧ b = l.any fun c => exmOne K cls c == some true
  | [], b, h => by
    have e : some false = some b := h
    cases e
    exact ⟨fun c hc => (nomatch hc), rfl⟩
  | c :: l, b, h => by
    obtain ⟨b1, d1, h1, h2, rfl⟩ := exmAny_cons h
    obtain ⟨i1, i2⟩ := om_exmAny_all h2
    refine ⟨fun x hx => ?_, ?_⟩
    · rcases List.mem_cons.mp hx with rfl | hx
      · rw [h1]
        cases b1 <;> rfl
      · exact i1 x hx
    · rw [List.any_cons, h1, ← i2]
      cases b1 <;> rfl
theorem om_exm_tup {M : Model} {K : Frag} {cs : List Value} {cls : Value} {tp e : Addr} {b : Bool} {h : Heap} {ot : Obj} {nt : Nat} (X : K.In h) (LT : Looks M h (typeOf (.ref e)) cls) (hp : h.get? tp = some ot) (hoc : ot.cls = .type "tuple") (hod : ot.data = .seq cs.toArray nt) (hx : exmAny K cls cs = some b) :
    Looks M h (excMatches (.ref e) (.ref tp)) b := by
  intro A Q E s k₀ q
  obtain ⟨hh, g, d, tk, os⟩ := s
  have k : ∀ b o, h.get? b = some o → hh.get? b = some o := k₀
  obtain ⟨oc, odd, odt, osl⟩ := ot
  dsimp only at hoc hod
  subst hoc hod
  have LT0 : Looks M h (isInstance (.ref tp) (.type "tuple")) true := ((Looks.ld hp).andThen .now).andThen (Looks.of_pure isSubtype_tuple_tuple)
  obtain ⟨hall, hb⟩ := om_exmAny_all hx
  have LT := LT.keeps k
  have LT0 := LT0.keeps k
  have hp' := k _ _ hp
  unfold excMatches
  refine wpAny_bind (LT0.at ?_)
  dsimp only
  rw [if_pos rfl]
  first
    | refine wpAny_bind (wpAny_seqItems hp' rfl ?_)
    | refine wpAny_bind (wpAny_bind (wpAny_seqItems hp' rfl (wpAny_pure ?_)))
  dsimp only [Option.getD_some, Option.getD]
  refine wpAny_bind (wpAny_pure ?_)
  refine wpAny_bind (om_forIn_pass (fun c hc Q q => ?_) ?_)
  · refine wpAny_bind (((exm_cls (M := M) X (hall c hc)).1.keeps k).at ?_)
    simp only [Bool.not_true, Bool.false_eq_true, if_false]
    exact wpAny_pure q
  · refine wpAny_bind (LT.at ?_)
    refine wpAny_bind (om_forIn_any (fun c => exmOne K cls c == some true) (x := (some true, ())) (fun c hc Q q => ?_) ?_)
    · refine wpAny_bind (((exm_cls (M := M) X (hall c hc)).2.keeps k).at ?_)
      cases e : (exmOne K cls c == some true) with
      | true =>
        rw [e, if_pos rfl] at q
        rw [if_pos rfl]
        exact wpAny_pure q
      | false =>
        rw [e, if_neg Bool.false_ne_true] at q
        rw [if_neg Bool.false_ne_true]
        exact wpAny_pure q
    · rw [← hb]
      cases b with
      | true =>
        rw [if_pos rfl]
        exact wpAny_pure q
      | false =>
        rw [if_neg Bool.false_ne_true]
        exact wpAny_pure q
end PySem.W

namespace PySem.W
open PySem PySem.Spec PySem.Calls PyProof.Rows
section
variable {prog : Program} {w : World} {A : Around} {E : Value → Shared → Prop} {s : Shared} {K : Frag} {x D : Addr} {ox : Obj}
theorem om_findObj_data {C : Addr} {od : Option Obj} {name : Str} {a g : Value} (hc : (clsIn K C).isSome = true) (ha : findIn K (.ref C) name = some (some a)) (hg : specialIn K a "__get__" = some (some g)) (ht : takesIn K a = some true) : findObj K C od name = some (.bind g a) := by
  obtain ⟨cd, hc⟩ := Option.isSome_iff_exists.mp hc
  unfold findObj
  rw [hc, Option.bind_some, ha, Option.bind_some]
  simp [hg, ht]
theorem om_classE {od : Option Obj} {Q : Option Value → Shared → Prop} (hga : findIn K (.ref D) "__getattribute__" = some (some (.builtin "BaseException.__getattribute__"))) (hgt : findIn K (.ref D) "__getattr__" = some none) (hsub : subIn K (.ref D) (.type "BaseException") = some true)
    (hdct : hasDictIn K D = true) (ha : findIn K (.ref D) "__class__" = some (some (.builtin "object.__class__")))
    (hn : specialIn K (.builtin "object.__class__") "__get__" = some (some (.builtin "getset_descriptor.__get__"))) (htk : takesIn K (.builtin "object.__class__") = some true) (hm : mroIn K D (.type "object") = some true)
    (X : K.In s.heap) (I : InstAt s.heap x ox D od) (h : Q (some (.ref D)) { s with toks := s.toks + 1 }) : wpAny (model prog w) A (getAttr? (.ref x) "__class__") Q E s := by
  have hf : findObj K D od "__class__" = some (.bind (.builtin "getset_descriptor.__get__") (.builtin "object.__class__")) := om_findObj_data (by obtain ⟨cd, hc, _⟩ := any_some hdct; rw [hc]; rfl) ha hn htk
  obtain ⟨hp, g, d, t, os⟩ := s
  have L0 := I.type (M := model prog w)
  have L1 := looks_findIn (M := model prog w) X hga
  have L2 := looks_findIn (M := model prog w) X hgt
  have L3 := looks_find (M := model prog w) X I hf
  have sub : Looks (model prog w) hp (isInstance (.ref x) (.type "BaseException")) true := L0.andThen (looks_subIn X hsub)
  have hx0 : (false && onTheHeap (Value.builtin "BaseException.__getattribute__")) = false := rfl
  have hx2 : (Value.builtin "BaseException.__getattribute__" == Value.builtin "object.__getattribute__") = false := by decide +kernel
  have hx1 : (onTheHeap (Value.ref D) && Value.builtin "BaseException.__getattribute__" == Value.builtin "object.__getattribute__") = false := by rw [hx2]; rfl
  unfold getAttr? getAttrBy? getAttrBy
  refine wpAny_bind (wpAny_mkText (wpAny_bind (wpAny_attempt (wpAny_holding (wpAny_bind (L0.at (wpAny_bind (L1.at ?_))))))))
  show wpAny _ _ (if (onTheHeap (Value.ref D) && Value.builtin "BaseException.__getattribute__" == Value.builtin "object.__getattribute__") = true then _ else _) _ _ _
  rw [hx1, if_neg Bool.false_ne_true]
  unfold getAttrByItsOwn hookBefore
  refine wpAny_bind ?_
  rw [if_pos (show onTheHeap (Value.ref D) = true from rfl)]
  refine L2.at ?_
  refine wpAny_bind (wpAny_attempt (wpAny_holding ?_))
  unfold callGetattribute
  rw [hx0, if_neg Bool.false_ne_true]
  unfold boundAndCalled
  rw [PySem.F.excAttr_ValueError.ga.bind (.ref x)]
  refine wpAny_bind (wpAny_pure ?_)
  show wpAny _ _ (call (.builtin "BaseException.__getattribute__") [.ref x, .str "__class__" t]) _ _ _
  refine wpAny_call (codeAny_call_builtin PySem.F.excAttr_ValueError.ga.plain PySem.F.entry_bexc_ga ?_)
  refine @check_slot (model prog w) _ _ ⟨hp, g, d, t + 1, os⟩ "BaseException.__getattribute__" "BaseException" "__getattribute__" (.ref x) [.str "__class__" t] [] _ (by decide +kernel) (by decide +kernel) sub (PySem.F.args_bexc_ga (.ref x) (.str "__class__" t)) ?_
  unfold Builtin.«object.__getattribute__»
  refine wpAny_bind (wpAny_of_eq (a := ((Value.ref x : Value), [Value.str "__class__" t])) (by first | rfl | (simp only [slotArgs]; rfl)) ?_)
  refine wpAny_bind (wpAny_pure (wpAny_bind (L0.at (wpAny_bind (L3.at ?_)))))
  show wpAny _ _ (holding [Value.builtin "object.__class__"] (call (.builtin "getset_descriptor.__get__") [.builtin "object.__class__", .ref x, .ref D]) >>= ret) _ _ _
  refine wpAny_bind (wpAny_holding (wpAny_call (class_get (s := ⟨hp, g, d, t + 1, os⟩) (ox := ox) (od := od) X I hm ?_)))
  refine wpAny_pure ?_
  show wpAny _ _ (handedOut (.ref D)) _ _ _
  rw [handedOut_of (v := .ref D) rfl]
  first
    | exact wpAny_pure (wpAny_pure h)
    | exact wpAny_pure h
    | exact wpAny_pure (wpAny_bind (wpAny_pure (wpAny_pure h)))
theorem om_kitx_exc {od : Option Obj} (hga : findIn K (.ref D) "__getattribute__" = some (some (.builtin "BaseException.__getattribute__"))) (hgt : findIn K (.ref D) "__getattr__" = some none) (hsub : subIn K (.ref D) (.type "BaseException") = some true) (hdct : hasDictIn K D = true) (ha : findIn K (.ref D) "__class__" = some (some (.builtin "object.__class__")))
    (hn : specialIn K (.builtin "object.__class__") "__get__" = some (some (.builtin "getset_descriptor.__get__"))) (htk : takesIn K (.builtin "object.__class__") = some true) (hm : mroIn K D (.type "object") = some true) :
    KitX K (.ref x) (.ref D) (fun h => InstAt h x ox D od) where
  ty := fun _ _ _ I => I.type
  it := fun _ _ X _ => by
    obtain ⟨cdD, hcD, _⟩ := any_some hdct
    unfold clsIn at hcD
    split at hcD
    · rename_i c' d' cd' sl' ho
      intro A' Q' E' s' k q
      unfold isType loadHead
      exact wpAny_bind (wpAny_loadPart (k _ _ (X _ _ ho)) (wpAny_pure q))
    · cases hcD
  ne := fun h tp dd its n sl X htp => by
    obtain ⟨cdD, hcD, _⟩ := any_some hdct
    refine Bool.eq_false_iff.mpr fun q => ?_
    have e : D = tp := Value.ref.inj (beq_iff_eq.mp q)
    subst e
    unfold clsIn at hcD
    split at hcD
    · rename_i c' d' cd' sl' ho
      have z := (X _ _ ho).symm.trans htp
      cases z
    · cases hcD
  ca := fun X I k => om_classE hga hgt hsub hdct ha hn htk hm X I k
end
end PySem.W

namespace OM
open PySem PySem.Spec PyProof.Rows L2
/-- the type of an exception that is tracked, or of None -/
inductive TyE (K : PySem.W.Frag) (H : Hp) : V → Value → Prop where
  | base {x : V} {t : Value} (h : TyX K H x t) : TyE K H x t
  | exc {a C : Addr} : ExcC K C → H a = some (exo a C none) → TyE K H (.ref a) (.ref C)
  | excD {a C dx : Addr} {fs : List (Str × V)} : ExcC K C → H a = some (exo a C (some dx)) → H dx = some (exd dx fs) → TyE K H (.ref a) (.ref C)
def rIsB (K : PySem.W.Frag) : List V → Hp → VK → Prop := fun xs H Q => ∃ (x c : V) (t u : Value) (b : Bool), xs = [x, c] ∧ ClsV c u ∧ TyE K H x t ∧ PySem.W.kitOne K t u = some b ∧ Q (.bl b) H
section
variable {X : Cx}
theorem exo_inst {P : Program} {w : World} {H : Hp} {h : Heap} {a C : Addr} (hok : HOk P w H h) (e : H a = some (exo a C none)) : ∃ ox, PySem.W.InstAt h a ox C none := by
  obtain ⟨t1, ho⟩ := exo_at hok e
  exact ⟨_, ho, rfl, rfl, trivial⟩
theorem exo_instD {P : Program} {w : World} {H : Hp} {h : Heap} {a C dx : Addr} {fs : List (Str × V)} (hok : HOk P w H h) (e : H a = some (exo a C (some dx))) (ed : H dx = some (exd dx fs)) : ∃ ox od, PySem.W.InstAt h a ox C (some od) ∧ ∀ f v, fs.lookup f = some v → ∃ u, RelV v u ∧ PySem.W.lookIn f od = some (some u) := by
  obtain ⟨t1, ho⟩ := exo_at hok e
  obtain ⟨mA, hns, rel⟩ := exd_at hok ed
  obtain ⟨od, hod, hl⟩ := lookIn_ns hns
  refine ⟨_, od, ⟨ho, rfl, rfl, hod⟩, fun f v e => ?_⟩
  obtain ⟨u, hu, ru⟩ := RelO.some_of (v := v) (o := mA f) (by rw [← e]; exact rel f)
  exact ⟨u, ru, by rw [hl, hu]⟩
theorem call_isB : CallR X (.builtin "isinstance") (rIsB X.K) := by
  intro pins s σ H xs us Q I r h
  obtain ⟨x, c, t, u, b, rfl, k, ty, e, q⟩ := h
  obtain ⟨u1, u2, rfl, r1, r2⟩ := vals2 r
  have e2 := k.eq r2
  subst e2
  cases ty with
  | base h0 =>
    obtain ⟨P, Z, p, hx⟩ := kit_of I r1 h0
    exact PySem.W.kia_one Z I.kIn p e hx fun tk => ⟨.bl b, H, I.tok tk, rfl, q⟩
  | @exc a C T ea =>
    obtain rfl : u1 = Value.ref a := r1
    obtain ⟨ox, J⟩ := exo_inst I.hok ea
    exact PySem.W.kia_one (PySem.W.om_kitx_exc T.hg T.hk T.hs T.hd T.ha T.hn T.ht T.hm) I.kIn J e (fun z => nomatch z) fun tk => ⟨.bl b, H, I.tok tk, rfl, q⟩
  | @excD a C dx fs T ea ed =>
    obtain rfl : u1 = Value.ref a := r1
    obtain ⟨ox, od, J, _⟩ := exo_instD I.hok ea ed
    exact PySem.W.kia_one (PySem.W.om_kitx_exc T.hg T.hk T.hs T.hd T.ha T.hn T.ht T.hm) I.kIn J e (fun z => nomatch z) fun tk => ⟨.bl b, H, I.tok tk, rfl, q⟩
/-- e.f, e an exception that is tracked -/
def tXfB (K : PySem.W.Frag) (f : Str) (te : TE) : TE := fun σ H Q => te σ H fun x H1 => ∃ (a C dx : Addr) (fs : List (Str × V)) (v : V), x = .ref a ∧ XfC K C ∧ PySem.W.findIn K (.ref C) f = some none ∧ H1 a = some (exo a C (some dx)) ∧ H1 dx = some (exd dx fs) ∧ fs.lookup f = some v ∧ Q v H1
theorem pe_xfB {e : Expr} {te : TE} {pos : Pos} {n : Str} (he : PE X e te) (hb : attributeBase e n X.env (eval e X.env) = eval e X.env := by rfl) : PE X (.Attribute e n pos) (tXfB X.K n te) := by
  refine ⟨fun pins s σ H Q I h => ?_⟩
  refine attr_of hb (thn (he.run pins s σ H _ I h) fun u s1 hh => ?_)
  obtain ⟨x, H1, I1, rx, a, C, dx, fs, v, ex, T, hno, ea, ed, l, q⟩ := hh
  subst ex
  obtain rfl : u = Value.ref a := rx
  obtain ⟨ox, od, J, hl⟩ := exo_instD I1.hok ea ed
  obtain ⟨u, ru, hu⟩ := hl n v l
  exact HandSPX.exc_get I1.kIn J T.ga T.gg T.exC (PySem.W.findObj_own T.hdC hno rfl hu) (handed_of ru) ⟨v, H1, I1.tok _, ru, q⟩
end

/-! ### making -/
structure MkB (K : PySem.W.Frag) (C fI : Addr) (tail : List Value) : Prop where
  T : OexB K C tail
  iC : PySem.W.findIn K (.ref C) "__init__" = some (some (.ref fI))
  tI : PySem.W.typeIn K (.ref fI) = some (.type "function")
section
variable {X : Cx} {CX : CXT} {k : Nat} {fI C : Addr} {fd : FuncData} {ps : List Str} {sp : Sp} {dvs : List V} {ds : List Value} {x : Str} {p pos : Pos} {e : Expr} {es : List Expr} {ta : TA} {tail : List Value}
theorem run_mkB {pins : List (Addr × Obj)} {σ : L2.St} {H : Hp} {s : Shared} {R : Value → Shared → Prop} {us : List Value} {vs : List V} {RR : Addr → Hp → Prop} (M : MkB X.K C fI tail) (F : FnOk X.prog X.w X.K X.mg X.base CX k fI fd ps sp) (hr : Room (k + 1) X.A) (hb : Binds X.K fd ps ds) (hd : Vals dvs ds)
    (hx : Passes CX X E0) (I : Inv X pins σ H s) (r : Vals vs us) (hz : vs.length ≤ 1000)
    (h : ∀ a, H a = none → sp (.ref a :: (vs ++ dvs)) (upd H a (exo a C none)) (fun v H2 => v = .non ∧ RR a H2) E0)
    (hR : ∀ s2 H2 hp2, s.heap.objs.size ≤ s.heap.objs.size + 1 → (∀ b o, s.heap.get? b = some o → hp2.get? b = some o) → Un (frs X.stack) [] (upd H (s.heap.objs.size + 1) (exo (s.heap.objs.size + 1) C none)) H2 hp2 s2.heap → HOk X.prog X.w H2 s2.heap → s2.os = s.os → AllBare s2.gens →
      Inv X pins σ H2 s2 → RR (s.heap.objs.size + 1) H2 → R (.ref (s.heap.objs.size + 1)) s2) :
    wpAny (model X.prog X.w) X.A (call (.ref C) us) R X.xe s := by
  obtain ⟨B, newId, initId, nm, q, N, bs, bm, sn, sub, ab, col, dd, k0, k1, k2, k3, k5, Y, hC, hbm⟩ := M.T.cls
  obtain ⟨hp, g, dr, tk, os⟩ := s
  have hsz : hp.objs.size ≤ hp.objs.size + 1 := Nat.le_succ _
  have hn : H (hp.objs.size + 1) = none := I.hok.fresh hsz
  have hq := h (hp.objs.size + 1) hn
  have kk : ∀ b o, hp.get? b = some o → ((hp.push (PySem.W.kdv_tup us)).push (PySem.HandSPX.excO C hp.objs.size)).get? b = some o := fun b o e => Heap.get?_push_of_some _ (Heap.get?_push_of_some _ e)
  have hget : ((hp.push (PySem.W.kdv_tup us)).push (PySem.HandSPX.excO C hp.objs.size)).get? (hp.objs.size + 1) = some (PySem.HandSPX.excO C hp.objs.size) := by heap_get
  have I2 : Inv X pins σ (upd H (hp.objs.size + 1) (exo (hp.objs.size + 1) C none)) ⟨(hp.push (PySem.W.kdv_tup us)).push (PySem.HandSPX.excO C hp.objs.size), g, dr, tk, os⟩ :=
    I.laid (t' := tk) (a := hp.objs.size + 1) (o := exo (hp.objs.size + 1) C none) (h' := (hp.push (PySem.W.kdv_tup us)).push (PySem.HandSPX.excO C hp.objs.size)) kk hsz (exo_ok hget)
  have r2 : Vals (V.ref (hp.objs.size + 1) :: (vs ++ dvs)) (Value.ref (hp.objs.size + 1) :: (us ++ ds)) := .cons rfl (r.append hd)
  have hl : (Value.ref (hp.objs.size + 1) :: us ++ ds).length = ps.length := by
    have e := r2.length
    rw [F.len _ _ _ _ hq] at e
    exact e.symm
  have hus : us.length ≤ sizeLine := by
    rw [← Paired.length r, sizeLine_eq]
    omega
  refine wpAny_call (callX Y hbm (I.kIn _ _ hC) (PySem.W.looks_findIn I.kIn M.iC) (fun self => PySem.W.bind_fn I.kIn self M.tI) hus
    (codeAny_mono (F.run _ X.stack _ _ ⟨Value.ref (hp.objs.size + 1) :: us, []⟩ (Value.ref (hp.objs.size + 1) :: (us ++ ds)) _ _ E0 (hr.make C us []) (I2.env0.make C us []) (hb _ (Value.ref (hp.objs.size + 1) :: us) I2.kIn hl) r2 hq) fun r s' hq' => ?_))
  cases r with
  | error er => exact hx pins σ _ _ er s' I2 hq'
  | ok fl =>
    cases fl with
    | ret u =>
      have hq2 := hq'
      obtain ⟨v, H2, os2, bare2, un2, hok2, rv, ev, rr⟩ := hq2
      subst ev
      obtain ⟨_, _, I3, _, _⟩ := I2.after (Q := fun _ _ => True) ⟨.non, H2, os2, bare2, un2, hok2, rv, trivial⟩
      have I3' : Inv X pins σ H2 s' := I2.call' (ch := []) os2 un2 hok2 bare2 (fun b z => absurd z (by simp))
      exact ⟨rv, hR s' H2 _ hsz kk un2 hok2 os2 bare2 I3' rr⟩
    | next => exact False.elim hq'
    | brk => exact False.elim hq'
    | cont => exact False.elim hq'
/-- C(e, ..) as a value: a new exception, tracked -/
def tMkV (C : Addr) (sp : Sp) (dvs : List V) (ta : TA) : TE := fun σ H Q => ta σ H fun vs H1 => vs.length ≤ 1000 ∧ ∀ a, H1 a = none → sp (.ref a :: (vs ++ dvs)) (upd H1 a (exo a C none)) (fun v H2 => v = .non ∧ Q (.ref a) H2) E0
theorem pe_mkV (M : MkB X.K C fI tail) (F : FnOk X.prog X.w X.K X.mg X.base CX k fI fd ps sp) (hr : Room (k + 1) X.A) (hg : Gl X x) (hm : X.mg x = some (.ref C)) (hb : Binds X.K fd ps ds) (hd : Vals dvs ds) (hx : Passes CX X E0)
    (ha : PA X (e :: es) ta) (hdb : (x == ("__debug__" : Str)) = false := by decide) (he : starEach (e :: es) X.env = (false, eval e X.env) :: starEach es X.env := by rfl) (hpl : (backTo pos (starEach es X.env)).any (·.1) = false := by rfl) :
    PE X (.Call (.Name x p) (e :: es) [] pos) (tMkV C sp dvs ta) := by
  refine ⟨fun pins s σ H Q I h => ?_⟩
  refine wpAny_Call_Name_kw (ld_glob I hg hm ?_ hdb)
  refine PySem.W.callWith_K (h₀ := X.base) I.ok.mod.kin M.T.kC (thn (ha.run pos pins s σ H _ I h) fun us s1 ⟨vs, H1, I1, r, hz, q⟩ => ⟨I1.kIn, ?_⟩) he hpl
  exact run_mkB (RR := fun a H2 => Q (.ref a) H2) M F hr hb hd hx I1 r hz q fun s2 H2 hp2 _ _ _ _ _ _ I2 rr => ⟨.ref _, H2, I2, rfl, rr⟩
theorem pe_mkV0 (M : MkB X.K C fI tail) (F : FnOk X.prog X.w X.K X.mg X.base CX k fI fd ps sp) (hr : Room (k + 1) X.A) (hg : Gl X x) (hm : X.mg x = some (.ref C)) (hb : Binds X.K fd ps ds) (hd : Vals dvs ds) (hx : Passes CX X E0)
    (hdb : (x == ("__debug__" : Str)) = false := by decide) : PE X (.Call (.Name x p) [] [] pos) (tMkV C sp dvs tNil) := by
  refine ⟨fun pins s σ H Q I h => ?_⟩
  refine wpAny_Call_Name_kw (ld_glob I hg hm ?_ hdb)
  refine PySem.W.callWith_K0 I.kIn M.T.kC ?_
  obtain ⟨hz, q⟩ := (show ([] : List V).length ≤ 1000 ∧ _ from h)
  exact run_mkB (us := []) (vs := []) (RR := fun a H2 => Q (.ref a) H2) M F hr hb hd hx I .nil hz q fun s2 H2 hp2 _ _ _ _ _ _ I2 rr => ⟨.ref _, H2, I2, rfl, rr⟩
/-- a made exception without a dict is let go -/
theorem mk_endN {pins : List (Addr × Obj)} {σ : L2.St} {H1 H2 : Hp} {hp hp2 h2 : Heap} {g1 g2 : Array GenState} {d1 d2 : Drawn} {t1 t2 : Nat} {os1 os2 : OsState} {a C : Addr} (I1 : Inv X pins σ H1 ⟨hp, g1, d1, t1, os1⟩)
    (ha : hp.objs.size ≤ a) (k : ∀ b o, hp.get? b = some o → hp2.get? b = some o) (un : Un (frs X.stack) [] (upd H1 a (exo a C none)) H2 hp2 h2) (hok : HOk X.prog X.w H2 h2) (ho : os2 = os1) (hb : AllBare g2)
    (ea : H2 a = some (exo a C none)) :
    ∃ (t0 : Addr) (G : Heap), Inv X pins σ (del H2 a) ⟨G, g2, d2, t2, os2⟩ ∧ (∀ b o, G.get? b = some o → h2.get? b = some o) ∧ G.get? a = none ∧
      h2.get? a = some ({ cls := .ref C, dict := none, data := .fields #[.ref t0, .none, .none, .none, .bool false, .none] } : Obj) ∧ (del H2 a) a = none := by
  obtain ⟨t0, hoe⟩ := exo_at hok ea
  have hn : H1 a = none := I1.hok.fresh ha
  obtain ⟨G, g1', g2'⟩ := restrict h2 fun b => decide (b ≠ a)
  have gk : ∀ b, b ≠ a → G.get? b = h2.get? b := fun b hb => g1' b (decide_eq_true hb)
  have ge : G.get? a = none := g2' a (by simp)
  have nha : ∀ {b : Addr} {o : Obj}, hp.get? b = some o → b ≠ a := fun {b o} z => Nat.ne_of_lt (Nat.lt_of_lt_of_le (Heap.lt_size z) ha)
  have up : ∀ {b : Addr}, b ≠ a → H1 b = none → upd H1 a (exo a C none) b = none := fun {b} hb n => by rw [upd_ne hb]; exact n
  have U : Un (frs X.stack) [] H1 (del H2 a) hp G := {
    keep := fun b o z n hf hx => by
      rw [gk b (nha z)]
      exact un.keep b o (k b o z) (up (nha z) n) hf hx
    slot := fun b o z n hf hx => by
      rw [gk b (nha z)]
      exact un.slot b o (k b o z) (up (nha z) n) hf hx
    free := fun b o z n hx => by
      rw [del_ne (nha z)]
      exact un.free b o (k b o z) (up (nha z) n) hx
    there := fun b o z hx => by
      rw [gk b (nha z)]
      exact un.there b o (k b o z) hx
    tups := fun b xs z => by
      rw [del_ne (ne_of_none z hn)]
      exact un.tups b xs (by rw [upd_ne (ne_of_none z hn)]; exact z)
    frzs := fun b o v z => by
      rw [del_ne (ne_of_none z hn)]
      exact un.frzs b o v (by rw [upd_ne (ne_of_none z hn)]; exact z)
    tbls := fun b ps z => by
      rw [del_ne (ne_of_none z hn)]
      exact un.tbls b ps (by rw [upd_ne (ne_of_none z hn)]; exact z) }
  have hok3 : HOk X.prog X.w (del H2 a) G := fun b o z => by
    have hba : b ≠ a := fun e => by
      rw [e, del_same] at z
      cases z
    rw [del_ne hba] at z
    have noa : ∀ {c : Addr}, H2 c = some (.own b) → c ≠ a := fun {c} hc => at_ne ea hc exo_own
    exact (hok b o z).stay (fun c v hc y => by
        have hca : c ≠ a := by
          rcases hc with hc | hc
          · rw [hc]
            exact hba
          · exact noa hc
        rw [gk c hca]
        exact y)
      (fun c hc => by rw [del_ne (noa hc)]; exact hc) (fun c xs hc => by rw [del_ne (at_ne ea hc exo_tup)]; exact hc)
  have J : Inv X pins σ (del H2 a) ⟨G, g2, d2, t2, os2⟩ := I1.call' (ch := []) ho U hok3 hb (fun b z => absurd z (by simp))
  refine ⟨t0, G, J, fun b o z => ?_, ge, hoe, del_same⟩
  by_cases hba : b = a
  · rw [hba, ge] at z
    cases z
  · exact (gk b hba).symm.trans z
/-- raise C(e, ..) -/
def MkR (C : Addr) (H1 : Hp) (Q : XK) (a : Addr) (H2 : Hp) : Prop := (H2 a = some (exo a C none) ∧ Q (.ref C) none (del H2 a)) ∨
  ∃ (d : Addr) (fs : List (Str × V)), H2 a = some (exo a C (some d)) ∧ H2 d = some (exd d fs) ∧ H1 d = none ∧ Q (.ref C) (some d) (upd (del H2 a) d (.xd fs))
def tMkR (C : Addr) (sp : Sp) (dvs : List V) (ta : TA) : L2.St → Hp → XK → Prop := fun σ H Q => ta σ H fun vs H1 => vs.length ≤ 1000 ∧ ∀ a, H1 a = none → sp (.ref a :: (vs ++ dvs)) (upd H1 a (exo a C none)) (fun v H2 => v = .non ∧ MkR C H1 Q a H2) E0
theorem pmk_B (M : MkB X.K C fI tail) (F : FnOk X.prog X.w X.K X.mg X.base CX k fI fd ps sp) (hr : Room (k + 1) X.A) (hg : Gl X x) (hm : X.mg x = some (.ref C)) (hb : Binds X.K fd ps ds) (hd : Vals dvs ds) (hx : Passes CX X E0)
    (ha : PA X (e :: es) ta) (hdb : (x == ("__debug__" : Str)) = false := by decide) (he : starEach (e :: es) X.env = (false, eval e X.env) :: starEach es X.env := by rfl) (hpl : (backTo pos (starEach es X.env)).any (·.1) = false := by rfl) :
    PMk X (.Call (.Name x p) (e :: es) [] pos) (tMkR C sp dvs ta) := by
  intro pins s σ H Q I h
  refine wpAny_Call_Name_kw (ld_glob I hg hm ?_ hdb)
  refine PySem.W.callWith_K (h₀ := X.base) I.ok.mod.kin M.T.kC (thn (ha.run pos pins s σ H _ I h) fun us s1 ⟨vs, H1, I1, r, hz, q⟩ => ⟨I1.kIn, ?_⟩) he hpl
  refine run_mkB (RR := MkR C H1 Q) M F hr hb hd hx I1 r hz q fun s2 H2 hp2 hsz kk un2 hok2 os2 bare2 _ rr => ?_
  obtain ⟨hp, g, dr, tk, os⟩ := s1
  obtain ⟨h2, g2, d2, t2, os'⟩ := s2
  rcases rr with ⟨ea, q2⟩ | ⟨d, fs, ea, ed, hd1, q2⟩
  · obtain ⟨t0, G, J, kG, ge, hoe, na⟩ := mk_endN (d2 := d2) (t2 := t2) I1 hsz kk un2 hok2 os2 bare2 ea
    exact ⟨_, _, _, ⟨G, g2, d2, t2, os'⟩, _, .ref C, none, rfl, J, kG, ge, hoe, ⟨rfl, rfl⟩, rfl, rfl, na, rfl, bare2, raises_own M.T.exC M.T.tyC, q2⟩
  · exact mk_end (raises_own M.T.exC M.T.tyC) I1 hsz kk un2 hok2 os2 bare2 ea ed hd1 q2
end
end OM

namespace OM
open PySem PySem.Spec PyProof.Rows L2
theorem flying_more {base h h' : Heap} {l : List Env} {e : Addr} {Z : Obj → Prop} (x : HandSPX.FlyingZ base l e Z h) (k : ∀ b o, h.get? b = some o → h'.get? b = some o) : HandSPX.FlyingZ base l e Z h' := by
  obtain ⟨k1, k2, k3, oe, vs, T, oT, ts, he, hz, hd, h1, hn, hne, hT, hdT, h3⟩ := x
  exact ⟨fun b o q => k b o (k1 b o q), k2, Heap.FunFrames.of_keeps (fun b o e _ => ⟨o, k b o e, rfl⟩) k3, oe, vs, T, oT, ts, k _ _ he, hz, hd, h1, hn, hne, k _ _ hT, hdT, h3⟩
/-- the test of a clause: ok cls b: it answers b for an exception of the class cls -/
structure TstR (X : Cx) (t : Expr) (ok : Value → Bool → Prop) : Prop where
  run : ∀ (a : Addr) (oe : Obj) (pn : List (Addr × Obj)) (σ : L2.St) (H : Hp) (s : Shared) (cls : Value) (b : Bool) (Q : Bool → Shared → Prop) (E E' : Value → Shared → Prop), Inv (X.suite a ((a, oe) :: pn)) [] σ H s → s.heap.get? a = some oe → oe.cls = cls → ok cls b →
    (∀ h', (∀ q o, s.heap.get? q = some o → h'.get? q = some o) → Q b { s with heap := h' }) →
    wpAny (model X.prog X.w) (X.A.mark (some (.ref a))) (eval t X.env) (fun c s₁ => wpAny (model X.prog X.w) (X.A.mark (some (.ref a))) (excMatches (.ref a) c) Q E' s₁) E s
section
variable {X : Cx} {x : Str} {c : Value} {np tpos : Pos} {tk : Nat}
theorem ld_names {a : Addr} {oe : Obj} {pn pins : List (Addr × Obj)} {σ : L2.St} {H : Hp} {s : Shared} {Q : Value → Shared → Prop} {E : Value → Shared → Prop} (hc : Names X x c) (S : Inv (X.suite a ((a, oe) :: pn)) pins σ H s) (q : Q c s) :
    wpAny (model X.prog X.w) (X.A.mark (some (.ref a))) (eval (.Name x np) X.env) Q E s := by
  obtain ⟨hg, hdbg, hm | ⟨hm, hv, hnn⟩⟩ := hc
  · exact ld_glob (X := X.suite a ((a, oe) :: pn)) S hg hm q hdbg
  · exact ld_blt (X := X.suite a ((a, oe) :: pn)) S hg hm hv q hnn hdbg
theorem tst_one (hc : Names X x c) : TstR X (.Name x np) (fun cls b => PySem.W.exmOne X.K cls c = some b) := by
  refine ⟨fun a oe pn σ H s cls b Q E E' S ha hcls hok q => ?_⟩
  refine ld_names hc S ?_
  have LT : PySem.W.Looks (model X.prog X.w) s.heap (typeOf (.ref a)) cls := fun A Q E s k q => wpAny_typeOf_ref (k _ _ ha) (by rw [hcls]; exact q)
  exact (PySem.W.exm_one (M := model X.prog X.w) S.kIn LT hok).here (q s.heap fun _ _ z => z)
/-- names of classes, one behind the other -/
inductive NamesT (X : Cx) : List Expr → List Value → Prop
  | nil : NamesT X [] []
  | cons {x : Str} {c : Value} {np : Pos} {es : List Expr} {cs : List Value} (hc : Names X x c) (r : NamesT X es cs) (he : starEach (.Name x np :: es) X.env = (false, eval (.Name x np) X.env) :: starEach es X.env := by rfl) : NamesT X (.Name x np :: es) (c :: cs)
theorem items_names {a : Addr} {oe : Obj} {pn : List (Addr × Obj)} {σ : L2.St} {H : Hp} {s : Shared} {E : Value → Shared → Prop} {pos : Pos} (S : Inv (X.suite a ((a, oe) :: pn)) [] σ H s) : ∀ {es : List Expr} {cs : List Value} {Q : List Value → Shared → Prop}, NamesT X es cs → Q cs s →
    wpAny (model X.prog X.w) (X.A.mark (some (.ref a))) (spliced (backTo pos (starEach es X.env))) Q E s
  | _, _, _, .nil, q => wpAny_items_nil q
  | _, _, Q, .cons hc r he, q => wpAny_items_cons (ld_names hc S (items_names (Q := fun vs s => Q (_ :: vs) s) S r q)) he
theorem tst_tup {es : List Expr} {cs : List Value} (hc : NamesT X es cs) (hz : cs.length ≤ sizeLine) : TstR X (.Tuple es tk tpos) (fun cls b => PySem.W.exmAny X.K cls cs = some b) := by
  refine ⟨fun a oe pn σ H s cls b Q E E' S ha hcls hok q => ?_⟩
  refine wpAny_Tuple (items_names S hc ⟨hz, ?_⟩)
  have kp : ∀ q o, s.heap.get? q = some o → (s.heap.push { cls := .type "tuple", data := .seq cs.toArray }).get? q = some o := fun _ _ z => Heap.get?_push_of_some _ z
  have LT : PySem.W.Looks (model X.prog X.w) (s.heap.push { cls := .type "tuple", data := .seq cs.toArray }) (typeOf (.ref a)) cls := fun A Q E s k q => wpAny_typeOf_ref (k _ _ (kp _ _ ha)) (by rw [hcls]; exact q)
  exact (PySem.W.om_exm_tup (M := model X.prog X.w) (S.kIn.keeps kp) LT (Heap.get?_push_size s.heap rfl) rfl rfl hok).here (q _ kp)
end
/-- a clause: its test, the slot of its name, its suite -/
abbrev Cl := (Value → Bool → Prop) × Option Nat × (Addr → Value → Option Addr → TS)
def offD (D : Ends) (i : Nat) : Ends := { nx := fun σ' H' => D.nx (σ'.set i none) H', rt := D.rt, bk := fun σ' H' => D.bk (σ'.set i none) H', ct := fun σ' H' => D.ct (σ'.set i none) H' }
def wTry (Wout : WX) (D : Ends) : List Cl → WX
  | [] => Wout
  | (ok, none, ts) :: r => fun cls d σ H => ∃ b, ok cls b ∧ (b = true → ∀ a, H a = none → ts a cls d D σ H) ∧ (b = false → wTry Wout D r cls d σ H)
  | (ok, some i, ts) :: r => fun cls d σ H => ∃ b, ok cls b ∧ (b = true → ∀ a, H a = none → ts a cls d (offD D i) (σ.set i (some (.ref a))) H) ∧ (b = false → wTry Wout D r cls d σ H)
inductive ClsOk (X : Cx) : List ExceptHandler → List Cl → Prop
  | nil : ClsOk X [] []
  | cons {t : Expr} {ok : Value → Bool → Prop} {ts : Addr → Value → Option Addr → TS} {b₀ : Stmt} {suite : List Stmt} {pos' : Pos} {hds : List ExceptHandler} {l : List Cl} (ht : TstR X t ok)
      (hsu : ∀ (a : Addr) (oe : Obj) (cls : Value) (d : Option Addr) (pn : List (Addr × Obj)), Zc cls d oe → (∃ vs, oe.data = .fields vs) → PSs (X.suite a ((a, oe) :: pn)) (b₀ :: suite) (ts a cls d)) (r : ClsOk X hds l) :
      ClsOk X (.ExceptHandler (some t) none (b₀ :: suite) pos' :: hds) ((ok, none, ts) :: l)
  | as {n : Str} {i : Nat} {t : Expr} {ok : Value → Bool → Prop} {ts : Addr → Value → Option Addr → TS} {b₀ : Stmt} {suite : List Stmt} {pos' : Pos} {hds : List ExceptHandler} {l : List Cl} (hN : X.N.Nodup) (hi : X.N[i]? = some n) (hln : X.env.kindOf n = some .local) (ht : TstR X t ok)
      (hsu : ∀ (a : Addr) (oe : Obj) (cls : Value) (d : Option Addr) (pn : List (Addr × Obj)), Zc cls d oe → (∃ vs, oe.data = .fields vs) → PSs (X.suite a ((a, oe) :: pn)) (b₀ :: suite) (ts a cls d)) (r : ClsOk X hds l) :
      ClsOk X (.ExceptHandler (some t) (some n) (b₀ :: suite) pos' :: hds) ((ok, some i, ts) :: l)
section
variable {X : Cx} {body : List Stmt} {h₀ : ExceptHandler} {hds : List ExceptHandler} {l : List Cl} {pos : Pos} {tb : WX → TS} {Wout : WX}
theorem ps_try_gen (hs : X.stack = X.env :: X.outer) (hf : X.env.frame = some X.env.locals) (tk : Takes X Wout)
    (hb : ∀ (W : WX) (pn : List (Addr × Obj)) (xe : Value → Shared → Prop), Takes (X.tr pn xe) W → PassesOwn (model X.prog X.w) X.A X.env xe → PSs (X.tr pn xe) body (tb W))
    (hh : ClsOk X (h₀ :: hds) l) : PS X (.Try body (h₀ :: hds) [] [] pos) (fun D σ H => tb (wTry Wout D l) D σ H) := by
  refine ⟨fun pins s σ H D I h => ?_⟩
  have ok := I.ok
  have hfr : X.A.frames = some (X.env :: X.outer) := by rw [ok.frames, hs]
  refine wpAny_Try_except ?_
  refine wpAny_mono ((hb (wTry Wout D l) (X.pn ++ pins) (fun e s₁ => wpAny (model X.prog X.w) X.A (noteFrame e X.env) (fun _ s₂ => wpAny (model X.prog X.w) X.A (setFlight e none) (fun _ s₃ =>
    wpAny (model X.prog X.w) X.A (handleBy e X.env (h₀ :: hds)) (SP X pins D) X.xe s₃) X.xe s₂) X.xe s₁) (fun u s' xx => ?_) PassesOwn.looking).run [] s σ H D (I.toTry _) h) (fun f s1 hsp => ?_) (fun e s1 he => he)
  · -- the catch
    obtain ⟨a, B, sI, pins', σ', H', cls, d, rfl, J', nb, up, sky, na, os, ag, w⟩ := xx
    have J : Inv X pins σ' H' sI := J'.ofTry ok
    have sky' : Sky B (X.env :: X.outer) a (Zc cls d) X.env.locals s'.heap := by rw [← hs]; exact sky
    show wpAny (model X.prog X.w) X.A (noteFrame (.ref a) X.env) _ _ _
    refine Sky.land Zc.steady hfr hf sky' fun h3 fl3 up3 => ?_
    have notFr : ∀ {h : Heap} {o : Obj} {vs : Array Value}, h.FunFrames B (X.env :: X.outer) → h.get? a = some o → o.data = .fields vs → a ∉ frs (X.env :: X.outer) := fun {h o vs} ff e dd hm => by
      obtain ⟨_, o', e', hnf⟩ := ff.mem hm
      rw [e] at e'; cases e'
      exact hnf _ dd
    have nfr : a ∉ frs (X.env :: X.outer) := by
      obtain ⟨oe3, vs3, he3, hz3, hd3⟩ := fl3.there
      exact notFr fl3.2.2.1 he3 hd3
    have nL : a ≠ X.env.locals := fun z => nfr (List.mem_filterMap.mpr ⟨X.env, List.mem_cons_self, by rw [hf, z]⟩)
    have nF : a ∉ X.fs := fun hm => by
      obtain ⟨e, he, q⟩ := List.mem_filterMap.mp hm
      exact nfr (List.mem_filterMap.mpr ⟨e, List.mem_cons_of_mem _ he, q⟩)
    have go : ∀ {hds' : List ExceptHandler} {l' : List Cl}, ClsOk X hds' l' → ∀ h5, HandSPX.FlyingZ B (X.env :: X.outer) a (Zc cls d) h5 → s'.heap.UpToSlots h5 → wTry Wout D l' cls d σ' H' →
        wpAny (model X.prog X.w) X.A (handleBy (.ref a) X.env hds') (SP X pins D) X.xe { s' with heap := h5 } := by
      intro hds' l' hk
      induction hk with
      | nil =>
        intro h3 fl3 up3 w
        refine wpAny_handleBy_nil ?_
        obtain ⟨k1, k2, k3, oe, vs, T, oT, ts', he, hz, hd, h1, hr⟩ := id fl3
        unfold PySem.passOn
        refine wpAny_bind (wpAny_field he hd h1 ?_)
        rw [if_neg (show ¬ ((Value.ref T == Value.none) = true) from by simp)]
        have fin : wpAny (model X.prog X.w) X.A (setFlight (.ref a) X.env.frame) (fun _ s4 => wpAny (model X.prog X.w) X.A (throw (.ref a) : Sem Flow) (SP X pins D) X.xe s4) X.xe { s' with heap := h3 } := by
          rw [hf]
          refine HandSPX.setFlight_upZ fl3 fun h4 hh4 up4 => wpAny_throw (tk _ _ ?_)
          exact ⟨a, B, sI, pins, σ', H', cls, d, rfl, J, nb, (up.trans up3).trans up4, .inr (.inr (by rw [hs]; exact hh4)), na, os, ag, w⟩
        first
          | exact wpAny_bind (wpAny_pure (wpAny_bind fin))
          | exact wpAny_bind fin
      | @cons t okp ts b₀ suite pos' hds2 l2 ht hsu r ih =>
        intro h3 fl3 up3 w
        obtain ⟨b, hb1, hyes, hno⟩ := w
        have J3 : Inv X pins σ' H' { s' with heap := h3 } := J.landed nb fl3.1 (up.trans up3) os ag
        obtain ⟨oe3, vs3, he3, hz3, hd3⟩ := fl3.there
        have S3 := J3.suite he3 hd3 na nL nF
        refine wpAny_handleBy_cons (codeAny_handlers_test ?_) (by intro q; cases q)
        refine ht.run a oe3 (X.pn ++ pins) σ' H' _ cls b _ _ _ S3 he3 hz3.1 hb1 (fun h6 k6 => ?_)
        have fl6 := flying_more fl3 k6
        have up6 : s'.heap.UpToSlots h6 := up3.trans (Heap.UpToSlots.of_keeps k6)
        cases b with
        | true =>
          refine codeAny_handlers_suite ?_
          refine HandSPX.lands_againZ fl6 fun h4 fl4 up4 => ?_
          have J4 : Inv X pins σ' H' { s' with heap := h4 } := J.landed nb fl4.1 ((up.trans up6).trans up4) os ag
          obtain ⟨oe4, vs4, he4, hz4, hd4⟩ := fl4.there
          have S4 := J4.suite he4 hd4 na nL nF
          refine wpAny_mono ((hsu a oe4 cls d (X.pn ++ pins) hz4 ⟨_, hd4⟩).run [] _ _ H' _ S4 (hyes rfl a na)) (fun f s6 hsp => ?_) (fun _ _ z => False.elim z)
          cases f with
          | next =>
            obtain ⟨σ6, H6, S6, q6⟩ := hsp
            exact ⟨_, _, S6.unsuite ok, q6⟩
          | brk =>
            obtain ⟨σ6, H6, S6, q6⟩ := hsp
            exact ⟨_, _, S6.unsuite ok, q6⟩
          | cont =>
            obtain ⟨σ6, H6, S6, q6⟩ := hsp
            exact ⟨_, _, S6.unsuite ok, q6⟩
          | ret u =>
            obtain ⟨v6, σ6, H6, S6, r6, q6⟩ := hsp
            exact ⟨_, _, _, S6.unsuite ok, r6, q6⟩
        | false =>
          show wpAny _ X.A (handleBy (.ref a) X.env hds2) _ _ _
          exact ih h6 fl6 up6 (hno rfl)
      | @as n i t okp ts b₀ suite pos' hds2 l2 hN hi hln ht hsu r ih =>
        intro h3 fl3 up3 w
        obtain ⟨b, hb1, hyes, hno⟩ := w
        have J3 : Inv X pins σ' H' { s' with heap := h3 } := J.landed nb fl3.1 (up.trans up3) os ag
        obtain ⟨oe3, vs3, he3, hz3, hd3⟩ := fl3.there
        have S3 := J3.suite he3 hd3 na nL nF
        refine wpAny_handleBy_cons (codeAny_handlers_test ?_) (by intro q; cases q)
        refine ht.run a oe3 (X.pn ++ pins) σ' H' _ cls b _ _ _ S3 he3 hz3.1 hb1 (fun h6 k6 => ?_)
        have fl6 := flying_more fl3 k6
        have up6 : s'.heap.UpToSlots h6 := up3.trans (Heap.UpToSlots.of_keeps k6)
        cases b with
        | true =>
          have hloc : Loc X.env.scope n := .inl hln
          refine codeAny_handlers_suite_as ?_
          refine HandSPX.lands_againZ fl6 fun h4 fl4 up4 => ?_
          have J4 : Inv X pins σ' H' { s' with heap := h4 } := J.landed nb fl4.1 ((up.trans up6).trans up4) os ag
          obtain ⟨oe4, vs4, he4, hz4, hd4⟩ := fl4.there
          have S4 := J4.suite he4 hd4 na nL nF
          refine store_ok (X := X.suite a ((a, oe4) :: (X.pn ++ pins))) (v := .ref a) S4 hN hi hloc rfl (fun s5 S5 => ?_) (.inr hln)
          refine wpAny_mono ((hsu a oe4 cls d (X.pn ++ pins) hz4 ⟨_, hd4⟩).run [] s5 _ H' _ S5 (hyes rfl a na)) (fun f s6 hsp => ?_) (fun _ _ z => False.elim z)
          have end_ : ∀ {σ6 : L2.St} {H6 : Hp} {Q : Shared → Prop}, Inv (X.suite a ((a, oe4) :: (X.pn ++ pins))) [] σ6 H6 s6 → (∀ s7, Inv X pins (σ6.set i none) H6 s7 → Q s7) →
              wpAny (model X.prog X.w) X.A (do bindName X.env n .none; unbindBehindTheSuite X.env n pos') (fun _ s7 => Q s7) X.xe s6 := fun {σ6 H6 Q} S6 hq => gone_ok (S6.unsuite ok) hN hi hln hq
          cases f with
          | next =>
            obtain ⟨σ6, H6, S6, q6⟩ := hsp
            exact end_ S6 fun s7 J7 => ⟨_, _, J7, q6⟩
          | brk =>
            obtain ⟨σ6, H6, S6, q6⟩ := hsp
            exact end_ S6 fun s7 J7 => ⟨_, _, J7, q6⟩
          | cont =>
            obtain ⟨σ6, H6, S6, q6⟩ := hsp
            exact end_ S6 fun s7 J7 => ⟨_, _, J7, q6⟩
          | ret u =>
            obtain ⟨v6, σ6, H6, S6, r6, q6⟩ := hsp
            exact end_ S6 fun s7 J7 => ⟨_, _, _, J7, r6, q6⟩
        | false =>
          show wpAny _ X.A (handleBy (.ref a) X.env hds2) _ _ _
          exact ih h6 fl6 up6 (hno rfl)
    exact go hh h3 fl3 up3 w
  · cases f with
    | next =>
      obtain ⟨σ', H', J', q⟩ := hsp
      exact wpAny_execs_nil ⟨σ', H', J'.ofTry ok, q⟩
    | brk =>
      obtain ⟨σ', H', J', q⟩ := hsp
      exact ⟨σ', H', J'.ofTry ok, q⟩
    | cont =>
      obtain ⟨σ', H', J', q⟩ := hsp
      exact ⟨σ', H', J'.ofTry ok, q⟩
    | ret u =>
      obtain ⟨v, σ', H', J', r, q⟩ := hsp
      exact ⟨v, σ', H', J'.ofTry ok, r, q⟩
end
end OM

namespace OM
open PySem L2
def top (i : Nat) : Stmt := PySem.Challenge.pw_orderlymoves_k60_texts_of_code_and_stret.main.body.getD i (.Pass ⟨0, 0, 0, 0⟩)
abbrev sDice : Stmt := top 61
abbrev sRoll : Stmt := top 62
abbrev sOneOf : Stmt := top 63

/-- all but a is as it was -/
def But (a : Addr) (H H' : Hp) : Prop := ∀ b o, b ≠ a → H b = some o → H' b = some o
/-- a dice: a list of three ints -/
def Dice (H : Hp) (a : Addr) : Prop := ∃ l m c : Int, H a = some (.lst [.int l, .int m, .int c])

structure TxtD (mg : Str → Option Value) : Prop where
  len : mg "len" = none
  int : mg "int" = none
  abs : mg "abs" = none

def spDice (K : PySem.W.Frag) : Sp := fun vs H Q _ => ∃ (a : Addr) (ns : List Int) (k : Nat), vs = [.ref a, .int (k : Int)] ∧ SqL K H a (ns.map V.int) ∧
  ∀ H' p, Same H H' → H p = none → Dice H' p → Q (.ref p) H'
def spRoll : Sp := fun vs H Q _ => ∃ (d : Addr) (n : Int), vs = [.ref d, .int n] ∧ Dice H d ∧ 0 < n ∧ n < 1073741824 ∧
  ∀ H' (r : Int), 0 ≤ r → r < n → But d H H' → Dice H' d → Q (.int r) H'
def spOneOf (K : PySem.W.Frag) : Sp := fun vs H Q _ => ∃ (d a : Addr) (xs : List V), vs = [.ref d, .ref a] ∧ Dice H d ∧ SqL K H a xs ∧ (H d ≠ none → a ≠ d) ∧ 0 < xs.length ∧ xs.length < 1073741824 ∧
  ∀ H' (i : Nat) v, xs[i]? = some v → But d H H' → Dice H' d → Q v H'

section
variable {P : Program} {w : World} {K : PySem.W.Frag} {mg : Str → Option Value} {base : Heap}
theorem scR : FnScope ["_law_dice_here", "_law_total", "_law_number", "_law_drawn", "_law_one", "_law_two"] ["_law_dice_here", "_law_total"] (defScope sRoll) := ⟨rfl, rfl, rfl, by decide +kernel, rfl, by decide +kernel, by decide +kernel⟩
theorem ok_roll {f : Addr} {fd : FuncData} (F : Fun K "_law_roll" "_law_roll" sRoll f fd) (T : TxtD mg) : FnOk P w K mg base CX0 1 f fd ["_law_dice_here", "_law_total"] spRoll := by
  refine F.ok scR (fun vs H Q E h => ?_) (fun cdv A outer s H vs Q E hr h => ?_)
  · obtain ⟨d, n, rfl, _⟩ := h
    rfl
  · obtain ⟨d, n, rfl, ⟨l, m, c, hd⟩, n0, n1, k⟩ := h
    have big : ∀ {x : Int}, 0 ≤ x → x < 2305843009213693952 → (-(2 ^ 64) < x ∧ x < 2 ^ 64) := fun h1 h2 => ⟨by omega, by omega⟩
    refine ⟨_, pss_cons (ps_set (i := 2) scR.nd rfl (Or.inl rfl) (pe_callTy call_int1 (by rfl) T.int (by decide +kernel) (pa_cons (pv 1) pa_nil)))
      (pss_cons (ps_if (pt_cmpR op_gt (pe_ix ix_list (pv 0) pe_int (fun _ _ => rfl)) pe_int (nomark _))
        (pss_cons (ps_set (i := 3) scR.nd rfl (Or.inl rfl) (pe_op op_mod (pe_ix ix_list (pv 0) pe_int (fun _ _ => rfl)) (pv 2)))
        (pss_cons (ps_asg (pe_op op_fdiv (pe_ix ix_list (pv 0) pe_int (fun _ _ => rfl)) (pv 2)) (pg_sub (pv 0) pe_int set_list))
        (pss_one (ps_ret (pe_callTy call_int1 (by rfl) T.int (by decide +kernel) (pa_cons (pv 3) pa_nil))))))
        pss_nil)
      (pss_cons (ps_asg (pe_op op_add (pe_ix ix_list (pv 0) pe_int (fun _ _ => rfl)) pe_int) (pg_sub (pv 0) pe_int set_list))
      (pss_cons (ps_set (i := 4) scR.nd rfl (Or.inl rfl) (pe_op op_mod (pe_op op_add (pe_ix ix_list (pv 0) pe_int (fun _ _ => rfl)) (pe_op op_mul pe_int (pe_ix ix_list (pv 0) pe_int (fun _ _ => rfl)))) pe_int))
      (pss_cons (ps_set (i := 5) scR.nd rfl (Or.inl rfl) (pe_op op_add (pe_op op_mul (pe_op op_mod (pe_op op_mul (pv 4) (pv 4)) pe_int) (pv 4)) (pe_op op_mul pe_int (pe_ix ix_list (pv 0) pe_int (fun _ _ => rfl)))))
      (pss_cons (ps_set (i := 5) scR.nd rfl (Or.inl rfl) (pe_op op_mod (pv 5) pe_int))
      (pss_one (ps_ret (pe_callTy call_int1 (by rfl) T.int (by decide +kernel) (pa_cons (pe_op op_mod (pe_op op_fdiv (pv 5) pe_int) (pv 2)) pa_nil))))))))), ?_⟩
    refine ⟨_, rfl, .inl ⟨_, rfl, ?_⟩⟩
    refine ⟨_, rfl, d, _, _, _, rfl, rfl, SqL.of hd, rfl, _, _, rfl, rfl, _, rfl, ite2 (fun h0 => ?_) (fun h0 => ?_)⟩
    · refine ⟨_, rfl, d, _, _, _, rfl, rfl, SqL.of hd, rfl, _, rfl, _, _, rfl, rfl, n0, ?_⟩
      refine ⟨_, rfl, d, _, _, _, rfl, rfl, SqL.of hd, rfl, _, rfl, _, _, rfl, rfl, ⟨n0, n1⟩, _, rfl, d, _, _, 0, rfl, rfl, hd, rfl, ?_⟩
      refine ⟨_, rfl, .inl ⟨_, rfl, ?_⟩⟩
      refine k _ _ (Int.emod_nonneg _ (by omega)) (Int.emod_lt_of_pos _ n0) (fun b o nb e => by rw [upd_ne nb]; exact e) ⟨_, _, _, upd_same⟩
    · refine ⟨_, rfl, d, _, _, _, rfl, rfl, SqL.of hd, rfl, _, _, rfl, rfl, _, rfl, d, _, _, 2, rfl, rfl, hd, rfl, ?_⟩
      have hd2 : upd H d (.lst [.int l, .int m, .int (c + 1)]) d = some (.lst [.int l, .int m, .int (c + 1)]) := upd_same
      refine ⟨_, rfl, d, _, _, _, rfl, rfl, SqL.of hd2, rfl, _, rfl, d, _, _, _, rfl, rfl, SqL.of hd2, rfl, _, _, rfl, rfl, .inl (by decide), _, _, rfl, rfl, _, _, rfl, rfl, (by show (0 : Int) < 2305843009213693951; decide), ?_⟩
      have o0 : 0 ≤ (m + 1000099 * (c + 1)) % 2305843009213693951 := Int.emod_nonneg _ (by decide)
      have o1 : (m + 1000099 * (c + 1)) % 2305843009213693951 < 2305843009213693951 := Int.emod_lt_of_pos _ (by decide)
      refine ⟨_, rfl, _, rfl, _, _, rfl, rfl, .inl (big o0 (by omega)), _, _, rfl, rfl, (by show (0 : Int) < 2305843009213693921; decide), _, rfl, _, _, rfl, rfl, .inr (big o0 (by omega)), _, rfl, d, _, _, _, rfl, rfl, SqL.of hd2, rfl, _, _, rfl, rfl, .inl (by decide), _, _, rfl, rfl, ?_⟩
      refine ⟨_, rfl, _, _, rfl, rfl, (by show (0 : Int) < 2305843009213693907; decide), ?_⟩
      refine ⟨_, rfl, _, _, rfl, rfl, ⟨by decide, by decide⟩, _, rfl, _, _, rfl, rfl, n0, .inl ⟨_, rfl, ?_⟩⟩
      exact k _ _ (Int.emod_nonneg _ (by omega)) (Int.emod_lt_of_pos _ n0) (fun b o nb e => by rw [upd_ne nb]; exact e) ⟨_, _, _, upd_same⟩
theorem scO : FnScope ["_law_dice_here", "_law_items"] ["_law_dice_here", "_law_items"] (defScope sOneOf) := ⟨rfl, rfl, rfl, by decide +kernel, rfl, by decide +kernel, by decide +kernel⟩
theorem But.seq {K : PySem.W.Frag} {H H' : Hp} {d a : Addr} {xs : List V} (e : But d H H') (n : H d ≠ none → a ≠ d) (dn : H d ≠ none) (h : SqL K H a xs) : SqL K H' a xs := by
  rcases h with (h | ⟨o, h⟩) | h
  · exact .inl (.inl (e _ _ (n dn) h))
  · exact .inl (.inr ⟨o, e _ _ (n dn) h⟩)
  · exact .inr h
theorem Dice.ne {H : Hp} {d : Addr} (h : Dice H d) : H d ≠ none := by
  obtain ⟨_, _, _, e⟩ := h
  rw [e]
  exact fun z => nomatch z
theorem ok_oneof {f fR : Addr} {fd fdR : FuncData} (F : Fun K "_law_one_of" "_law_one_of" sOneOf f fd) (T : TxtD mg) (FR : Fun K "_law_roll" "_law_roll" sRoll fR fdR) (gR : mg "_law_roll" = some (.ref fR)) (bR : Binds K fdR ["_law_dice_here", "_law_total"] []) :
    FnOk P w K mg base CX0 2 f fd ["_law_dice_here", "_law_items"] (spOneOf K) := by
  have GR : FnOk P w K mg base CX0 1 fR fdR ["_law_dice_here", "_law_total"] spRoll := ok_roll FR T
  refine F.ok scO (fun vs H Q E h => ?_) (fun cdv A outer s H vs Q E hr h => ?_)
  · obtain ⟨d, a, xs, rfl, _⟩ := h
    rfl
  · obtain ⟨d, a, xs, rfl, hd, hx, ne, l0, l1, k⟩ := h
    refine ⟨_, pss_one (ps_ret (pe_ix ix_list (pv 1) (pe_call GR hr rfl gR FR.kp bR .nil pass0 (pa_cons (pv 0) (pa_cons (pe_callB call_len_seq (by rfl) T.len PySem.boot_len (pa_cons (pv 1) pa_nil)) pa_nil))) (fun _ _ => rfl))), ?_⟩
    refine ⟨_, rfl, _, rfl, _, rfl, a, _, rfl, .inl hx, d, _, rfl, hd, by omega, by omega, fun H' r r0 r1 hb hd' => ?_⟩
    obtain ⟨i, rfl⟩ : ∃ i : Nat, r = (i : Int) := ⟨r.toNat, by omega⟩
    have hi : i < xs.length := by omega
    have hv : xs[i]? = some xs[i] := List.getElem?_eq_getElem hi
    exact ⟨a, xs, _, _, rfl, rfl, hb.seq ne hd.ne hx, atI_nat hv, k _ i _ hv hb hd'⟩
theorem scD : FnScope ["_law_script", "_law_at", "_law_cell", "_law_great", "_law_left", "_law_mixed_here"] ["_law_script", "_law_at"] (defScope sDice) := ⟨rfl, rfl, rfl, by decide +kernel, rfl, by decide +kernel, by decide +kernel⟩
/-- a power of a greater base -/
theorem op_powB {X : Cx} : OpR X (binaryOp .Pow) (rI (fun i j => 0 ≤ j ∧ (PySem.Builtin.Int.intBits i : Int) * j ≤ 2 ^ 27) fun i j => .int (i ^ j.toNat)) := opI fun _ _ _ _ _ _ _ hc q => PyProof.Rows.pow_int hc.1 hc.2 q
theorem ok_dice {f : Addr} {fd : FuncData} (F : Fun K "_law_dice" "_law_dice" sDice f fd) (T : TxtD mg) : FnOk P w K mg base CX0 1 f fd ["_law_script", "_law_at"] (spDice K) := by
  refine F.ok scD (fun vs H Q E h => ?_) (fun cdv A outer s H vs Q E hr h => ?_)
  · obtain ⟨a, ns, k, rfl, _⟩ := h
    rfl
  · obtain ⟨a, ns, k, rfl, hS, q⟩ := h
    refine ⟨_, pss_cons (ps_set (i := 2) scD.nd rfl (Or.inl rfl) (pe_op op_add (pe_op op_mul pe_int (pv 1)) pe_int))
      (pss_cons (ps_if (pt_cmpR op_lt (pv 1) (pe_callB call_len_seq (by rfl) T.len PySem.boot_len (pa_cons (pv 0) pa_nil)) (nomark _))
        (pss_one (ps_set (i := 2) scD.nd rfl (Or.inl rfl) (pe_ix ix_list (pv 0) (pv 1) (fun _ _ => rfl)))) pss_nil)
      (pss_cons (ps_set (i := 3) scD.nd rfl (Or.inl rfl) (pe_op op_mod (pe_callTy call_int1 (by rfl) T.int (by decide +kernel) (pa_cons (pe_callB call_abs (by rfl) T.abs (by decide +kernel) (pa_cons (pv 2) pa_nil)) pa_nil)) (pe_op op_powB (pe_op op_pow pe_int pe_int) pe_int)))
      (pss_cons (ps_set (i := 4) scD.nd rfl (Or.inl rfl) (pe_op op_fdivW (pv 3) (pe_op op_pow pe_int pe_int)))
      (pss_cons (ps_set (i := 5) scD.nd rfl (Or.inl rfl) (pe_op op_add (pe_op op_add (pe_op op_add (pe_op op_mul (pe_op op_mod (pv 3) pe_int) pe_int) (pe_op op_mul pe_int (pv 1))) (pe_op op_mul pe_int (pe_callTy call_int1 (by rfl) T.int (by decide +kernel) (pa_cons (pe_cmpR op_lt (pv 2) pe_int (nomark _)) pa_nil)))) pe_int))
      (pss_one (ps_ret (pe_lst (pa_cons (pv 4) (pa_cons (pe_op op_mod (pv 5) pe_int) (pa_cons pe_int pa_nil)))))))))), ?_⟩
    refine ⟨_, rfl, _, _, rfl, rfl, .inl (by decide), _, _, rfl, rfl, ?_⟩
    refine ⟨_, rfl, _, rfl, a, _, rfl, .inl hS, _, _, rfl, rfl, _, rfl, ite2 (fun h0 => ?_) (fun h0 => ?_)⟩
    · have h1 : k < ns.length := by
        rw [List.length_map] at h0
        have h2 := of_decide_eq_true h0
        omega
      have hv : (ns.map V.int)[k]? = some (V.int ns[k]) := by
        rw [List.getElem?_map, List.getElem?_eq_getElem h1]
        rfl
      refine ⟨_, rfl, _, rfl, a, _, _, _, rfl, rfl, hS, atI_nat hv, ?_⟩
      refine ⟨_, rfl, _, rfl, .inl ⟨_, rfl, ?_⟩⟩
      refine ⟨_, _, rfl, rfl, ⟨by decide, by decide, by decide⟩, _, _, rfl, rfl, ⟨by decide, by decide +kernel⟩, _, _, rfl, rfl, (by show (0 : Int) < (10 ^ (60 : Int).toNat) ^ (10 : Int).toNat; decide +kernel), ?_⟩
      refine ⟨_, rfl, _, _, rfl, rfl, ⟨by decide, by decide, by decide⟩, _, _, rfl, rfl, wide_div (b := 64) (by show (0 : Int) < 10 ^ (18 : Int).toNat; decide +kernel) (by show (10 ^ (18 : Int).toNat : Int).natAbs < 2 ^ 64; decide +kernel) (by decide) (by decide), ?_⟩
      refine ⟨_, rfl, _, _, rfl, rfl, (by show (0 : Int) < 2147483423; decide), _, _, rfl, rfl, .inr (by decide), _, rfl, _, _, rfl, rfl, .inl (by decide), _, _, rfl, rfl, _, rfl, _, _, rfl, rfl, .inr ⟨_, rfl, ?_⟩⟩
      refine ⟨_, _, rfl, rfl, .inl (by decide), _, _, rfl, rfl, _, _, rfl, rfl, ?_⟩
      refine ⟨_, rfl, _, rfl, _, _, rfl, rfl, (by show (0 : Int) < 2147483399; decide), (by show 3 ≤ sizeLine; decide), fun p hp => ?_⟩
      exact q _ p (fun b o e => by rw [upd_ne (ne_of_none e hp)]; exact e) hp ⟨_, _, _, upd_same⟩
    · refine ⟨_, rfl, _, rfl, .inl ⟨_, rfl, ?_⟩⟩
      refine ⟨_, _, rfl, rfl, ⟨by decide, by decide, by decide⟩, _, _, rfl, rfl, ⟨by decide, by decide +kernel⟩, _, _, rfl, rfl, (by show (0 : Int) < (10 ^ (60 : Int).toNat) ^ (10 : Int).toNat; decide +kernel), ?_⟩
      refine ⟨_, rfl, _, _, rfl, rfl, ⟨by decide, by decide, by decide⟩, _, _, rfl, rfl, wide_div (b := 64) (by show (0 : Int) < 10 ^ (18 : Int).toNat; decide +kernel) (by show (10 ^ (18 : Int).toNat : Int).natAbs < 2 ^ 64; decide +kernel) (by decide) (by decide), ?_⟩
      refine ⟨_, rfl, _, _, rfl, rfl, (by show (0 : Int) < 2147483423; decide), _, _, rfl, rfl, .inr (by decide), _, rfl, _, _, rfl, rfl, .inl (by decide), _, _, rfl, rfl, _, rfl, _, _, rfl, rfl, .inr ⟨_, rfl, ?_⟩⟩
      refine ⟨_, _, rfl, rfl, .inl (by decide), _, _, rfl, rfl, _, _, rfl, rfl, ?_⟩
      refine ⟨_, rfl, _, rfl, _, _, rfl, rfl, (by show (0 : Int) < 2147483399; decide), (by show 3 ≤ sizeLine; decide), fun p hp => ?_⟩
      exact q _ p (fun b o e => by rw [upd_ne (ne_of_none e hp)]; exact e) hp ⟨_, _, _, upd_same⟩
end
end OM

namespace OM
open PySem PySem.Spec PyProof.Rows L2
abbrev sCop : Stmt := top 7
/-- a key as a datum -/
def kD : Key → PyData
  | .inl i => .int i
  | .inr x => .str x
/-- values that are no objects -/
inductive At : V → PyData → Prop where
  | non : At .non .none
  | bl (b : Bool) : At (.bl b) (.bool b)
  | int (i : Int) : At (.int i) (.int i)
  | str (x : Str) : At (.str x) (.str x)
mutual
/-- v stands for the datum d, by objects of S alone -/
inductive Dt (S : Addr → Prop) (H : Hp) : V → PyData → Prop where
  | at {v : V} {d : PyData} (h : At v d) : Dt S H v d
  | lst {a : Addr} {xs : List V} {ds : List PyData} (s : S a) (e : H a = some (.lst xs)) (hl : xs.length ≤ 1000) (h : DtAll S H xs ds) : Dt S H (.ref a) (.list ds)
  | tup {a : Addr} {xs : List V} {ds : List PyData} (s : S a) (e : H a = some (.tup xs)) (hl : xs.length ≤ 1000) (h : DtAll S H xs ds) : Dt S H (.ref a) (.tuple ds)
  | dic0 {a : Addr} (s : S a) (e : H a = some (.dK [])) : Dt S H (.ref a) (.dict [])
  | dic1 {a : Addr} {k : Key} {v : V} {d : PyData} (s : S a) (e : H a = some (.dK [(k, v)])) (h : At v d) : Dt S H (.ref a) (.dict [(kD k, d)])
inductive DtAll (S : Addr → Prop) (H : Hp) : List V → List PyData → Prop where
  | nil : DtAll S H [] []
  | cons {v : V} {d : PyData} {vs : List V} {ds : List PyData} (h : Dt S H v d) (r : DtAll S H vs ds) : DtAll S H (v :: vs) (d :: ds)
end
section
variable {S S' : Addr → Prop} {H H' : Hp}
mutual
theorem Dt.mv (hS : ∀ a, S a → S' a) (hH : ∀ a o, S a → H a = some o → H' a = some o) : ∀ {v : V} {d : PyData}, Dt S H v d → Dt S' H' v d
  | _, _, .at h => .at h
  | _, _, .lst s e hl h => .lst (hS _ s) (hH _ _ s e) hl (DtAll.mv hS hH h)
  | _, _, .tup s e hl h => .tup (hS _ s) (hH _ _ s e) hl (DtAll.mv hS hH h)
  | _, _, .dic0 s e => .dic0 (hS _ s) (hH _ _ s e)
  | _, _, .dic1 s e h => .dic1 (hS _ s) (hH _ _ s e) h
theorem DtAll.mv (hS : ∀ a, S a → S' a) (hH : ∀ a o, S a → H a = some o → H' a = some o) : ∀ {vs : List V} {ds : List PyData}, DtAll S H vs ds → DtAll S' H' vs ds
  | _, _, .nil => .nil
  | _, _, .cons h r => .cons (Dt.mv hS hH h) (DtAll.mv hS hH r)
end
mutual
theorem Dt.strong (hS : ∀ a o, S a → H a = some o → S' a ∧ H' a = some o) : ∀ {v : V} {d : PyData}, Dt S H v d → Dt S' H' v d
  | _, _, .at h => .at h
  | _, _, .lst s e hl h => .lst (hS _ _ s e).1 (hS _ _ s e).2 hl (DtAll.strong hS h)
  | _, _, .tup s e hl h => .tup (hS _ _ s e).1 (hS _ _ s e).2 hl (DtAll.strong hS h)
  | _, _, .dic0 s e => .dic0 (hS _ _ s e).1 (hS _ _ s e).2
  | _, _, .dic1 s e h => .dic1 (hS _ _ s e).1 (hS _ _ s e).2 h
theorem DtAll.strong (hS : ∀ a o, S a → H a = some o → S' a ∧ H' a = some o) : ∀ {vs : List V} {ds : List PyData}, DtAll S H vs ds → DtAll S' H' vs ds
  | _, _, .nil => .nil
  | _, _, .cons h r => .cons (Dt.strong hS h) (DtAll.strong hS r)
end
theorem DtAll.snoc : ∀ {vs : List V} {ds : List PyData} {v : V} {d : PyData}, DtAll S H vs ds → Dt S H v d → DtAll S H (vs ++ [v]) (ds ++ [d])
  | _, _, _, _, .nil, h => .cons h .nil
  | _, _, _, _, .cons a r, h => .cons a (DtAll.snoc r h)
theorem DtAll.length : ∀ {vs : List V} {ds : List PyData}, DtAll S H vs ds → vs.length = ds.length
  | _, _, .nil => rfl
  | _, _, .cons _ r => congrArg (· + 1) (DtAll.length r)
theorem DtAll.get : ∀ {vs : List V} {ds : List PyData} {i : Nat} {v : V}, DtAll S H vs ds → vs[i]? = some v → ∃ d, ds[i]? = some d ∧ Dt S H v d
  | _, _, _, _, .nil, e => by simp at e
  | _, _, 0, _, .cons h _, e => by
    simp at e
    subst e
    exact ⟨_, rfl, h⟩
  | _, _, i + 1, _, .cons _ r, e => by
    obtain ⟨d, e2, h⟩ := DtAll.get (i := i) r (by simpa using e)
    exact ⟨d, by simpa using e2, h⟩
theorem depth_get : ∀ {ds : List PyData} {i : Nat} {d : PyData}, ds[i]? = some d → d.depth ≤ PyData.depthAll ds
  | [], _, _, e => by simp at e
  | x :: r, 0, d, e => by
    simp at e
    subst e
    unfold PyData.depthAll
    omega
  | x :: r, i + 1, d, e => by
    have q := depth_get (ds := r) (i := i) (d := d) (by simpa using e)
    unfold PyData.depthAll
    omega
/-- the type that isinstance sees -/
theorem At.ty {K : PySem.W.Frag} {v : V} {d : PyData} (h : At v d) : ∃ n, (n = "NoneType" ∨ n = "bool" ∨ n = "int" ∨ n = "str") ∧ TyX K H v (.type n) := by
  cases h with
  | non => exact ⟨_, .inl rfl, .base .non⟩
  | bl b => exact ⟨_, .inr (.inl rfl), .base (.bl b)⟩
  | int i => exact ⟨_, .inr (.inr (.inl rfl)), .base (.int i)⟩
  | str x => exact ⟨_, .inr (.inr (.inr rfl)), .base (.str x)⟩
end
/-- what _copied answers: the same datum, of objects that were not there -/
def spCop : Nat → Sp
  | 0 => fun _ _ _ _ => False
  | n + 1 => fun vs H Q _ => ∃ (S : Addr → Prop) (v : V) (d : PyData), vs = [v] ∧ Dt S H v d ∧ d.depth ≤ n ∧ ∀ H' v', Same H H' → Dt (fun a => H a = none) H' v' d → Q v' H'
structure TxtC (mg : Str → Option Value) : Prop where
  isi : mg "isinstance" = none
  lst : mg "list" = none
  tup : mg "tuple" = none
  dct : mg "dict" = none
/-- over the keys of a dict that is held -/
theorem dc_keys {d : Addr} {o : Obj} {kws : List (Key × V)} {g : TG} {tt : TT} {tk tv : TE} {vs : List Nat} {σ : L2.St} {H1 : Hp} {D : Addr} {Qd : Hp → Prop} (Pv : Nat → Hp → Prop) (h0 : Pv 0 (upd H1 D (.dK []))) (hl : ∀ i H, Pv i H → H d = some (.frz o (.dK kws)))
    (hs : ∀ i k v H, kws[i]? = some (k, v) → Pv i H → g (kV k) (wipe σ vs) H fun σ2 H2 => wipe σ2 vs = wipe σ vs ∧ tt σ2 H2 fun b H3 =>
      if b = true then tk σ2 H3 fun y H4 => tv σ2 H4 fun z H5 => ∃ kvs k, y = kV k ∧ H5 D = some (.dK kvs) ∧ kvs.length < sizeLine ∧ Pv (i + 1) (upd H5 D (.dK (putK kvs k z))) else Pv (i + 1) H3) (hd : ∀ H, Pv kws.length H → Qd H) :
    ∃ W : Nat → Nat → Hp → Prop, (∃ m, W 0 m (upd H1 D (.dK []))) ∧ ∀ i m H, W i m H →
      ((Itk d o kws).stop i H ∧ Qd H) ∨ ((Itk d o kws).go i H ∧ ∃ Nx : Hp → Prop, (∀ H', Nx H' → ∃ m', m' < m ∧ W (i + 1) m' H') ∧ ∀ x H', (Itk d o kws).yld i H x H' → g x (wipe σ vs) H' fun σ2 H2 => wipe σ2 vs = wipe σ vs ∧ tt σ2 H2 fun b H3 =>
        if b = true then tk σ2 H3 fun y H4 => tv σ2 H4 fun z H5 => ∃ kvs k, y = kV k ∧ H5 D = some (.dK kvs) ∧ kvs.length < sizeLine ∧ Nx (upd H5 D (.dK (putK kvs k z))) else Nx H3) := by
  refine ⟨fun i m H => i ≤ kws.length ∧ m = kws.length - i ∧ Pv i H, ⟨_, Nat.zero_le _, rfl, h0⟩, ?_⟩
  rintro i m H ⟨hi, rfl, p⟩
  have q := hl i H p
  rcases Nat.lt_or_ge i kws.length with hlt | hge
  · refine .inr ⟨⟨q, hlt⟩, Pv (i + 1), fun H' p' => ⟨kws.length - (i + 1), by omega, hlt, rfl, p'⟩, fun x H' y => ?_⟩
    obtain ⟨rfl, k, v, e, rfl⟩ := y
    exact hs i k v _ e p
  · obtain rfl : i = kws.length := by omega
    exact .inl ⟨⟨q, hge⟩, hd H p⟩
section
variable {P : Program} {w : World} {K : PySem.W.Frag} {mg : Str → Option Value} {base : Heap}
theorem scC : FnScope ["value", "part", "key"] ["value"] (defScope sCop) := ⟨rfl, rfl, rfl, by decide +kernel, rfl, by decide +kernel, by decide +kernel⟩
theorem isi_b {H : Hp} {x : V} {n m : String} {r : Bool} {Q : VK} (ty : TyX K H x (.type n)) (h : kitB n m = some r) (q : Q (.bl r) H) : rIsi K [x, .ty m] H Q := ⟨x, .ty m, _, _, r, rfl, .ty m, ty, kit_ty h, q⟩
/-- if isinstance(x, T): , x the name in the i-th slot -/
theorem isi_if {σ : L2.St} {i : Nat} {H : Hp} {x : V} {n m : String} {r : Bool} {Q : Bool → Hp → Prop} (hv : σ[i]? = some (some x)) (ty : TyX K H x (.type n)) (h : kitB n m = some r) (q : Q r H) : tB (tCB (rIsi K) (tCons (tVar i) (tCons (tC (.ty m)) tNil))) σ H Q :=
  ⟨x, hv, isi_b (Q := fun y H1 => ∃ c, y = V.bl c ∧ Q c H1) ty h ⟨r, rfl, q⟩⟩
end
end OM

namespace OM
open PySem PySem.Spec PyProof.Rows L2
section
variable {P : Program} {w : World} {K : PySem.W.Frag} {mg : Str → Option Value} {base : Heap}
theorem same_upd {H : Hp} {D : Addr} {o : HO} (h : H D = none) : Same H (upd H D o) := fun b u e => by rw [upd_ne (ne_of_none e h)]; exact e
theorem same_put {H H' : Hp} {D : Addr} {o : HO} (h : H D = none) (s : Same H H') : Same H (upd H' D o) := fun b u e => by rw [upd_ne (ne_of_none e h)]; exact s b u e
/-- what holds of the parts that were copied so far -/
def PvC (H : Hp) (D : Addr) (ds : List PyData) (i : Nat) (H' : Hp) : Prop := Same H H' ∧ ∃ acc : List V, H' D = some (.lst acc) ∧ DtAll (fun a => H a = none ∧ a ≠ D) H' acc (ds.take i)
theorem PvC.one {S : Addr → Prop} {H H3 : Hp} {D : Addr} {xs : List V} {ds : List PyData} {i m : Nat} {x : V} (hD : H D = none) (hl : xs.length ≤ 1000) (h : DtAll S H xs ds) (hdep : PyData.depthAll ds ≤ m) (hx : xs[i]? = some x) (p : PvC H D ds i H3) :
    spCop (m + 1) [x] H3 (fun y H4 => ∃ acc, H4 D = some (.lst acc) ∧ acc.length < sizeLine ∧ PvC H D ds (i + 1) (upd H4 D (.lst (acc ++ [y])))) E0 := by
  obtain ⟨sm, acc, hD3, da⟩ := p
  obtain ⟨d, hdi, hdt⟩ := h.get hx
  refine ⟨S, x, d, rfl, hdt.mv (fun _ z => z) (fun a o _ e => sm a o e), Nat.le_trans (depth_get hdi) hdep, fun H4 v' sm4 dt4 => ⟨acc, sm4 _ _ hD3, ?_, ?_⟩⟩
  · have e1 := da.length
    rw [List.length_take] at e1
    have e2 : (1000 : Nat) < sizeLine := by decide
    have e3 := h.length
    omega
  · refine ⟨same_put hD (sm.trans sm4), acc ++ [v'], upd_same, ?_⟩
    have et : ds.take (i + 1) = ds.take i ++ [d] := by
      rw [List.take_add_one, hdi] <;> rfl
    rw [et]
    refine DtAll.snoc (da.mv (fun _ z => z) fun a o s e => by rw [upd_ne s.2]; exact sm4 _ _ e) (dt4.mv (fun a (s : H3 a = none) => ⟨sm.free s, fun z => by rw [z, hD3] at s; cases s⟩) fun a o s e => ?_)
    have s' : H3 a = none := s
    rw [upd_ne (fun z => by rw [z, hD3] at s'; cases s')]
    exact e
theorem PvC.all {S : Addr → Prop} {H H5 : Hp} {D : Addr} {xs : List V} {ds : List PyData} (h : DtAll S H xs ds) (p : PvC H D ds xs.length H5) : Same H H5 ∧ ∃ acc : List V, H5 D = some (.lst acc) ∧ acc.length = xs.length ∧ DtAll (fun a => H a = none ∧ a ≠ D) H5 acc ds := by
  obtain ⟨sm, acc, hD5, da⟩ := p
  rw [h.length, List.take_length] at da
  exact ⟨sm, acc, hD5, da.length.trans h.length.symm, da⟩
theorem PvC.zero {H : Hp} {D : Addr} {ds : List PyData} (hD : H D = none) : PvC H D ds 0 (upd H D (.lst [])) := ⟨same_upd hD, [], upd_same, .nil⟩
theorem unlock_same {H H' : Hp} {a : Addr} {od : Obj} {u : HO} (e : H a = some u) (sm : Same (upd H a (.frz od u)) H') : Same H (upd H' a u) := fun b o z => by
  by_cases hb : b = a
  · rw [hb] at z ⊢
    rw [upd_same, ← z, e]
  · rw [upd_ne hb]
    exact sm b o (by rw [upd_ne hb]; exact z)
theorem At.of {S : Addr → Prop} {H : Hp} {v v' : V} {d : PyData} (h : At v d) (x : Dt S H v' d) : At v' d := by
  cases h <;> (cases x; assumption)
theorem cop_step {f : Addr} {fd : FuncData} {n : Nat} (F : Fun K "_copied" "_copied" sCop f fd) (T : TxtC mg) (gC : mg "_copied" = some (.ref f)) (bC : Binds K fd ["value"] []) (G : FnOk P w K mg base CX0 n f fd ["value"] (spCop n)) :
    FnOk P w K mg base CX0 (n + 1) f fd ["value"] (spCop (n + 1)) := by
  refine F.ok scC (fun vs H Q E h => ?_) (fun cdv A outer s H vs Q E hr h => ?_)
  · obtain ⟨S, v, d, rfl, _⟩ := h
    rfl
  · obtain ⟨S, v, d, rfl, hd, hdep, q⟩ := h
    have un : (A.deeper (envOfC "_copied" (defScope sCop) s.heap.objs.size f cdv)).units + 1 < cLine := by
      have := hr.un
      omega
    refine ⟨_, pss_cons (ps_if (pt_val (pe_callB call_isi (by rfl) T.isi (by decide +kernel) (pa_cons (pv 0) (pa_cons (pe_bltn (v := .ty "list") (u := .type "list") (by rfl) T.lst (by decide +kernel) rfl) pa_nil))))
        (pss_one (ps_ret (pe_lc (own := [("part", 1)]) rfl scC.nd (pi_list (pv 0)) (blkOk_by (N := ["value", "part", "key"]) (sc := defScope sCop) (by decide +kernel)) (fun _ _ _ _ _ => pg_name (i := 1) scC.nd rfl (Or.inl rfl)) (fun _ _ _ _ _ => pts_nil)
          (fun _ _ _ _ _ => pe_call G hr rfl gC F.kp bC .nil pass0 (pa_cons (pv 1) pa_nil))))) pss_nil)
      (pss_cons (ps_if (pt_val (pe_callB call_isi (by rfl) T.isi (by decide +kernel) (pa_cons (pv 0) (pa_cons (pe_bltn (v := .ty "tuple") (u := .type "tuple") (by rfl) T.tup (by decide +kernel) rfl) pa_nil))))
        (pss_one (ps_ret (pe_callTy call_tuple_of (by rfl) T.tup (by decide +kernel) (pa_cons (pe_lc (own := [("part", 1)]) rfl scC.nd (pi_tup (pv 0)) (blkOk_by (N := ["value", "part", "key"]) (sc := defScope sCop) (by decide +kernel)) (fun _ _ _ _ _ => pg_name (i := 1) scC.nd rfl (Or.inl rfl)) (fun _ _ _ _ _ => pts_nil)
          (fun _ _ _ _ _ => pe_call G hr rfl gC F.kp bC .nil pass0 (pa_cons (pv 1) pa_nil))) pa_nil)))) pss_nil)
      (pss_cons (ps_if (pt_val (pe_callB call_isi (by rfl) T.isi (by decide +kernel) (pa_cons (pv 0) (pa_cons (pe_bltn (v := .ty "dict") (u := .type "dict") (by rfl) T.dct (by decide +kernel) rfl) pa_nil))))
        (pss_one (ps_ret (pe_lock (pe_dc (own := [("key", 2)]) rfl scC.nd (pi_keys (pv 0)) (blkOk_by (N := ["value", "part", "key"]) (sc := defScope sCop) (by decide +kernel)) (fun _ _ _ _ _ => pg_name (i := 2) scC.nd rfl (Or.inl rfl)) (fun _ _ _ _ _ => pts_nil)
          (fun _ _ _ _ _ => pv 2) (fun _ _ _ _ _ => pe_call G hr rfl gC F.kp bC .nil pass0 (pa_cons (pe_dget un (pv 0) (pv 2) (fun _ _ => rfl)) pa_nil)))))) pss_nil)
      (pss_one (ps_ret (pv 0))))), ?_⟩
    cases hd with
    | «at» h =>
      obtain ⟨t, ht, ty⟩ := h.ty (K := K) (H := H)
      have k1 : kitB t "list" = some false := by rcases ht with rfl | rfl | rfl | rfl <;> decide +kernel
      have k2 : kitB t "tuple" = some false := by rcases ht with rfl | rfl | rfl | rfl <;> decide +kernel
      have k3 : kitB t "dict" = some false := by rcases ht with rfl | rfl | rfl | rfl <;> decide +kernel
      refine isi_if (x := v) rfl ty k1 (iteF ?_)
      refine isi_if (x := v) rfl ty k2 (iteF ?_)
      refine isi_if (x := v) rfl ty k3 (iteF ?_)
      exact ⟨_, rfl, q _ _ (Same.refl _) (.at h)⟩
    | @lst a xs ds sa e hl h =>
      unfold PyData.depth at hdep
      obtain ⟨m, rfl⟩ : ∃ m, n = m + 1 := ⟨n - 1, by omega⟩
      refine isi_if (x := .ref a) (n := "list") (r := true) rfl (.base (.lst e)) (by decide +kernel) (iteT ?_)
      refine ⟨_, rfl, a, rfl, ⟨xs, SqL.of e⟩, fun D hD => lc_list (PvC H D ds) (PvC.zero hD) (fun i H' _ p => SqL.of (p.1 _ _ e)) (fun i x H3 hx p => ?_) (fun H5 p => ?_)⟩
      · exact ⟨rfl, _, rfl, PvC.one hD hl h (by omega) hx p⟩
      · obtain ⟨sm, acc, hD5, hlen, da⟩ := p.all h
        exact q _ _ sm (.lst hD hD5 (by omega) (da.mv (fun _ z => z.1) fun _ _ _ z => z))
    | @tup a xs ds sa e hl h =>
      unfold PyData.depth at hdep
      obtain ⟨m, rfl⟩ : ∃ m, n = m + 1 := ⟨n - 1, by omega⟩
      refine isi_if (x := .ref a) (n := "tuple") (r := false) rfl (.base (.tup e)) (by decide +kernel) (iteF ?_)
      refine isi_if (x := .ref a) (n := "tuple") (r := true) rfl (.base (.tup e)) (by decide +kernel) (iteT ?_)
      refine ⟨_, rfl, a, rfl, ⟨xs, SqT.of e⟩, fun D hD => lc_tup (PvC H D ds) (PvC.zero hD) (fun i H' _ p => SqT.of (p.1 _ _ e)) (fun i x H3 hx p => ?_) (fun H5 p => ?_)⟩
      · exact ⟨rfl, _, rfl, PvC.one hD hl h (by omega) hx p⟩
      · obtain ⟨sm, acc, hD5, hlen, da⟩ := p.all h
        refine ⟨D, acc, rfl, .inl ⟨SqL.of hD5, fun l hn => q _ _ (same_put (sm.free hn) sm) (.tup (sm.free hn) upd_same (by omega) (da.mv (fun _ z => z.1) fun b o s z => ?_))⟩⟩
        rw [upd_ne (ne_of_none z hn)]
        exact z
    | @dic0 a sa e =>
      refine isi_if (x := .ref a) (n := "dict") (r := false) rfl (.base (.dK e)) (by decide +kernel) (iteF ?_)
      refine isi_if (x := .ref a) (n := "dict") (r := false) rfl (.base (.dK e)) (by decide +kernel) (iteF ?_)
      refine isi_if (x := .ref a) (n := "dict") (r := true) rfl (.base (.dK e)) (by decide +kernel) (iteT ?_)
      refine ⟨a, .dK [], e, True.intro, fun od => ⟨_, rfl, a, od, rfl, .inl ⟨[], upd_same, fun D hD => dc_keys (fun _ H' => Same (upd H a (.frz od (.dK []))) H' ∧ H' D = some (.dK [])) ⟨same_upd hD, upd_same⟩ (fun i H' p => p.1 _ _ upd_same) (fun i k v H3 hx p => by simp at hx) (fun H5 p => ?_)⟩⟩⟩
      have hDa : D ≠ a := fun z => by rw [z, upd_same] at hD; cases hD
      rw [upd_ne hDa] at hD
      exact ⟨p.1 _ _ upd_same, q _ _ (unlock_same e p.1) (.dic0 hD (by rw [upd_ne hDa]; exact p.2))⟩
    | @dic1 a k v d sa e h =>
      have hdk : At v d → d.depth = 0 := fun z => by cases z <;> rfl
      obtain ⟨m, rfl⟩ : ∃ m, n = m + 1 := ⟨n - 1, by
        have z : 1 ≤ PyData.depth (.dict [(kD k, d)]) := by
          unfold PyData.depth
          omega
        omega⟩
      refine isi_if (x := .ref a) (n := "dict") (r := false) rfl (.base (.dK e)) (by decide +kernel) (iteF ?_)
      refine isi_if (x := .ref a) (n := "dict") (r := false) rfl (.base (.dK e)) (by decide +kernel) (iteF ?_)
      refine isi_if (x := .ref a) (n := "dict") (r := true) rfl (.base (.dK e)) (by decide +kernel) (iteT ?_)
      refine ⟨a, .dK [(k, v)], e, True.intro, fun od => ⟨_, rfl, a, od, rfl, .inl ⟨[(k, v)], upd_same, fun D hD => dc_keys (fun i H' => Same (upd H a (.frz od (.dK [(k, v)]))) H' ∧ ((i = 0 ∧ H' D = some (.dK [])) ∨ (i = 1 ∧ ∃ v', H' D = some (.dK [(k, v')]) ∧ At v' d)))
        ⟨same_upd hD, .inl ⟨rfl, upd_same⟩⟩ (fun i H' p => p.1 _ _ upd_same) (fun i k' v0 H3 hx p => ?_) (fun H5 p => ?_)⟩⟩⟩
      · cases i with
        | succ i => simp at hx
        | zero =>
          obtain ⟨rfl, rfl⟩ : k = k' ∧ v = v0 := by simpa using hx
          obtain ⟨sm, ⟨_, hD3⟩ | ⟨z, _⟩⟩ := p
          · refine ⟨rfl, _, rfl, _, rfl, _, rfl, a, v, rfl, .inl ⟨[(k, v)], k, .inr ⟨od, sm _ _ upd_same⟩, rfl, ?_⟩, fun _ => True, v, d, rfl, .at h, by rw [hdk h]; exact Nat.zero_le _, fun H4 v' sm4 dt4 => ⟨[], k, rfl, sm4 _ _ hD3, by decide, same_put hD (sm.trans sm4), .inr ⟨rfl, v', ?_, h.of dt4⟩⟩⟩
            · unfold valV
              simp
            · exact upd_same
          · cases z
      · have hDa : D ≠ a := fun z => by rw [z, upd_same] at hD; cases hD
        rw [upd_ne hDa] at hD
        obtain ⟨sm, ⟨z, _⟩ | ⟨_, v', hD5, h5⟩⟩ := p
        · cases z
        · exact ⟨sm _ _ upd_same, q _ _ (unlock_same e sm) (.dic1 hD (by rw [upd_ne hDa]; exact hD5) h5)⟩
end
end OM

namespace OM
open PySem PySem.Spec PyProof.Rows L2
/-- the type of a datum, by name -/
def tyN : PyData → String
  | .none => "NoneType"
  | .bool _ => "bool"
  | .int _ => "int"
  | .str _ => "str"
  | .list _ => "list"
  | .tuple _ => "tuple"
  | .dict _ => "dict"
theorem Dt.tyx {K : PySem.W.Frag} {S : Addr → Prop} {H : Hp} {v : V} {d : PyData} (h : Dt S H v d) : TyX K H v (.type (tyN d)) := by
  cases h with
  | «at» a =>
    cases a with
    | non => exact .base .non
    | bl b => exact .base (.bl b)
    | int i => exact .base (.int i)
    | str x => exact .base (.str x)
  | lst s e hl h => exact .base (.lst e)
  | tup s e hl h => exact .base (.tup e)
  | dic0 s e => exact .base (.dK e)
  | dic1 s e h => exact .base (.dK e)
def isStrD : PyData → Bool
  | .str _ => true
  | _ => false
def isTupD : PyData → Bool
  | .tuple _ => true
  | _ => false
theorem kit_str (d : PyData) : kitB (tyN d) "str" = some (isStrD d) := by
  have k0 : kitB "NoneType" "str" = some false := by decide +kernel
  have k1 : kitB "bool" "str" = some false := by decide +kernel
  have k2 : kitB "int" "str" = some false := by decide +kernel
  have k3 : kitB "str" "str" = some true := by decide +kernel
  have k4 : kitB "list" "str" = some false := by decide +kernel
  have k5 : kitB "tuple" "str" = some false := by decide +kernel
  have k6 : kitB "dict" "str" = some false := by decide +kernel
  cases d <;> assumption
theorem kit_tup (d : PyData) : kitB (tyN d) "tuple" = some (isTupD d) := by
  have k0 : kitB "NoneType" "tuple" = some false := by decide +kernel
  have k1 : kitB "bool" "tuple" = some false := by decide +kernel
  have k2 : kitB "int" "tuple" = some false := by decide +kernel
  have k3 : kitB "str" "tuple" = some false := by decide +kernel
  have k4 : kitB "list" "tuple" = some false := by decide +kernel
  have k5 : kitB "tuple" "tuple" = some true := by decide +kernel
  have k6 : kitB "dict" "tuple" = some false := by decide +kernel
  cases d <;> assumption
/-- if isinstance(x, T): .. as a value -/
theorem isi_te {K : PySem.W.Frag} {σ : L2.St} {i : Nat} {H : Hp} {x : V} {n m : String} {r : Bool} {Q : VK} (hv : σ[i]? = some (some x)) (ty : TyX K H x (.type n)) (h : kitB n m = some r) (q : Q (.bl r) H) : tCB (rIsi K) (tCons (tVar i) (tCons (tC (.ty m)) tNil)) σ H Q := by
  refine ⟨x, hv, ?_⟩
  exact (show rIsi K [x, .ty m] H Q from isi_b ty h q)
/-! ### names -/
def letS (x : Str) : Bool := x.cps.toList.all fun c => decide (97 ≤ c) && decide (c ≤ 122)
def words6 : List Str := ["else", "end", "get", "if", "put", "show"]
def nameS (x : Str) : Bool := decide (1 ≤ x.length) && (decide (x.length ≤ 8) && (letS x && !words6.contains x))
def isNameD : PyData → Bool
  | .str x => nameS x
  | _ => false

mutual
def smlD : PyData → Bool
  | .str x => decide (x.length ≤ 1000) && PyData.strOk x
  | .list xs => smlAll xs
  | .tuple xs => smlAll xs
  | _ => true
def smlAll : List PyData → Bool
  | [] => true
  | x :: r => smlD x && smlAll r
end
theorem sml_get : ∀ {ds : List PyData} {i : Nat} {d : PyData}, smlAll ds = true → ds[i]? = some d → smlD d = true
  | [], _, _, _, e => by simp at e
  | x :: r, 0, d, h, e => by
    simp at e
    subst e
    unfold smlAll at h
    exact (Bool.and_eq_true_iff.mp h).1
  | x :: r, i + 1, d, h, e => by
    unfold smlAll at h
    exact sml_get (Bool.and_eq_true_iff.mp h).2 (by simpa using e)
/-- over a text's signs -/
theorem lc_its {x : Str} {g : TG} {tt : TT} {te : TE} {vs : List Nat} {σ : L2.St} {H1 : Hp} {D : Addr} {Qd : Hp → Prop} (Pv : Nat → Hp → Prop) (h0 : Pv 0 (upd H1 D (.lst [])))
    (hs : ∀ i c H, x.cps.toList[i]? = some c → Pv i H → g (.str ⟨#[c]⟩) (wipe σ vs) H fun σ2 H2 => wipe σ2 vs = wipe σ vs ∧ tt σ2 H2 fun b H3 =>
      if b = true then te σ2 H3 fun y H4 => ∃ acc, H4 D = some (.lst acc) ∧ acc.length < sizeLine ∧ Pv (i + 1) (upd H4 D (.lst (acc ++ [y]))) else Pv (i + 1) H3) (hd : ∀ H, Pv x.cps.toList.length H → Qd H) :
    ∃ W : Nat → Nat → Hp → Prop, (∃ m, W 0 m (upd H1 D (.lst []))) ∧ ∀ i m H, W i m H →
      ((Its x).stop i H ∧ Qd H) ∨ ((Its x).go i H ∧ ∃ Nx : Hp → Prop, (∀ H', Nx H' → ∃ m', m' < m ∧ W (i + 1) m' H') ∧ ∀ v H', (Its x).yld i H v H' → g v (wipe σ vs) H' fun σ2 H2 => wipe σ2 vs = wipe σ vs ∧ tt σ2 H2 fun b H3 =>
        if b = true then te σ2 H3 fun y H4 => ∃ acc, H4 D = some (.lst acc) ∧ acc.length < sizeLine ∧ Nx (upd H4 D (.lst (acc ++ [y]))) else Nx H3) := by
  have hsz : x.cps.toList.length = x.cps.size := Array.length_toList
  refine ⟨fun i m H => i ≤ x.cps.size ∧ m = x.cps.size - i ∧ Pv i H, ⟨_, Nat.zero_le _, rfl, h0⟩, ?_⟩
  rintro i m H ⟨hi, rfl, p⟩
  rcases Nat.lt_or_ge i x.cps.size with hlt | hge
  · refine .inr ⟨hlt, Pv (i + 1), fun H' p' => ⟨x.cps.size - (i + 1), by omega, hlt, rfl, p'⟩, ?_⟩
    rintro v H' ⟨rfl, c, hc, rfl⟩
    exact hs i c _ (by rw [Array.getElem?_toList]; exact hc) p
  · obtain rfl : i = x.cps.size := by omega
    exact .inl ⟨Nat.le_refl _, hd H (by rw [hsz]; exact p)⟩
end OM

namespace OM
open PySem PySem.Spec PyProof.Rows L2
abbrev sIsName : Stmt := top 14
def alphabet : Str := "abcdefghijklmnopqrstuvwxyz"
theorem alpha_tl : alphabet.cps.toList = [97, 98, 99, 100, 101, 102, 103, 104, 105, 106, 107, 108, 109, 110, 111, 112, 113, 114, 115, 116, 117, 118, 119, 120, 121, 122] := by decide +kernel
theorem in_alpha (c : Nat) : (!(Builtin.Str.occurrences alphabet ⟨#[c]⟩ 0 alphabet.length 1).isEmpty) = (decide (97 ≤ c) && decide (c ≤ 122)) := by
  rw [StrLaws.found_one, alpha_tl, Bool.eq_iff_iff]
  simp only [decide_eq_true_eq, Bool.and_eq_true, List.mem_cons, List.not_mem_nil, or_false]
  omega
/-- a word among the six -/
theorem inV_words (x : Str) : inV (.str x) (words6.map V.str) = words6.contains x := by
  have h : ∀ y : Str, (y == x) = (x == y) := fun y => by rw [Bool.eq_iff_iff, beq_iff_eq, beq_iff_eq, eq_comm]
  unfold inV words6
  simp only [List.map_cons, List.map_nil, List.any_cons, List.any_nil, List.contains_cons, List.contains_nil, eqV, h]
/-- constants of the module, as values -/
structure TxtN (K : PySem.W.Frag) (mg : Str → Option Value) : Prop where
  isi : mg "isinstance" = none
  str : mg "str" = none
  len : mg "len" = none
  all : mg "all" = none
  most : ∃ t, mg "MAX_LETTERS" = some (.int 8 t)
  lets : ∃ t, mg "LETTERS" = some (.str alphabet t)
  words : ∃ a, mg "WORDS" = some (.ref a) ∧ ∀ H, SqT K H a (words6.map V.str)
def spName : Sp := fun vs H Q _ => ∃ (S : Addr → Prop) (v : V) (d : PyData), vs = [v] ∧ Dt S H v d ∧ smlD d = true ∧ ∀ H', Same H H' → Q (.bl (isNameD d)) H'
def let1 (c : Nat) : Bool := decide (97 ≤ c) && decide (c ≤ 122)
theorem letS_map (x : Str) : ((x.cps.toList.map let1).all id) = letS x := by
  unfold letS
  rw [List.all_map]
  rfl
theorem name_yes {x : Str} (h1 : decide ((1 : Int) ≤ (x.length : Int)) = true) (h2 : decide ((x.length : Int) ≤ 8) = true) (h3 : (x.cps.toList.map let1).all id = true) : isNameD (.str x) = !inV (.str x) (words6.map V.str) := by
  have e1 := of_decide_eq_true h1
  have e2 := of_decide_eq_true h2
  rw [letS_map] at h3
  show nameS x = _
  unfold nameS
  rw [h3, decide_eq_true (show 1 ≤ x.length by omega), decide_eq_true (show x.length ≤ 8 by omega), inV_words]
  rfl
theorem name_no {x : Str} (h : ¬ decide ((1 : Int) ≤ (x.length : Int)) = true ∨ ¬ decide ((x.length : Int) ≤ 8) = true ∨ ¬ (x.cps.toList.map let1).all id = true) : isNameD (.str x) = false := by
  show nameS x = _
  unfold nameS
  rcases h with h | h | h
  · have : ¬ 1 ≤ x.length := fun z => h (decide_eq_true (by omega))
    rw [decide_eq_false this]
    rfl
  · have : ¬ x.length ≤ 8 := fun z => h (decide_eq_true (by omega))
    rw [decide_eq_false this, Bool.false_and, Bool.and_false]
  · rw [letS_map] at h
    have : letS x = false := by
      cases y : letS x with
      | false => rfl
      | true => exact absurd y h
    rw [this, Bool.false_and, Bool.and_false, Bool.and_false]
def PvN (H : Hp) (D : Addr) (x : Str) (i : Nat) (H' : Hp) : Prop := Same H H' ∧ H' D = some (.lst (((x.cps.toList.take i).map let1).map V.bl))
theorem PvN.step {H H4 : Hp} {D : Addr} {x : Str} {i c : Nat} {b : Bool} (hD : H D = none) (hl : x.length ≤ 1000) (hc : x.cps.toList[i]? = some c) (p : PvN H D x i H4) (hb : b = let1 c) : ∃ acc, H4 D = some (.lst acc) ∧ acc.length < sizeLine ∧ PvN H D x (i + 1) (upd H4 D (.lst (acc ++ [V.bl b]))) := by
  refine ⟨_, p.2, ?_, same_put hD p.1, ?_⟩
  · have hz : x.cps.toList.length = x.length := Array.length_toList
    rw [List.length_map, List.length_map, List.length_take]
    have : (1000 : Nat) < sizeLine := by decide
    omega
  · rw [upd_same, hb, List.take_add_one, hc, List.map_append, List.map_append]
    rfl
theorem PvN.all {H H5 : Hp} {D : Addr} {x : Str} (p : PvN H D x x.cps.toList.length H5) : Same H H5 ∧ H5 D = some (.lst ((x.cps.toList.map let1).map V.bl)) := by
  have e := p.2
  rw [List.take_length] at e
  exact ⟨p.1, e⟩
section
variable {P : Program} {w : World} {K : PySem.W.Frag} {mg : Str → Option Value} {base : Heap} {f : Addr} {fd : FuncData}
theorem scN : FnScope ["value", "letter"] ["value"] (defScope sIsName) := ⟨rfl, rfl, rfl, by decide +kernel, rfl, by decide +kernel, by decide +kernel⟩
theorem ok_isname (F : Fun K "is_name" "is_name" sIsName f fd) (T : TxtN K mg) : FnOk P w K mg base CX0 1 f fd ["value"] spName := by
  refine F.ok scN (fun vs H Q E h => ?_) (fun cdv A outer s H vs Q E hr h => ?_)
  · obtain ⟨S, v, d, rfl, _⟩ := h
    rfl
  · obtain ⟨S, v, d, rfl, hd, sm, q⟩ := h
    obtain ⟨t1, g1⟩ := T.most
    obtain ⟨t2, g2⟩ := T.lets
    obtain ⟨aw, g3, hw⟩ := T.words
    refine ⟨_, pss_one (ps_ret (pe_and (pe_callB call_isi (by rfl) T.isi (by decide +kernel) (pa_cons (pv 0) (pa_cons (pe_bltn (v := .ty "str") (u := .type "str") (by rfl) T.str (by decide +kernel) rfl) pa_nil)))
      (pe_and (pe_chain op_le op_le pe_int (pe_callB call_len_str (by rfl) T.len PySem.boot_len (pa_cons (pv 0) pa_nil)) (pe_glob (v := .int 8) (by rfl) g1 ⟨t1, rfl⟩))
      (pe_and (pe_callB (cr_all rfl) (by rfl) T.all (by decide +kernel) (pa_cons (pe_lc (own := [("letter", 1)]) rfl scN.nd (pi_str (pv 0)) (blkOk_by (N := ["value", "letter"]) (sc := defScope sIsName) (by decide +kernel))
          (fun _ _ _ _ _ => pg_name (i := 1) scN.nd rfl (Or.inl rfl)) (fun _ _ _ _ _ => pts_nil) (fun _ _ _ _ _ => pe_cmpR op_in_str (pv 1) (pe_glob (v := .str alphabet) (by rfl) g2 ⟨t2, rfl⟩) (by rfl))) pa_nil))
      (pe_one (pe_cmpR op_notIn_seq (pv 0) (pe_glob (v := .ref aw) (by rfl) g3 rfl) (by rfl))))))), ?_⟩
    cases hs : isStrD d with
    | false =>
      have e : isNameD d = false := by cases d <;> first | rfl | cases hs
      refine isi_te (x := v) rfl hd.tyx ((kit_str d).trans (congrArg some hs)) ⟨_, rfl, iteF ?_⟩
      have z := q H (Same.refl _)
      rw [e] at z
      exact z
    | true =>
      cases d with
      | str x =>
        have ev : v = .str x := by
          cases hd with
          | «at» a => cases a <;> rfl
        subst ev
        have hl : x.length ≤ 1000 := of_decide_eq_true (Bool.and_eq_true_iff.mp (show (decide (x.length ≤ 1000) && PyData.strOk x) = true by unfold smlD at sm; exact sm)).1
        refine isi_te (x := .str x) rfl hd.tyx ((kit_str (.str x)).trans rfl) ⟨_, rfl, iteT ?_⟩
        refine ⟨_, rfl, x, rfl, Nat.le_trans hl (by decide), 1, (x.length : Int), rfl, rfl, _, rfl, ite2 (fun h1 => ?_) (fun h1 => ?_)⟩
        · refine ⟨(x.length : Int), 8, rfl, rfl, _, rfl, ite2 (fun h2 => ?_) (fun h2 => ?_)⟩
          · refine ⟨_, rfl, x, rfl, fun Dl hD => lc_its (PvN H Dl x) ⟨same_upd hD, upd_same⟩ (fun i c H3 hc p => ?_) (fun H5 p => ?_)⟩
            · refine ⟨rfl, _, rfl, ⟨#[c]⟩, alphabet, rfl, rfl, p.step hD hl hc (in_alpha c)⟩
            · obtain ⟨s5, e5⟩ := p.all
              refine ⟨Dl, _, rfl, SqL.of e5, _, rfl, ite2 (fun h3 => ?_) (fun h3 => ?_)⟩
              · refine ⟨_, rfl, aw, _, rfl, .inr (hw _), rfl, by decide, ?_⟩
                have z := q _ s5
                rw [show isNameD (.str x) = !inV (.str x) (words6.map V.str) from name_yes h1 h2 h3] at z
                exact z
              · have z := q _ s5
                rw [show isNameD (.str x) = false from name_no (.inr (.inr h3))] at z
                exact z
          · have z := q H (Same.refl _)
            rw [show isNameD (.str x) = false from name_no (.inr (.inl h2))] at z
            exact z
        · refine ⟨_, rfl, iteF ?_⟩
          have z := q H (Same.refl _)
          rw [show isNameD (.str x) = false from name_no (.inl h1)] at z
          exact z
      | _ => cases hs
end
end OM

namespace OM
open PySem PySem.Spec PyProof.Rows L2
def chS (c : Nat) : V := .str ⟨#[c]⟩
def chD (c : Nat) : PyData := .str ⟨#[c]⟩
theorem chs_all {K : PySem.W.Frag} {H : Hp} : ∀ l : List Nat, DpAll K H (l.map chS) (l.map chD)
  | [] => .nil
  | c :: r => .cons (.str _) (chs_all r)
theorem ch_ok {c : Nat} (h : c < 0x110000) : PyData.canLay0 (.str ⟨#[c]⟩) = true := by
  unfold PyData.canLay0
  show (#[c] : Array Nat).all (fun c => decide (c < 0x110000)) = true
  simp [h]
theorem chs_lay : ∀ l : List Nat, (∀ c ∈ l, c < 0x110000) → PyData.canLayAll0 (l.map chD) = true
  | [], _ => rfl
  | c :: r, h => by
    show (PyData.canLay0 (.str ⟨#[c]⟩) && PyData.canLayAll0 (r.map chD)) = true
    rw [chs_lay r fun x hx => h x (List.mem_cons_of_mem _ hx), ch_ok (h c (List.mem_cons_self ..))]
    rfl
theorem chs_dep : ∀ l : List Nat, PyData.depthAll (l.map chD) = 0
  | [] => rfl
  | c :: r => by
    show max (PyData.depth (.str ⟨#[c]⟩)) (PyData.depthAll (r.map chD)) = 0
    rw [chs_dep r]
    rfl
theorem chs_sh (l : List Nat) (hc : ∀ c ∈ l, c < 0x110000) : SeqAt.shaped (.list (l.map chD)) = true := by
  show (PyData.canLay0 (.list (l.map chD)) && decide (PyData.depth (.list (l.map chD)) ≤ 64)) = true
  have h1 : PyData.canLay0 (.list (l.map chD)) = true := by
    unfold PyData.canLay0
    exact chs_lay l hc
  have h2 : PyData.depth (.list (l.map chD)) ≤ 64 := by
    unfold PyData.depth
    rw [chs_dep]
    decide
  rw [h1, decide_eq_true h2]
  rfl
theorem nil_sh : SeqAt.shaped (.list []) = true := by decide +kernel
theorem eqv_nil (l : List Nat) : PyData.eqv (.list (l.map chD)) (.list []) = l.isEmpty := by
  cases l with
  | nil => decide +kernel
  | cons c r =>
    show PyData.eqv (.list (chD c :: r.map chD)) (.list []) = false
    unfold PyData.eqv PyData.eqvAll
    rfl
theorem le_a (c : Nat) : (!decide ((⟨#[c]⟩ : Str).cps.toList < ("a" : Str).cps.toList)) = decide (97 ≤ c) := by
  have e : ("a" : Str).cps.toList = [97] := by decide +kernel
  rw [e, Bool.eq_iff_iff]
  have z : ([c] < [97]) ↔ c < 97 := by
    refine ⟨fun h => ?_, fun h => List.Lex.rel h⟩
    cases h with
    | rel h => exact h
    | cons h => cases h
  rw [Bool.not_eq_true', decide_eq_false_iff_not, decide_eq_true_iff, z]
  omega
theorem le_z (c : Nat) : (!decide (("z" : Str).cps.toList < (⟨#[c]⟩ : Str).cps.toList)) = decide (c ≤ 122) := by
  have e : ("z" : Str).cps.toList = [122] := by decide +kernel
  rw [e, Bool.eq_iff_iff]
  have z : ([122] < [c]) ↔ 122 < c := by
    refine ⟨fun h => ?_, fun h => List.Lex.rel h⟩
    cases h with
    | rel h => exact h
    | cons h => cases h
  show ((!decide ([122] < [c])) = true) ↔ _
  rw [Bool.not_eq_true', decide_eq_false_iff_not, decide_eq_true_iff, z]
  omega
theorem bad_none (l : List Nat) : (l.filter fun c => !let1 c).isEmpty = l.all let1 := by
  induction l with
  | nil => rfl
  | cons c r ih =>
    rw [List.filter_cons, List.all_cons]
    cases h : let1 c with
    | true => simpa using ih
    | false => simp
def PvB (H : Hp) (D : Addr) (x : Str) (i : Nat) (H' : Hp) : Prop := Same H H' ∧ H' D = some (.lst (((x.cps.toList.take i).filter fun c => !let1 c).map chS))
theorem PvB.no {H H4 : Hp} {D : Addr} {x : Str} {i c : Nat} (hc : x.cps.toList[i]? = some c) (p : PvB H D x i H4) (h : let1 c = true) : PvB H D x (i + 1) H4 := by
  refine ⟨p.1, ?_⟩
  rw [p.2, List.take_add_one, hc, List.filter_append]
  simp [h]
theorem PvB.step {H H4 : Hp} {D : Addr} {x : Str} {i c : Nat} (hD : H D = none) (hl : x.length ≤ 1000) (hc : x.cps.toList[i]? = some c) (p : PvB H D x i H4) (h : let1 c = false) : ∃ acc, H4 D = some (.lst acc) ∧ acc.length < sizeLine ∧ PvB H D x (i + 1) (upd H4 D (.lst (acc ++ [V.str ⟨#[c]⟩]))) := by
  refine ⟨_, p.2, ?_, same_put hD p.1, ?_⟩
  · have hz : x.cps.toList.length = x.length := Array.length_toList
    rw [List.length_map]
    have h1 := List.length_filter_le (fun c => !let1 c) (x.cps.toList.take i)
    rw [List.length_take] at h1
    have : (1000 : Nat) < sizeLine := by decide
    omega
  · rw [upd_same, List.take_add_one, hc, List.filter_append, List.map_append]
    simp [h, chS]
theorem lname_yes {x : Str} (hw : words6.contains x = false) (h1 : decide ((0 : Int) < (x.length : Int)) = true) (h2 : decide ((x.length : Int) < 9) = true) : isNameD (.str x) = (x.cps.toList.all let1) := by
  have e1 := of_decide_eq_true h1
  have e2 := of_decide_eq_true h2
  show nameS x = _
  unfold nameS
  rw [hw, decide_eq_true (show 1 ≤ x.length by omega), decide_eq_true (show x.length ≤ 8 by omega)]
  simp [letS]
  rfl
theorem lname_no {x : Str} (h : words6.contains x = true ∨ ¬ decide ((0 : Int) < (x.length : Int)) = true ∨ ¬ decide ((x.length : Int) < 9) = true) : isNameD (.str x) = false := by
  show nameS x = _
  unfold nameS
  rcases h with h | h | h
  · rw [h, Bool.not_true, Bool.and_false, Bool.and_false, Bool.and_false]
  · have : ¬ 1 ≤ x.length := fun z => h (decide_eq_true (by omega))
    rw [decide_eq_false this]
    rfl
  · have : ¬ x.length ≤ 8 := fun z => h (decide_eq_true (by omega))
    rw [decide_eq_false this, Bool.false_and, Bool.and_false]
section
variable {P : Program} {w : World} {K : PySem.W.Frag} {mg : Str → Option Value} {base : Heap} {f : Addr} {fd : FuncData}
end
end OM

namespace OM
open PySem PySem.Spec PyProof.Rows L2
/-- a tuple of anything == () -/
theorem op_eqT0 {X : Cx} (hu : X.A.units < cLine) : OpR X (compareOp .Eq) (fun x y H Q => ∃ a b xs, x = .ref a ∧ y = .ref b ∧ SqT X.K H a xs ∧ SqT X.K H b [] ∧ Q (.bl xs.isEmpty) H) := by
  intro pins s σ H x y v u Q I rx ry h
  obtain ⟨a, b, xs, rfl, rfl, ha, hb, q⟩ := h
  obtain rfl : v = Value.ref a := rx
  obtain rfl : u = Value.ref b := ry
  obtain ⟨us, r1, p1, _⟩ := I.tuple ha
  obtain ⟨ws, r2, p2, _⟩ := I.tuple hb
  cases r2
  refine SeqAt.eq_tupleAt (e := fun _ => true) p1 p2 hu (fun j h1 h2 => absurd h2 (by simp)) ⟨.bl _, H, I, rfl, ?_⟩
  have e : ((List.range (min us.toArray.size (([] : List Value).toArray).size)).all (fun _ => true) && us.toArray.size == (([] : List Value).toArray).size) = xs.isEmpty := by
    have l := r1.length
    cases xs with
    | nil =>
      have : us = [] := List.length_eq_zero_iff.mp l.symm
      subst this
      rfl
    | cons x r =>
      cases us with
      | nil => simp at l
      | cons u us => simp
  rw [e]
  exact q
/-- over two tuples side by side -/
theorem lc_zipT {K : PySem.W.Frag} {a b : Addr} {xs ys : List V} {g : TG} {tt : TT} {te : TE} {vs : List Nat} {σ : L2.St} {H1 : Hp} {D : Addr} {Qd : Hp → Prop} (hlen : xs.length = ys.length) (Pv : Nat → Hp → Prop) (h0 : Pv 0 (upd H1 D (.lst []))) (hl : ∀ i H, Pv i H → SqT K H a xs ∧ SqT K H b ys)
    (hs : ∀ i x y T H, xs[i]? = some x → ys[i]? = some y → Pv i H → H T = none → g (.ref T) (wipe σ vs) (upd H T (.tup [x, y])) fun σ2 H2 => wipe σ2 vs = wipe σ vs ∧ tt σ2 H2 fun b H3 =>
      if b = true then te σ2 H3 fun y H4 => ∃ acc, H4 D = some (.lst acc) ∧ acc.length < sizeLine ∧ Pv (i + 1) (upd H4 D (.lst (acc ++ [y]))) else Pv (i + 1) H3) (hd : ∀ H, Pv xs.length H → Qd H) :
    ∃ W : Nat → Nat → Hp → Prop, (∃ m, W 0 m (upd H1 D (.lst []))) ∧ ∀ i m H, W i m H →
      ((RZ.ItzT K a b).stop i H ∧ Qd H) ∨ ((RZ.ItzT K a b).go i H ∧ ∃ Nx : Hp → Prop, (∀ H', Nx H' → ∃ m', m' < m ∧ W (i + 1) m' H') ∧ ∀ v H', (RZ.ItzT K a b).yld i H v H' → g v (wipe σ vs) H' fun σ2 H2 => wipe σ2 vs = wipe σ vs ∧ tt σ2 H2 fun b H3 =>
        if b = true then te σ2 H3 fun y H4 => ∃ acc, H4 D = some (.lst acc) ∧ acc.length < sizeLine ∧ Nx (upd H4 D (.lst (acc ++ [y]))) else Nx H3) := by
  refine ⟨fun i m H => i ≤ xs.length ∧ m = xs.length - i ∧ Pv i H, ⟨_, Nat.zero_le _, rfl, h0⟩, ?_⟩
  rintro i m H ⟨hi, rfl, p⟩
  obtain ⟨qx, qy⟩ := hl i H p
  rcases Nat.lt_or_ge i xs.length with hlt | hge
  · have hx : xs[i]? = some xs[i] := List.getElem?_eq_getElem hlt
    have hy : ys[i]? = some (ys[i]'(by omega)) := List.getElem?_eq_getElem (by omega)
    refine .inr ⟨⟨xs, ys, _, _, qx, qy, hx, hy⟩, Pv (i + 1), fun H' p' => ⟨xs.length - (i + 1), by omega, hlt, rfl, p'⟩, ?_⟩
    rintro v H' ⟨T, x', y', rfl, hT, rfl, f1, f2⟩
    exact hs i x' y' T H (f1 xs qx) (f2 ys qy) p hT
  · obtain rfl : i = xs.length := by omega
    exact .inl ⟨⟨xs, ys, qx, qy, .inl (Nat.le_refl _)⟩, hd H p⟩
/-! ### code, as a datum -/
def formOf (w : Str) : Option (List Str) :=
  if w = "read" then some ["register", "cell"] else if w = "write" then some ["cell", "register"] else if w = "set" then some ["register", "function", "registers"] else if w = "copy" then some ["register", "register"]
  else if w = "get" then some ["register"] else if w = "put" then some ["register"] else if w = "if" then some ["test", "register", "code", "code"] else if w = "show" then some ["register"] else none
mutual
/-- no `show` stands in a datum -/
def nsD : PyData → Bool
  | .str x => decide (x ≠ "show")
  | .tuple ds => nsAll ds
  | _ => true
def nsAll : List PyData → Bool
  | [] => true
  | d :: r => nsD d && nsAll r
end
theorem nsAll_all : ∀ {ds : List PyData}, nsAll ds = ds.all nsD
  | [] => by
    unfold nsAll
    rfl
  | d :: r => by
    unfold nsAll
    rw [nsAll_all, List.all_cons]
theorem nsD_tup {ds : List PyData} : nsD (.tuple ds) = nsAll ds := by rw [nsD]
/-- the flag that lets `show`, or none there -/
def ShO (b : Bool) (d : PyData) : Prop := b = true ∨ nsD d = true
theorem ShO.get {b : Bool} {ds : List PyData} {d : PyData} {i : Nat} (h : ShO b (.tuple ds)) (hd : ds[i]? = some d) : ShO b d := h.imp id fun z => by
  rw [nsD_tup, nsAll_all] at z
  exact List.all_eq_true.mp z d (List.mem_of_getElem? hd)
def argsD : PyData → Bool
  | .tuple ds => decide (ds.length ≤ 2) && ds.all isNameD
  | _ => false
def fitD (cd : PyData → Bool) (d : PyData) (role : Str) : Bool := if role = "code" then cd d else if role = "registers" then argsD d else isNameD d
def rowD (cd : PyData → Bool) : PyData → Bool
  | .tuple (.str w :: rest) => match formOf w with
    | some rs => decide (rest.length = rs.length) && (List.zipWith (fitD cd) rest rs).all id
    | none => false
  | _ => false
def codeD : Nat → PyData → Bool
  | 0, .tuple ds => ds.all (rowD fun _ => false)
  | n + 1, .tuple ds => ds.all (rowD (codeD n))
  | _, _ => false
def cdOf : Nat → PyData → Bool
  | 0 => fun _ => false
  | n + 1 => codeD n
theorem codeD_tup (n : Nat) (ds : List PyData) : codeD n (.tuple ds) = ds.all (rowD (cdOf n)) := by
  cases n <;> rfl
abbrev sNested : Stmt := top 19
abbrev sStmt : Stmt := top 20
abbrev sFits : Stmt := top 21
def spNested : Sp := fun vs H Q _ => ∃ (S : Addr → Prop) (v : V) (d : PyData) (n : Nat), vs = [v, .int n] ∧ Dt S H v d ∧ smlD d = true ∧ ∀ H', Same H H' → Q (.bl (codeD n d)) H'
/-- the contract at one depth -/
def spNestedAt : Nat → Sp
  | 0 => fun _ _ _ _ => False
  | n + 1 => fun vs H Q _ => ∃ (S : Addr → Prop) (v : V) (d : PyData), vs = [v, .int n] ∧ Dt S H v d ∧ smlD d = true ∧ ∀ H', Same H H' → Q (.bl (codeD n d)) H'
def spStmt (n : Nat) : Sp := fun vs H Q _ => ∃ (S : Addr → Prop) (v : V) (d : PyData), vs = [v, .int n] ∧ Dt S H v d ∧ smlD d = true ∧ ∀ H', Same H H' → Q (.bl (rowD (cdOf n) d)) H'
def spFits (n : Nat) : Sp := fun vs H Q _ => ∃ (S : Addr → Prop) (v : V) (d : PyData) (r : Str), vs = [v, .str r, .int n] ∧ Dt S H v d ∧ smlD d = true ∧ ∀ H', Same H H' → Q (.bl (fitD (cdOf n) d r)) H'
/-! the same with the third argument -/
def spNestedAtS : Nat → Sp
  | 0 => fun _ _ _ _ => False
  | n + 1 => fun vs H Q _ => ∃ (S : Addr → Prop) (v : V) (d : PyData) (b : Bool), vs = [v, .int n, .bl b] ∧ ShO b d ∧ Dt S H v d ∧ smlD d = true ∧ ∀ H', Same H H' → Q (.bl (codeD n d)) H'
def spStmtS (n : Nat) : Sp := fun vs H Q _ => ∃ (S : Addr → Prop) (v : V) (d : PyData) (b : Bool), vs = [v, .int n, .bl b] ∧ ShO b d ∧ Dt S H v d ∧ smlD d = true ∧ ∀ H', Same H H' → Q (.bl (rowD (cdOf n) d)) H'
def spFitsS (n : Nat) : Sp := fun vs H Q _ => ∃ (S : Addr → Prop) (v : V) (d : PyData) (r : Str) (b : Bool), vs = [v, .str r, .int n, .bl b] ∧ ShO b d ∧ Dt S H v d ∧ smlD d = true ∧ ∀ H', Same H H' → Q (.bl (fitD (cdOf n) d r)) H'
/-- the modules' constants about statements -/
structure TxtF (K : PySem.W.Frag) (w : World) (mg : Str → Option Value) : Prop where
  tup : mg "tuple" = none
  zip : mg "zip" = none
  most : ∃ t, mg "MAX_REGISTERS" = some (.int 2 t)
  forms : ∃ d es n, mg "FORMS" = some (.ref d) ∧ KDict K w d es n ∧ (∀ z, formOf z = none → PySem.W.nsIn K d z = some none) ∧ ∀ z rs, formOf z = some rs → ∃ a, PySem.W.nsIn K d z = some (some (.ref a)) ∧ ∀ H, SqT K H a (rs.map V.str)
/-- a list of truths that grows -/
def PvM (H : Hp) (D : Addr) (bs : List Bool) (i : Nat) (H' : Hp) : Prop := Same H H' ∧ H' D = some (.lst ((bs.take i).map V.bl))
theorem PvM.zero {H : Hp} {D : Addr} {bs : List Bool} (hD : H D = none) : PvM H D bs 0 (upd H D (.lst [])) := ⟨same_upd hD, upd_same⟩
theorem PvM.step {H H3 H4 : Hp} {D : Addr} {bs : List Bool} {i : Nat} {b : Bool} (hD : H D = none) (hl : bs.length ≤ 1000) (hb : bs[i]? = some b) (p : PvM H D bs i H3) (s : Same H3 H4) : ∃ acc, H4 D = some (.lst acc) ∧ acc.length < sizeLine ∧ PvM H D bs (i + 1) (upd H4 D (.lst (acc ++ [V.bl b]))) := by
  refine ⟨_, s _ _ p.2, ?_, same_put hD (p.1.trans s), ?_⟩
  · rw [List.length_map, List.length_take]
    have : (1000 : Nat) < sizeLine := by decide
    omega
  · rw [upd_same, List.take_add_one, hb, List.map_append]
    rfl
theorem PvM.all {H H5 : Hp} {D : Addr} {bs : List Bool} {n : Nat} (p : PvM H D bs n H5) (hn : n = bs.length) : Same H H5 ∧ H5 D = some (.lst (bs.map V.bl)) := by
  have e := p.2
  rw [hn, List.take_length] at e
  exact ⟨p.1, e⟩
theorem all_map_id {α : Type} (f : α → Bool) (l : List α) : (l.map f).all id = l.all f := by
  rw [List.all_map]
  rfl
theorem Dt.tup_of {S : Addr → Prop} {H : Hp} {v : V} {ds : List PyData} (h : Dt S H v (.tuple ds)) : ∃ a xs, v = .ref a ∧ H a = some (.tup xs) ∧ xs.length ≤ 1000 ∧ DtAll S H xs ds := by
  cases h with
  | «at» a => cases a
  | @tup a xs _ s e hl h => exact ⟨a, xs, rfl, e, hl, h⟩
section
variable {P : Program} {w : World} {K : PySem.W.Frag} {mg : Str → Option Value} {base : Heap} {f fS fF fN fI : Addr} {fd dS dF dN dI : FuncData}
theorem scF : FnScope ["part", "role", "depth", "shows", "name"] ["part", "role", "depth", "shows"] (defScope sFits) := ⟨rfl, rfl, rfl, by decide +kernel, rfl, by decide +kernel, by decide +kernel⟩
theorem ok_fits {n k : Nat} (F : Fun K "_fits" "_fits" sFits f fd) (T : TxtN K mg) (TF : TxtF K w mg) (gN : mg "is_nested_code" = some (.ref fN)) (kN : PySem.W.keepIn K (.ref fN) = true) (bN : Binds K dN ["value", "depth", "shows"] []) (GN : FnOk P w K mg base CX0 (k + 1) fN dN ["value", "depth", "shows"] (spNestedAtS n))
    (gI : mg "is_name" = some (.ref fI)) (kI : PySem.W.keepIn K (.ref fI) = true) (bI : Binds K dI ["value"] []) (GI : FnOk P w K mg base CX0 1 fI dI ["value"] spName) : FnOk P w K mg base CX0 (k + 2) f fd ["part", "role", "depth", "shows"] (spFitsS n) := by
  refine F.ok scF (fun vs H Q E h => ?_) (fun cdv A outer s H vs Q E hr h => ?_)
  · obtain ⟨S, v, d, r, b, rfl, _⟩ := h
    rfl
  · obtain ⟨S, v, d, r, b, rfl, sho, hd, sm, q⟩ := h
    obtain ⟨t1, g1⟩ := TF.most
    refine ⟨_, pss_cons (ps_if (pt_cmpR op_eq (pv 1) pe_str (nomark _)) (pss_one (ps_ret (pe_and (pe_cmpR op_gt (pv 2) pe_int (nomark _)) (pe_one (pe_call GN hr (by rfl) gN kN bN .nil pass0 (pa_cons (pv 0) (pa_cons (pe_op op_sub (pv 2) pe_int) (pa_cons (pv 3) pa_nil)))))))) pss_nil)
      (pss_cons (ps_if (pt_cmpR op_eq (pv 1) pe_str (nomark _)) (pss_one (ps_ret (pe_and (pe_callB call_isi (by rfl) T.isi (by decide +kernel) (pa_cons (pv 0) (pa_cons (pe_bltn (v := .ty "tuple") (u := .type "tuple") (by rfl) TF.tup (by decide +kernel) rfl) pa_nil)))
          (pe_and (pe_cmpR op_le (pe_callB call_len_seq (by rfl) T.len PySem.boot_len (pa_cons (pv 0) pa_nil)) (pe_glob (v := .int 2) (by rfl) g1 ⟨t1, rfl⟩) (nomark _))
          (pe_one (pe_callB (cr_all rfl) (by rfl) T.all (by decide +kernel) (pa_cons (pe_lc (own := [("name", 4)]) rfl scF.nd (pi_tup (pv 0)) (blkOk_by (N := ["part", "role", "depth", "shows", "name"]) (sc := defScope sFits) (by decide +kernel))
            (fun _ _ _ _ _ => pg_name (i := 4) scF.nd rfl (Or.inl rfl)) (fun _ _ _ _ _ => pts_nil) (fun _ _ _ _ _ => pe_call GI (hr.mono (by omega)) (by rfl) gI kI bI .nil pass0 (pa_cons (pv 4) pa_nil))) pa_nil))))))) pss_nil)
      (pss_one (ps_ret (pe_call GI (hr.mono (by omega)) (by rfl) gI kI bI .nil pass0 (pa_cons (pv 0) pa_nil))))), ?_⟩
    refine ⟨_, rfl, rfl, _, rfl, ite2 (fun h1 => ?_) (fun h1 => ?_)⟩
    · obtain rfl : r = "code" := V.str.inj (of_decide_eq_true h1)
      refine ⟨_, rfl, (n : Int), 0, rfl, rfl, _, rfl, ite2 (fun k => ?_) (fun k => ?_)⟩
      · have k' : (0 : Int) < (n : Int) := of_decide_eq_true k
        obtain ⟨m, rfl⟩ : ∃ m, n = m + 1 := ⟨n - 1, by omega⟩
        refine ⟨_, rfl, _, rfl, ((m + 1 : Nat) : Int), 1, rfl, rfl, _, rfl, S, v, d, b, ?_, sho, hd, sm, fun H' s' => q H' s'⟩
        show [v, V.int (((m + 1 : Nat) : Int) - 1), V.bl b] = [v, V.int (m : Int), V.bl b]
        rw [show (((m + 1 : Nat) : Int) - 1) = (m : Int) by omega]
      · obtain rfl : n = 0 := by
          have : ¬ (0 : Int) < (n : Int) := fun z => k (decide_eq_true z)
          omega
        exact q H (Same.refl _)
    · have hc : r ≠ "code" := fun z => h1 (decide_eq_true (congrArg V.str z))
      refine ⟨_, rfl, rfl, _, rfl, ite2 (fun h2 => ?_) (fun h2 => ?_)⟩
      · obtain rfl : r = "registers" := V.str.inj (of_decide_eq_true h2)
        have q : ∀ H', Same H H' → Q (.bl (argsD d)) H' := fun H' s' => q H' s'
        cases ht : isTupD d with
        | false =>
          have e : argsD d = false := by cases d <;> first | rfl | cases ht
          refine isi_te (x := v) rfl hd.tyx ((kit_tup d).trans (congrArg some ht)) ⟨_, rfl, iteF ?_⟩
          have z := q H (Same.refl _)
          rw [e] at z
          exact z
        | true =>
          cases d with
          | tuple ds =>
            obtain ⟨a, xs, rfl, ea, hl, hx⟩ := hd.tup_of
            have sa : smlAll ds = true := by
              unfold smlD at sm
              exact sm
            refine isi_te (x := .ref a) rfl (.base (.tup ea)) (kit_tup (.tuple ds)) ⟨_, rfl, iteT ?_⟩
            refine ⟨_, rfl, a, xs, rfl, .inr (SqT.of ea), (xs.length : Int), 2, rfl, rfl, _, rfl, ite2 (fun k => ?_) (fun k => ?_)⟩
            · have k' : ds.length ≤ 2 := by
                have := of_decide_eq_true k
                rw [← hx.length]
                omega
              refine ⟨_, rfl, a, rfl, ⟨xs, SqT.of ea⟩, fun Dl hD => lc_tup (PvM H Dl (ds.map isNameD)) (PvM.zero hD) (fun i H' _ p => SqT.of (p.1 _ _ ea)) (fun i x H3 hi p => ?_) (fun H5 p => ?_)⟩
              · obtain ⟨e, he, hde⟩ := hx.get hi
                exact ⟨rfl, _, rfl, S, x, e, rfl, hde.mv (fun _ z => z) (fun b o _ eb => p.1 b o eb), sml_get sa he, fun H4 s4 => p.step hD (by rw [List.length_map]; omega) (by rw [List.getElem?_map, he]; rfl) s4⟩
              · obtain ⟨s5, e5⟩ := p.all (by rw [List.length_map]; exact hx.length)
                refine ⟨Dl, _, rfl, SqL.of e5, ?_⟩
                have z := q _ s5
                rw [show argsD (.tuple ds) = (decide (ds.length ≤ 2) && ds.all isNameD) from rfl, decide_eq_true k', Bool.true_and, ← all_map_id] at z
                exact z
            · have k' : ¬ ds.length ≤ 2 := fun z => k (decide_eq_true (by rw [hx.length]; omega))
              have z := q H (Same.refl _)
              rw [show argsD (.tuple ds) = (decide (ds.length ≤ 2) && ds.all isNameD) from rfl, decide_eq_false k', Bool.false_and] at z
              exact z
          | _ => cases ht
      · have hg : r ≠ "registers" := fun z => h2 (decide_eq_true (congrArg V.str z))
        refine ⟨_, rfl, S, v, d, rfl, hd, sm, fun H' s' => ?_⟩
        have z := q H' s'
        unfold fitD at z
        rw [if_neg hc, if_neg hg] at z
        exact z
end
end OM

namespace OM
open PySem PySem.Spec PyProof.Rows L2
theorem cutHs {A C : Prop} (f : C → A) (b : C) : A := f b
theorem sml_tail {d : PyData} {ds : List PyData} (h : smlAll (d :: ds) = true) : smlD d = true ∧ smlAll ds = true := by
  unfold smlAll at h
  exact Bool.and_eq_true_iff.mp h
theorem at0 {x : V} {r : List V} : atI (x :: r) 0 = some x := by
  show atI (x :: r) ((0 : Nat) : Int) = some x
  exact atI_nat rfl
theorem cut_tail {x : V} {r : List V} : cutV (x :: r) (some 1) none = r := by
  unfold cutV
  rw [show HT.sIx (x :: r).length 0 (some 1) = 1 from by
    rw [show (some (1 : Int)) = some ((1 : Nat) : Int) from rfl, HT.sIx_nat]
    show min 1 (r.length + 1) = 1
    omega, HT.sIx_none]
  show (r.take (r.length + 1 - 1)) = r
  rw [Nat.add_sub_cancel, List.take_length]
theorem cut_part {x : V} {r : List V} : ¬ (HT.sIx (x :: r).length 0 (some 1) = 0 ∧ HT.sIx (x :: r).length (x :: r).length none = (x :: r).length) := fun h => by
  have e : HT.sIx (x :: r).length 0 (some 1) = 1 := by
    rw [show (some (1 : Int)) = some ((1 : Nat) : Int) from rfl, HT.sIx_nat]
    show min 1 (r.length + 1) = 1
    omega
  rw [e] at h
  exact absurd h.1 (by decide)
theorem rowD_no {cd : PyData → Bool} {w : Str} {rest : List PyData} (h : formOf w = none) : rowD cd (.tuple (.str w :: rest)) = false := by
  show (match formOf w with | some rs => decide (rest.length = rs.length) && (List.zipWith (fitD cd) rest rs).all id | none => false) = false
  rw [h]
theorem rowD_yes {cd : PyData → Bool} {w : Str} {rest : List PyData} {rs : List Str} (h : formOf w = some rs) : rowD cd (.tuple (.str w :: rest)) = (decide (rest.length = rs.length) && (List.zipWith (fitD cd) rest rs).all id) := by
  show (match formOf w with | some rs => decide (rest.length = rs.length) && (List.zipWith (fitD cd) rest rs).all id | none => false) = _
  rw [h]
theorem form_len {w : Str} {rs : List Str} (h : formOf w = some rs) : rs.length ≤ 4 := by
  unfold formOf at h
  repeat (first | (split at h) | (cases h; decide) | cases h)
section
variable {P : Program} {w : World} {K : PySem.W.Frag} {mg : Str → Option Value} {base : Heap} {f fF : Addr} {fd dF : FuncData}
theorem scSt : FnScope ["value", "depth", "shows", "form", "part", "role"] ["value", "depth", "shows"] (defScope sStmt) := ⟨rfl, rfl, rfl, by decide +kernel, rfl, by decide +kernel, by decide +kernel⟩
theorem ok_stmt {n k : Nat} (F : Fun K "_is_statement" "_is_statement" sStmt f fd) (T : TxtN K mg) (TF : TxtF K w mg) (gF : mg "_fits" = some (.ref fF)) (kF : PySem.W.keepIn K (.ref fF) = true) (bF : Binds K dF ["part", "role", "depth", "shows"] []) (GF : FnOk P w K mg base CX0 k fF dF ["part", "role", "depth", "shows"] (spFitsS n)) :
    FnOk P w K mg base CX0 (k + 1) f fd ["value", "depth", "shows"] (spStmtS n) := by
  refine F.ok scSt (fun vs H Q E h => ?_) (fun cdv A outer s H vs Q E hr h => ?_)
  · obtain ⟨S, v, d, b, rfl, _⟩ := h
    rfl
  · obtain ⟨S, v, d, b, rfl, sho, hd, sm, q⟩ := h
    obtain ⟨fa, es, nn, gM, KD, hno, hyes⟩ := TF.forms
    have hu : (A.deeper (envOfC "_is_statement" (defScope sStmt) s.heap.objs.size f cdv)).units < cLine := by
      have := hr.un
      omega
    refine ⟨_, pss_cons (ps_if (PW.pt (pw_or (pt_not (pt_val (pe_callB call_isi (by rfl) T.isi (by decide +kernel) (pa_cons (pv 0) (pa_cons (pe_bltn (v := .ty "tuple") (u := .type "tuple") (by rfl) TF.tup (by decide +kernel) rfl) pa_nil)))))
        (pw_or (pt_cmpR (op_eqT0 hu) (pv 0) (pe_tup pa_nil) (by rfl))
        (pw_or1 (pt_not (pt_val (pe_callB call_isi (by rfl) T.isi (by decide +kernel) (pa_cons (pe_ix ix_tup (pv 0) pe_int (fun _ _ => rfl)) (pa_cons (pe_bltn (v := .ty "str") (u := .type "str") (by rfl) T.str (by decide +kernel) rfl) pa_nil)))))))))
        (pss_one (ps_ret pe_bl)) pss_nil)
      (pss_cons (ps_if (PW.pt (pw_or (pt_cmpR (op_notIn_kd KD) (pe_ix ix_tup (pv 0) pe_int (fun _ _ => rfl)) (pe_glob (v := .ref fa) (by rfl) gM rfl) (by rfl)) (pw_or1 (PW.pt (pw_and (pt_cmpR op_eq (pe_ix ix_tup (pv 0) pe_int (fun _ _ => rfl)) pe_str (nomark _)) (pw_and1 (pt_not (pt_val (pv 2))))))))) (pss_one (ps_ret pe_bl)) pss_nil)
      (pss_cons (ps_set (i := 3) scSt.nd rfl (Or.inl rfl) (pe_ix ix_kdict (pe_glob (v := .ref fa) (by rfl) gM rfl) (pe_ix ix_tup (pv 0) pe_int (fun _ _ => rfl)) (fun _ _ => rfl)))
      (pss_one (ps_ret (pe_and (pe_cmpR op_eq (pe_callB call_len_seq (by rfl) T.len PySem.boot_len (pa_cons (pv 0) pa_nil)) (pe_op op_add (pe_callB call_len_seq (by rfl) T.len PySem.boot_len (pa_cons (pv 3) pa_nil)) pe_int) (nomark _))
        (pe_one (pe_callB (cr_all rfl) (by rfl) T.all (by decide +kernel) (pa_cons (pe_lc (g := gTup K 2 (gCons (gName 4) (gCons (gName 5) gNil))) (own := [("part", 4), ("role", 5)]) rfl scSt.nd (RZ.pi_zipA (by rfl) TF.zip (pa_cons (pe_slice sl_tupA (pv 0) (po_some pe_int) po_none) (pa_cons (pv 3) pa_nil)))
            (blkOk_by (N := ["value", "depth", "shows", "form", "part", "role"]) (sc := defScope sStmt) (by decide +kernel)) (fun _ _ _ _ _ => pg_tup rfl (pgs_cons (pg_name (i := 4) scSt.nd rfl (Or.inl rfl)) (pgs_cons (pg_name (i := 5) scSt.nd rfl (Or.inl rfl)) pgs_nil))) (fun _ _ _ _ _ => pts_nil)
            (fun _ _ _ _ _ => pe_call GF hr (by rfl) gF kF bF .nil pass0 (pa_cons (pv 4) (pa_cons (pv 5) (pa_cons (pv 1) (pa_cons (pv 2) pa_nil)))))) pa_nil)))))))), ?_⟩
    have z0 : ∀ {b : Bool}, b = rowD (cdOf n) d → ∀ H', Same H H' → Q (.bl b) H' := fun {b} e H' s' => by
      rw [e]
      exact q H' s'
    cases ht : isTupD d with
    | false =>
      have e : false = rowD (cdOf n) d := by cases d <;> first | rfl | cases ht
      exact isi_te (x := v) rfl hd.tyx ((kit_tup d).trans (congrArg some ht)) ⟨_, rfl, iteT (iteT (z0 e H (Same.refl _)))⟩
    | true =>
      cases d with
      | tuple ds =>
        obtain ⟨a, xs, rfl, ea, hl, hx⟩ := hd.tup_of
        have sa : smlAll ds = true := by
          unfold smlD at sm
          exact sm
        refine isi_te (x := .ref a) rfl (.base (.tup ea)) (kit_tup (.tuple ds)) ⟨_, rfl, iteF ?_⟩
        refine ⟨_, rfl, (by show 0 ≤ sizeLine; decide), fun p0 hp0 => ?_⟩
        have s0 := same_upd (o := .tup []) hp0
        have ea0 := s0 _ _ ea
        cases hx with
        | nil => exact ⟨a, p0, [], rfl, rfl, SqT.of ea0, SqT.of upd_same, _, rfl, iteT (iteT (z0 rfl _ s0))⟩
        | @cons x0 d0 xr dr hx0 hxr =>
          refine ⟨a, p0, _, rfl, rfl, SqT.of ea0, SqT.of upd_same, _, rfl, iteF ?_⟩
          have hx1 : Dt S (upd H p0 (.tup [])) x0 d0 := hx0.mv (fun _ z => z) fun b o _ e => s0 b o e
          obtain ⟨sm0, smr⟩ := sml_tail sa
          refine ⟨_, rfl, a, _, 0, x0, rfl, rfl, SqT.of ea0, at0, x0, .ty "str", _, _, isStrD d0, rfl, .ty _, hx1.tyx, kit_ty (kit_str d0), _, rfl, ?_⟩
          cases hs : isStrD d0 with
          | false =>
            have e : false = rowD (cdOf n) (.tuple (d0 :: dr)) := by cases d0 <;> first | rfl | cases hs
            exact iteT (z0 e _ s0)
          | true =>
            cases d0 with
            | str w0 =>
              have ev : x0 = .str w0 := by
                cases hx0 with
                | «at» a => cases a <;> rfl
              subst ev
              refine iteF ?_
              cases hf : formOf w0 with
              | none =>
                exact ⟨_, rfl, a, _, 0, _, rfl, rfl, SqT.of ea0, at0, w0, none, rfl, rfl, hno w0 hf, _, rfl, iteT (z0 (rowD_no hf).symm _ s0)⟩
              | some rs =>
                obtain ⟨pf, hnf, hsf⟩ := hyes w0 rs hf
                refine ⟨_, rfl, a, _, 0, _, rfl, rfl, SqT.of ea0, at0, w0, _, rfl, rfl, hnf, _, rfl, iteF ?_⟩
                refine cutHs (fun c => ⟨_, rfl, a, _, 0, _, rfl, rfl, SqT.of ea0, at0, rfl, _, rfl, ite2 (fun k => ?_) (fun _ => iteF c)⟩) ?_
                · have b1 : b = true := sho.resolve_right fun z => by
                    have e : w0 = "show" := V.str.inj (of_decide_eq_true k)
                    rw [nsD_tup, e] at z
                    unfold nsAll nsD at z
                    rw [decide_eq_false (by simp), Bool.false_and] at z
                    cases z
                  subst b1
                  exact ⟨_, rfl, _, rfl, iteF c⟩
                refine ⟨_, rfl, a, _, 0, _, rfl, rfl, SqT.of ea0, at0, fa, w0, .ref pf, rfl, rfl, ⟨es, nn, _, KD.at_, KD.lit, hnf, rfl⟩, ?_⟩
                refine ⟨_, rfl, a, _, rfl, .inr (SqT.of ea0), _, rfl, pf, _, rfl, .inr (hsf _), _, _, rfl, rfl, rfl, _, rfl, ite2 (fun k1 => ?_) (fun k1 => ?_)⟩
                · have k2 := V.int.inj (of_decide_eq_true k1)
                  have e1 : dr.length = rs.length := by
                    rw [List.length_map, List.length_cons, hxr.length] at k2
                    omega
                  have e0 : xr.length = rs.length := hxr.length.trans e1
                  refine ⟨_, rfl, 1, rfl, a, _, rfl, SqT.of ea0, fun hw => absurd hw cut_part, fun _ pc hpc => ?_⟩
                  rw [cut_tail]
                  have s1 := s0.trans (same_upd (o := .tup xr) hpc)
                  refine ⟨_, rfl, pc, pf, xr, rs.map V.str, rfl, .inr ⟨SqT.of upd_same, hsf _, fun Dl hD => lc_zipT (by rw [List.length_map]; exact e0) (PvM _ Dl (List.zipWith (fitD (cdOf n)) dr rs)) (PvM.zero hD)
                    (fun i H' p => ⟨SqT.of (p.1 _ _ upd_same), hsf _⟩) (fun i x y T H3 hxi hyi p hT => ?_) (fun H5 p => ?_)⟩⟩
                  · obtain ⟨e, he, hde⟩ := hxr.get hxi
                    rw [List.getElem?_map] at hyi
                    obtain ⟨r0, hr0, rfl⟩ := Option.map_eq_some_iff.mp hyi
                    have sT := (s1.trans p.1).trans (same_upd (o := .tup [x, .str r0]) hT)
                    refine ⟨T, _, rfl, SqT.of upd_same, rfl, _, _, rfl, _, _, rfl, rfl, rfl, ?_⟩
                    refine ⟨_, rfl, _, rfl, _, rfl, _, rfl, S, x, e, r0, b, rfl, ShO.get (i := i + 1) sho (by simpa using he), hde.mv (fun _ z => z) (fun b o _ eb => sT b o eb), sml_get smr he, fun H4 s4 => ?_⟩
                    refine p.step hD ?_ ?_ ((same_upd hT).trans s4)
                    · have := form_len hf
                      rw [List.length_zipWith]
                      omega
                    · rw [List.getElem?_zipWith, he, hr0]
                  · obtain ⟨s5, e5⟩ := p.all (by rw [List.length_zipWith, e0, e1]; omega)
                    refine ⟨Dl, _, rfl, SqL.of e5, ?_⟩
                    refine z0 ?_ _ (s1.trans s5)
                    rw [rowD_yes hf, decide_eq_true e1, Bool.true_and]
                · have e1 : ¬ dr.length = rs.length := fun z => k1 (decide_eq_true (by
                    rw [List.length_map, List.length_cons, hxr.length, z]
                    rfl))
                  refine z0 ?_ _ s0
                  rw [rowD_yes hf, decide_eq_false e1, Bool.false_and]
            | _ => cases hs
      | _ => cases ht
end
end OM

namespace OM
open PySem PySem.Spec PyProof.Rows L2
abbrev sIsCode : Stmt := top 37
section
variable {P : Program} {w : World} {K : PySem.W.Frag} {mg : Str → Option Value} {base : Heap} {f fS fF fN fI : Addr} {fd dS dF dN dI : FuncData}
theorem scNe : FnScope ["value", "depth", "shows", "part"] ["value", "depth", "shows"] (defScope sNested) := ⟨rfl, rfl, rfl, by decide +kernel, rfl, by decide +kernel, by decide +kernel⟩
theorem nested_step {n k : Nat} {dvs : List V} (F : FunD K "is_nested_code" "is_nested_code" (defArgs sNested) (defBody sNested) (defScope sNested) dvs [] f fd) (T : TxtN K mg) (TF : TxtF K w mg) (gS : mg "_is_statement" = some (.ref fS)) (kS : PySem.W.keepIn K (.ref fS) = true) (bS : Binds K dS ["value", "depth", "shows"] []) (GS : FnOk P w K mg base CX0 k fS dS ["value", "depth", "shows"] (spStmtS n)) :
    FnOk P w K mg base CX0 (k + 1) f fd ["value", "depth", "shows"] (spNestedAtS (n + 1)) := by
  refine F.ok scNe (fun vs H Q E h => ?_) (fun cdv A outer s H vs Q E hr h => ?_)
  · obtain ⟨S, v, d, b, rfl, _⟩ := h
    rfl
  · obtain ⟨S, v, d, b, rfl, sho, hd, sm, q⟩ := h
    refine ⟨_, pss_one (ps_ret (pe_and (pe_callB call_isi (by rfl) T.isi (by decide +kernel) (pa_cons (pv 0) (pa_cons (pe_bltn (v := .ty "tuple") (u := .type "tuple") (by rfl) TF.tup (by decide +kernel) rfl) pa_nil)))
      (pe_one (pe_callB (cr_all rfl) (by rfl) T.all (by decide +kernel) (pa_cons (pe_lc (own := [("part", 3)]) rfl scNe.nd (pi_tup (pv 0)) (blkOk_by (N := ["value", "depth", "shows", "part"]) (sc := defScope sNested) (by decide +kernel))
          (fun _ _ _ _ _ => pg_name (i := 3) scNe.nd rfl (Or.inl rfl)) (fun _ _ _ _ _ => pts_nil) (fun _ _ _ _ _ => pe_call GS hr (by rfl) gS kS bS .nil pass0 (pa_cons (pv 3) (pa_cons (pv 1) (pa_cons (pv 2) pa_nil))))) pa_nil))))), ?_⟩
    cases ht : isTupD d with
    | false =>
      have e : codeD n d = false := by cases d <;> cases n <;> first | rfl | cases ht
      refine isi_te (x := v) rfl hd.tyx ((kit_tup d).trans (congrArg some ht)) ⟨_, rfl, iteF ?_⟩
      have z := q H (Same.refl _)
      rw [e] at z
      exact z
    | true =>
      cases d with
      | tuple ds =>
        obtain ⟨a, xs, rfl, ea, hl, hx⟩ := hd.tup_of
        have sa : smlAll ds = true := by
          unfold smlD at sm
          exact sm
        refine isi_te (x := .ref a) rfl (.base (.tup ea)) (kit_tup (.tuple ds)) ⟨_, rfl, iteT ?_⟩
        refine ⟨_, rfl, a, rfl, ⟨xs, SqT.of ea⟩, fun Dl hD => lc_tup (PvM H Dl (ds.map (rowD (cdOf n)))) (PvM.zero hD) (fun i H' _ p => SqT.of (p.1 _ _ ea)) (fun i x H3 hi p => ?_) (fun H5 p => ?_)⟩
        · obtain ⟨e, he, hde⟩ := hx.get hi
          have := hx.length
          exact ⟨rfl, _, rfl, _, rfl, _, rfl, S, x, e, b, rfl, sho.get he, hde.mv (fun _ z => z) (fun b o _ eb => p.1 b o eb), sml_get sa he, fun H4 s4 => p.step hD (by rw [List.length_map]; omega) (by rw [List.getElem?_map, he]; rfl) s4⟩
        · obtain ⟨s5, e5⟩ := p.all (by rw [List.length_map]; exact hx.length)
          refine ⟨Dl, _, rfl, SqL.of e5, ?_⟩
          have z := q _ s5
          rw [codeD_tup, ← all_map_id] at z
          exact z
      | _ => cases ht
/-- the three that call one another -/
structure CodeF (K : PySem.W.Frag) (mg : Str → Option Value) (fN fS fF fI : Addr) (dN dS dF dI : FuncData) : Prop where
  FN : FunD K "is_nested_code" "is_nested_code" (defArgs sNested) (defBody sNested) (defScope sNested) [.bl false] [] fN dN
  FS : Fun K "_is_statement" "_is_statement" sStmt fS dS
  FF : Fun K "_fits" "_fits" sFits fF dF
  FI : Fun K "is_name" "is_name" sIsName fI dI
  gN : mg "is_nested_code" = some (.ref fN)
  gS : mg "_is_statement" = some (.ref fS)
  gF : mg "_fits" = some (.ref fF)
  gI : mg "is_name" = some (.ref fI)
  bN : Binds K dN ["value", "depth", "shows"] []
  bN1 : ∃ ds, Vals [V.bl false] ds ∧ Binds K dN ["value", "depth", "shows"] ds
  bS : Binds K dS ["value", "depth", "shows"] []
  bF : Binds K dF ["part", "role", "depth", "shows"] []
  bI : Binds K dI ["value"] []
  T : TxtN K mg
theorem ok_nested (C : CodeF K mg fN fS fF fI dN dS dF dI) (TF : TxtF K w mg) : ∀ n, FnOk P w K mg base CX0 (3 * n + 1) fN dN ["value", "depth", "shows"] (spNestedAtS n)
  | 0 => ⟨fun _ _ _ _ h => h.elim, fun _ _ _ _ _ _ _ _ _ _ _ _ _ h => h.elim⟩
  | n + 1 => nested_step C.FN C.T TF C.gS C.FS.kp C.bS (ok_stmt C.FS C.T TF C.gF C.FF.kp C.bF (ok_fits C.FF C.T TF C.gN C.FN.kp C.bN (ok_nested C TF n) C.gI C.FI.kp C.bI (ok_isname C.FI C.T)))
def spIsCode : Sp := fun vs H Q _ => ∃ (S : Addr → Prop) (v : V) (d : PyData), vs = [v] ∧ nsD d = true ∧ Dt S H v d ∧ smlD d = true ∧ ∀ H', Same H H' → Q (.bl (codeD 3 d)) H'
theorem scIC : FnScope ["value"] ["value"] (defScope sIsCode) := ⟨rfl, rfl, rfl, by decide +kernel, rfl, by decide +kernel, by decide +kernel⟩
theorem ok_iscode (F : Fun K "is_code" "is_code" sIsCode f fd) (C : CodeF K mg fN fS fF fI dN dS dF dI) (TF : TxtF K w mg) (gD : ∃ t, mg "MAX_DEPTH" = some (.int 3 t)) : FnOk P w K mg base CX0 14 f fd ["value"] spIsCode := by
  have G : FnOk P w K mg base CX0 13 fN dN ["value", "depth", "shows"] (spNestedAtS 4) := ok_nested C TF 4
  obtain ⟨t, g3⟩ := gD
  obtain ⟨dsN, rN, bN1⟩ := C.bN1
  refine F.ok scIC (fun vs H Q E h => ?_) (fun cdv A outer s H vs Q E hr h => ?_)
  · obtain ⟨S, v, d, rfl, _⟩ := h
    rfl
  · obtain ⟨S, v, d, rfl, ns, hd, sm, q⟩ := h
    exact ⟨_, pss_one (ps_ret (pe_call G hr (by rfl) C.gN C.FN.kp bN1 rN pass0 (pa_cons (pv 0) (pa_cons (pe_glob (v := .int 3) (by rfl) g3 ⟨t, rfl⟩) pa_nil)))), _, rfl, S, v, d, false, rfl, .inr ns, hd, sm, q⟩
end
end OM

namespace OM
open PySem PySem.Spec PyProof.Rows L2
theorem all_true (n : Nat) : ((List.range n).all fun _ => true) = true := List.all_eq_true.mpr fun _ _ => rfl
def rL0 (K : PySem.W.Frag) (neg : Bool) : R2 := fun x y H Q => ∃ a b xs, x = .ref a ∧ y = .ref b ∧ SqL K H a xs ∧ SqL K H b [] ∧ Q (.bl (if neg then !xs.isEmpty else xs.isEmpty)) H
/-- a list of anything == [] -/
theorem op_eqL0 {X : Cx} (hu : X.A.units < cLine) : OpR X (compareOp .Eq) (rL0 X.K false) := by
  intro pins s σ H x y v u Q I rx ry h
  obtain ⟨a, b, xs, rfl, rfl, ha, hb, q⟩ := h
  obtain rfl : v = Value.ref a := rx
  obtain rfl : u = Value.ref b := ry
  obtain ⟨us, r1, p1, _⟩ := I.list ha
  obtain ⟨ws, r2, p2, _⟩ := I.list hb
  cases r2
  have l := r1.length
  cases xs with
  | nil =>
    obtain rfl : us = [] := List.length_eq_zero_iff.mp l.symm
    refine SeqAt.eq_listAt (e := fun _ => true) p1.isList p2.isList rfl hu (fun j h1 h2 => absurd h2 (by simp)) ⟨.bl _, H, I, rfl, ?_⟩
    rw [all_true]
    exact q
  | cons x0 xr =>
    refine SeqAt.eq_list_lengthsAt p1.isList p2.isList ?_ hu ⟨.bl false, H, I, rfl, q⟩
    cases us with
    | nil => simp at l
    | cons u us => simp
theorem op_neL0 {X : Cx} (hu : X.A.units < cLine) : OpR X (compareOp .NotEq) (rL0 X.K true) := by
  intro pins s σ H x y v u Q I rx ry h
  obtain ⟨a, b, xs, rfl, rfl, ha, hb, q⟩ := h
  obtain rfl : v = Value.ref a := rx
  obtain rfl : u = Value.ref b := ry
  obtain ⟨us, r1, p1, _⟩ := I.list ha
  obtain ⟨ws, r2, p2, _⟩ := I.list hb
  cases r2
  have l := r1.length
  cases xs with
  | nil =>
    obtain rfl : us = [] := List.length_eq_zero_iff.mp l.symm
    refine SeqAt.RcNeAt.lists (e := fun _ => true) p1.isList p2.isList rfl hu (fun j h1 h2 => absurd h2 (by simp)) X.prog X.w X.xe _ ⟨.bl _, H, I, rfl, ?_⟩
    rw [all_true]
    exact q
  | cons x0 xr =>
    refine SeqAt.RcNeAt.lists_lengths p1.isList p2.isList ?_ hu X.prog X.w X.xe _ ⟨.bl true, H, I, rfl, q⟩
    cases us with
    | nil => simp at l
    | cons u us => simp
/-- a list of what is none of a kind: empty, if all are -/
def PvF (H : Hp) (D : Addr) (bs : List Bool) (i : Nat) (H' : Hp) : Prop := Same H H' ∧ ∃ acc : List V, H' D = some (.lst acc) ∧ acc.length ≤ i ∧ acc.isEmpty = (bs.take i).all id
theorem PvF.zero {H : Hp} {D : Addr} {bs : List Bool} (hD : H D = none) : PvF H D bs 0 (upd H D (.lst [])) := ⟨same_upd hD, [], upd_same, Nat.le_refl _, rfl⟩
theorem PvF.yes {H H3 H4 : Hp} {D : Addr} {bs : List Bool} {i : Nat} (hb : bs[i]? = some true) (p : PvF H D bs i H3) (s : Same H3 H4) : PvF H D bs (i + 1) H4 := by
  obtain ⟨sm, acc, e, l, z⟩ := p
  refine ⟨sm.trans s, acc, s _ _ e, by omega, ?_⟩
  rw [List.take_add_one, hb, List.all_append, z]
  simp
theorem PvF.no {H H3 H4 : Hp} {D : Addr} {bs : List Bool} {i : Nat} {y : V} (hD : H D = none) (hl : bs.length ≤ 1000) (hb : bs[i]? = some false) (p : PvF H D bs i H3) (s : Same H3 H4) : ∃ acc, H4 D = some (.lst acc) ∧ acc.length < sizeLine ∧ PvF H D bs (i + 1) (upd H4 D (.lst (acc ++ [y]))) := by
  obtain ⟨sm, acc, e, l, z⟩ := p
  have hi : i < bs.length := (List.getElem?_eq_some_iff.mp hb).1
  refine ⟨acc, s _ _ e, Nat.lt_of_le_of_lt (show acc.length ≤ 1000 by omega) (by decide), same_put hD (sm.trans s), acc ++ [y], upd_same, by rw [List.length_append]; show acc.length + 1 ≤ _; omega, ?_⟩
  rw [List.take_add_one, hb, List.all_append]
  simp
theorem PvF.all {H H5 : Hp} {D : Addr} {bs : List Bool} {n : Nat} (p : PvF H D bs n H5) (hn : n = bs.length) : Same H H5 ∧ ∃ acc : List V, H5 D = some (.lst acc) ∧ acc.isEmpty = bs.all id := by
  obtain ⟨sm, acc, e, l, z⟩ := p
  rw [hn, List.take_length] at z
  exact ⟨sm, acc, e, z⟩
def spLCodeAt : Nat → Sp
  | 0 => fun _ _ _ _ => False
  | n + 1 => fun vs H Q _ => ∃ (S : Addr → Prop) (v : V) (d : PyData), vs = [v, .int n] ∧ Dt S H v d ∧ smlD d = true ∧ ∀ H', Same H H' → Q (.bl (codeD n d)) H'
section
variable {P : Program} {w : World} {K : PySem.W.Frag} {mg : Str → Option Value} {base : Heap} {f fR : Addr} {fd dR : FuncData}
end
end OM

namespace OM
open PySem PySem.Spec PyProof.Rows L2
def lenI (w : Str) : Int := match formOf w with
  | some rs => (rs.length : Int)
  | none => -1
theorem row_if (cd : PyData → Bool) (d1 d2 d3 d4 : PyData) : rowD cd (.tuple [.str "if", d1, d2, d3, d4]) = (isNameD d1 && (isNameD d2 && (cd d3 && (cd d4 && true)))) := by
  rw [rowD_yes (rs := ["test", "register", "code", "code"]) (by decide +kernel)]
  rfl
theorem row_if_len {cd : PyData → Bool} {r : List PyData} (h : ¬ r.length = 4) : rowD cd (.tuple (.str "if" :: r)) = false := by
  rw [rowD_yes (rs := ["test", "register", "code", "code"]) (by decide +kernel)]
  show (decide (r.length = 4) && _) = false
  rw [decide_eq_false h, Bool.false_and]
theorem row_if0 {r : List PyData} : rowD (cdOf 0) (.tuple (.str "if" :: r)) = false := by
  by_cases h : r.length = 4
  · match r, h with
    | [d1, d2, d3, d4], _ =>
      rw [row_if]
      show (isNameD d1 && (isNameD d2 && (false && _))) = false
      rw [Bool.false_and, Bool.and_false, Bool.and_false]
  · exact row_if_len h
theorem row_set (cd : PyData → Bool) (d1 d2 d3 : PyData) : rowD cd (.tuple [.str "set", d1, d2, d3]) = (isNameD d1 && (isNameD d2 && (argsD d3 && true))) := by
  rw [rowD_yes (rs := ["register", "function", "registers"]) (by decide +kernel)]
  rfl
theorem row_set_len {cd : PyData → Bool} {r : List PyData} (h : ¬ r.length = 3) : rowD cd (.tuple (.str "set" :: r)) = false := by
  rw [rowD_yes (rs := ["register", "function", "registers"]) (by decide +kernel)]
  show (decide (r.length = 3) && _) = false
  rw [decide_eq_false h, Bool.false_and]
/-- the other statements have names alone -/
theorem row_plain {cd : PyData → Bool} {w : Str} {r : List PyData} (h1 : w ≠ "if") (h2 : w ≠ "set") : rowD cd (.tuple (.str w :: r)) = (decide ((r.length : Int) = lenI w) && r.all isNameD) := by
  cases hf : formOf w with
  | none =>
    rw [rowD_no hf]
    have : ¬ ((r.length : Int) = lenI w) := fun z => by
      unfold lenI at z
      rw [hf] at z
      have z' : (r.length : Int) = -1 := z
      omega
    rw [decide_eq_false this, Bool.false_and]
  | some rs =>
    rw [rowD_yes hf]
    have el : ((r.length : Int) = lenI w) ↔ r.length = rs.length := by
      unfold lenI
      rw [hf]
      show ((r.length : Int) = (rs.length : Int)) ↔ _
      omega
    have pl : rs = (["register", "cell"] : List Str) ∨ rs = (["cell", "register"] : List Str) ∨ rs = (["register", "register"] : List Str) ∨ rs = (["register"] : List Str) := by
      unfold formOf at hf
      by_cases a : w = "read"
      · rw [if_pos a] at hf; exact .inl (Option.some.inj hf).symm
      rw [if_neg a] at hf
      by_cases b : w = "write"
      · rw [if_pos b] at hf; exact .inr (.inl (Option.some.inj hf).symm)
      rw [if_neg b, if_neg h2] at hf
      by_cases c : w = "copy"
      · rw [if_pos c] at hf; exact .inr (.inr (.inl (Option.some.inj hf).symm))
      rw [if_neg c] at hf
      by_cases d : w = "get"
      · rw [if_pos d] at hf; exact .inr (.inr (.inr (Option.some.inj hf).symm))
      rw [if_neg d] at hf
      by_cases e : w = "put"
      · rw [if_pos e] at hf; exact .inr (.inr (.inr (Option.some.inj hf).symm))
      rw [if_neg e, if_neg h1] at hf
      by_cases g : w = "show"
      · rw [if_pos g] at hf; exact .inr (.inr (.inr (Option.some.inj hf).symm))
      rw [if_neg g] at hf
      cases hf
    by_cases hl : r.length = rs.length
    · rw [decide_eq_true hl, decide_eq_true (el.mpr hl), Bool.true_and, Bool.true_and]
      rcases pl with rfl | rfl | rfl | rfl
      · match r, hl with
        | [d1, d2], _ => rfl
      · match r, hl with
        | [d1, d2], _ => rfl
      · match r, hl with
        | [d1, d2], _ => rfl
      · match r, hl with
        | [d1], _ => rfl
    · rw [decide_eq_false hl, decide_eq_false (fun z => hl (el.mp z)), Bool.false_and, Bool.false_and]
end OM

namespace OM
open PySem PySem.Spec PyProof.Rows L2
theorem names_hs {S : Addr → Prop} {Hb : Hp} {xs : List V} {ds : List PyData} {Dl : Addr} {s0 s1 s2 s3 s4 : Option V} (hD : Hb Dl = none) (hx : DtAll S Hb xs ds) (sm : smlAll ds = true) (hl : ds.length ≤ 1000) : ∀ i x H3, xs[i]? = some x → PvF Hb Dl (ds.map isNameD) i H3 →
    gName 4 x (wipe [s0, s1, s2, s3, s4] [4]) H3 fun σ2 H2 => wipe σ2 [4] = wipe [s0, s1, s2, s3, s4] [4] ∧ tNot (tB (tCall spName [] E0 (tCons (tVar 4) tNil))) σ2 H2 fun b H3 =>
      if b = true then tVar 4 σ2 H3 fun y H4 => ∃ acc, H4 Dl = some (.lst acc) ∧ acc.length < sizeLine ∧ PvF Hb Dl (ds.map isNameD) (i + 1) (upd H4 Dl (.lst (acc ++ [y]))) else PvF Hb Dl (ds.map isNameD) (i + 1) H3 := by
  intro i x H3 hi p
  obtain ⟨e, he, hde⟩ := hx.get hi
  have hb : (ds.map isNameD)[i]? = some (isNameD e) := by
    rw [List.getElem?_map, he]
    rfl
  refine ⟨rfl, _, rfl, S, x, e, rfl, hde.mv (fun _ z => z) (fun b o _ eb => p.1 b o eb), sml_get sm he, fun H4 s4 => ⟨_, rfl, ?_⟩⟩
  cases hv : isNameD e with
  | true =>
    rw [hv] at hb
    exact iteF (p.yes hb s4)
  | false =>
    rw [hv] at hb
    exact iteT ⟨_, rfl, p.no hD (by rw [List.length_map]; exact hl) hb s4⟩
theorem DtAll.four {S : Addr → Prop} {H : Hp} {xs : List V} {ds : List PyData} (h : DtAll S H xs ds) (l : ds.length = 4) : ∃ x1 x2 x3 x4 d1 d2 d3 d4, xs = [x1, x2, x3, x4] ∧ ds = [d1, d2, d3, d4] ∧ Dt S H x1 d1 ∧ Dt S H x2 d2 ∧ Dt S H x3 d3 ∧ Dt S H x4 d4 := by
  match ds, l with
  | [d1, d2, d3, d4], _ =>
    cases h with
    | cons h1 h =>
      cases h with
      | cons h2 h =>
        cases h with
        | cons h3 h =>
          cases h with
          | cons h4 h =>
            cases h
            exact ⟨_, _, _, _, _, _, _, _, rfl, rfl, h1, h2, h3, h4⟩
theorem DtAll.three {S : Addr → Prop} {H : Hp} {xs : List V} {ds : List PyData} (h : DtAll S H xs ds) (l : ds.length = 3) : ∃ x1 x2 x3 d1 d2 d3, xs = [x1, x2, x3] ∧ ds = [d1, d2, d3] ∧ Dt S H x1 d1 ∧ Dt S H x2 d2 ∧ Dt S H x3 d3 := by
  match ds, l with
  | [d1, d2, d3], _ =>
    cases h with
    | cons h1 h =>
      cases h with
      | cons h2 h =>
        cases h with
        | cons h3 h =>
          cases h
          exact ⟨_, _, _, _, _, _, rfl, rfl, h1, h2, h3⟩
theorem cut4 {x1 x2 x3 x4 : V} : cutV [x1, x2, x3, x4] none (some 2) = [x1, x2] := rfl
theorem cut3 {x1 x2 x3 : V} : cutV [x1, x2, x3] none (some 2) = [x1, x2] := rfl
theorem part4 {x1 x2 x3 x4 : V} : ¬ (HT.sIx [x1, x2, x3, x4].length 0 none = 0 ∧ HT.sIx [x1, x2, x3, x4].length [x1, x2, x3, x4].length (some 2) = [x1, x2, x3, x4].length) := fun h => by
  have z : (2 : Nat) = 4 := h.2
  cases z
theorem part3 {x1 x2 x3 : V} : ¬ (HT.sIx [x1, x2, x3].length 0 none = 0 ∧ HT.sIx [x1, x2, x3].length [x1, x2, x3].length (some 2) = [x1, x2, x3].length) := fun h => by
  have z : (2 : Nat) = 3 := h.2
  cases z
theorem DtAll.same {S : Addr → Prop} {H H' : Hp} {xs : List V} {ds : List PyData} (h : DtAll S H xs ds) (s : Same H H') : DtAll S H' xs ds := h.mv (fun _ z => z) fun b o _ e => s b o e
theorem Dt.sameS {S : Addr → Prop} {H H' : Hp} {v : V} {d : PyData} (h : Dt S H v d) (s : Same H H') : Dt S H' v d := h.mv (fun _ z => z) fun b o _ e => s b o e
theorem smlAll_len {ds : List PyData} {xs : List V} {S : Addr → Prop} {H : Hp} (h : DtAll S H xs ds) (l : xs.length ≤ 1000) : ds.length ≤ 1000 := by
  rw [← h.length]
  exact l
section
variable {P : Program} {w : World} {K : PySem.W.Frag} {mg : Str → Option Value} {base : Heap} {f fC fL : Addr} {fd dC dL : FuncData}
end
end OM

namespace OM
open PySem PySem.Spec PyProof.Rows L2
section
variable {P : Program} {w : World} {K : PySem.W.Frag} {mg : Str → Option Value} {base : Heap} {fC fR fL : Addr} {dC dR dL : FuncData}
end
end OM

namespace OM
open PySem PySem.Spec PyProof.Rows L2
abbrev sMixed : Stmt := top 64
def spMixed (K : PySem.W.Frag) : Sp := fun vs H Q _ => ∃ (d a : Addr) (xs : List V), vs = [.ref d, .ref a] ∧ Dice H d ∧ (SqL K H a xs ∨ SqT K H a xs) ∧ xs.length ≤ 1000 ∧
  ∀ H' p ys, But d H H' → Dice H' d → H p = none → H' p = some (.lst ys) → ys.Perm xs → Q (.ref p) H'
theorem seq_nat {k n : Nat} (h : k < n) : seqIndex? (k : Int) n = some k := by
  unfold seqIndex?
  have h1 : ¬ ((k : Int) < 0) := by omega
  have h2 : (0 : Int) ≤ (k : Int) := by omega
  have h3 : (k : Int) < (n : Int) := by omega
  simp [h1, h2, h3]
theorem perm_erase : ∀ {l : List V} {i : Nat} (h : i < l.length), (l[i] :: l.eraseIdx i).Perm l
  | x :: r, 0, _ => .refl _
  | x :: r, i + 1, h => by
    have ih := perm_erase (l := r) (i := i) (Nat.lt_of_succ_lt_succ h)
    exact (List.Perm.swap x _ _).trans (ih.cons x)
section
variable {P : Program} {w : World} {K : PySem.W.Frag} {mg : Str → Option Value} {base : Heap} {f fR : Addr} {fd fdR : FuncData}
theorem scMx : FnScope ["_law_dice_here", "_law_items", "_law_left", "_law_found"] ["_law_dice_here", "_law_items"] (defScope sMixed) := ⟨rfl, rfl, rfl, by decide +kernel, rfl, by decide +kernel, by decide +kernel⟩
theorem ok_mixed (F : Fun K "_law_mixed" "_law_mixed" sMixed f fd) (T : TxtD mg) (hl : mg "list" = none) (FR : Fun K "_law_roll" "_law_roll" sRoll fR fdR) (gR : mg "_law_roll" = some (.ref fR)) (bR : Binds K fdR ["_law_dice_here", "_law_total"] []) :
    FnOk P w K mg base CX0 2 f fd ["_law_dice_here", "_law_items"] (spMixed K) := by
  have GR : FnOk P w K mg base CX0 1 fR fdR ["_law_dice_here", "_law_total"] spRoll := ok_roll FR T
  refine F.ok scMx (fun vs H Q E h => ?_) (fun cdv A outer s H vs Q E hr h => ?_)
  · obtain ⟨d, a, xs, rfl, _⟩ := h
    rfl
  · obtain ⟨d, a, xs, rfl, hd, hx, hn, q⟩ := h
    have hu : (A.deeper (envOfC "_law_mixed" (defScope sMixed) s.heap.objs.size f cdv)).units < cLine := by
      have := hr.un
      omega
    refine ⟨_, pss_cons (ps_par (i := 2) (j := 3) rfl scMx.nd rfl rfl (by decide) (by rfl) (by rfl) (pa_cons (pe_callTy call_list_of (by rfl) hl (by decide +kernel) (pa_cons (pv 1) pa_nil)) (pa_cons (pe_lst pa_nil) pa_nil)) (by rfl))
      (pss_cons (ps_while PassesOwn.never (pt_cmpR (op_neL0 hu) (pv 2) (pe_lst pa_nil) (by rfl))
        (pss_one (ps_expr (pe_bm PySem.F.plainAttrs_list PySem.F.slot_list_append PySem.F.type_list_append mt_append (pv 3) (pa_cons (pe_bm PySem.F.plainAttrs_list PySem.F.slot_list_pop PySem.F.type_list_pop mt_popAt (pv 2)
          (pa_cons (pe_call GR hr (by rfl) gR FR.kp bR .nil pass0 (pa_cons (pv 0) (pa_cons (pe_callB call_len_seq (by rfl) T.len PySem.boot_len (pa_cons (pv 2) pa_nil)) pa_nil))) pa_nil)) pa_nil)))))
      (pss_one (ps_ret (pv 3)))), ?_⟩
    obtain ⟨l0, m0, c0, ed⟩ := hd
    refine ⟨_, rfl, a, xs, rfl, hx, fun l hnl => ⟨(by show 0 ≤ sizeLine; decide), fun p hnp => ⟨_, _, rfl, ?_⟩⟩⟩
    have s1 := (same_upd (o := .lst xs) hnl).trans (same_upd (o := .lst []) hnp)
    have ld : l ≠ d := fun z => by
      rw [z, ed] at hnl
      cases hnl
    have pd : p ≠ d := fun z => by
      rw [z, same_upd hnl _ _ ed] at hnp
      cases hnp
    have pl : p ≠ l := fun z => by
      rw [z, upd_same] at hnp
      cases hnp
    have hp0 : H p = none := (same_upd (o := .lst xs) hnl).free hnp
    refine ⟨fun m σ H' => σ = [some (.ref d), some (.ref a), some (.ref l), some (.ref p)] ∧ Dice H' d ∧ But d H H' ∧ ∃ ls ys, H' l = some (.lst ls) ∧ H' p = some (.lst ys) ∧ ls.length = m ∧ (ys ++ ls).Perm xs,
      ⟨xs.length, rfl, ⟨l0, m0, c0, s1 _ _ ed⟩, fun b o _ e => s1 b o e, xs, [], same_upd hnp _ _ upd_same, upd_same, rfl, .refl _⟩, ?_⟩
    rintro m σ H' ⟨rfl, hd', bt, ls, ys, el, ep, hm, pm⟩
    have lsz : ys.length + ls.length = xs.length := by
      have := pm.length_eq
      rw [List.length_append] at this
      exact this
    refine ⟨_, rfl, (by show 0 ≤ sizeLine; decide), fun pe hpe => ⟨l, pe, ls, rfl, rfl, SqL.of (same_upd hpe _ _ el), SqL.of upd_same, _, rfl, ?_⟩⟩
    have se := same_upd (o := .lst []) hpe
    have hdE : Dice (upd H' pe (.lst [])) d := by
      obtain ⟨a1, a2, a3, e⟩ := hd'
      exact ⟨a1, a2, a3, se _ _ e⟩
    have elE := se _ _ el
    have epE := se _ _ ep
    have btE : But d H (upd H' pe (.lst [])) := fun b o hb e => se _ _ (bt b o hb e)
    revert hdE elE epE btE
    generalize upd H' pe (.lst []) = G
    intro hdE elE epE btE
    cases ls with
    | nil =>
      refine iteF ⟨_, rfl, q G p ys btE hdE hp0 epE (by simpa using pm)⟩
    | cons x0 lr =>
      refine iteT ⟨fun σ' H' => σ' = [some (.ref d), some (.ref a), some (.ref l), some (.ref p)] ∧ Dice H' d ∧ But d H H' ∧ ∃ ls ys, H' l = some (.lst ls) ∧ H' p = some (.lst ys) ∧ ls.length = lr.length ∧ (ys ++ ls).Perm xs,
        fun σ' H' h => ⟨lr.length, by rw [← hm]; exact Nat.lt_succ_self _, h⟩, ?_⟩
      have lr1 : lr.length + 1 ≤ 1000 := by
        have : (x0 :: lr).length = lr.length + 1 := rfl
        omega
      refine ⟨_, rfl, .inl ⟨rfl, ys, SqL.of epE⟩, _, rfl, .inl ⟨rfl, _, SqL.of elE⟩, _, rfl, _, rfl, l, _, rfl, .inl (SqL.of elE), d, ((x0 :: lr).length : Int), rfl, hdE, ?_, ?_, fun G2 r r0 r1 b2 hd2 => ?_⟩
      · show (0 : Int) < ((lr.length + 1 : Nat) : Int)
        omega
      · show (((lr.length + 1 : Nat) : Int)) < 1073741824
        omega
      · have r1' : r < ((lr.length + 1 : Nat) : Int) := r1
        obtain ⟨k, rfl⟩ : ∃ k : Nat, r = (k : Int) := ⟨r.toNat, by omega⟩
        have hk : k < (x0 :: lr).length := by
          show k < lr.length + 1
          omega
        have hy : (x0 :: lr)[k]? = some ((x0 :: lr)[k]) := List.getElem?_eq_getElem hk
        have el2 := b2 _ _ ld elE
        have ep2 := b2 _ _ pd epE
        refine ⟨l, x0 :: lr, (k : Int), k, (x0 :: lr)[k], rfl, rfl, el2, by omega, by omega, seq_nat hk, hy, p, ys, _, rfl, rfl, by rw [upd_ne pl]; exact ep2, ?_, rfl, ?_, ?_, ?_⟩
        · have : (1000 : Nat) < sizeLine := by decide
          omega
        · obtain ⟨a1, a2, a3, e⟩ := hd2
          exact ⟨a1, a2, a3, by rw [upd_ne (Ne.symm pd), upd_ne (Ne.symm ld)]; exact e⟩
        · intro b o hb e
          have nl : b ≠ l := ne_of_none e hnl
          have np : b ≠ p := ne_of_none e hp0
          rw [upd_ne np, upd_ne nl]
          exact b2 _ _ hb (btE b o hb e)
        · refine ⟨_, _, by rw [upd_ne (Ne.symm pl), upd_same], upd_same, ?_, ?_⟩
          · rw [List.length_eraseIdx_of_lt hk]
            rfl
          · rw [List.append_assoc]
            exact (List.Perm.append_left ys (perm_erase hk)).trans pm
end
end OM

namespace OM
open PySem PySem.Spec PyProof.Rows L2
abbrev sState : Stmt := top 65
abbrev sCode : Stmt := top 66
def regs4 : List Str := ["a", "b", "r", "x"]
def cells3 : List Str := ["x", "y", "zz"]
mutual
/-- a drawn statement: how deep ifs may stand in it, its letters, sets and ifs, its size -/
inductive StD : Nat → PyData → Nat → Nat → Nat → Nat → Prop where
  | read {n : Nat} {r x : Str} (hr : r ∈ regs4) (hx : x ∈ cells3) : StD n (.tuple [.str "read", .str r, .str x]) 0 0 0 1
  | write {n : Nat} {r x : Str} (hx : x ∈ cells3) (hr : r ∈ regs4) : StD n (.tuple [.str "write", .str x, .str r]) 0 0 0 1
  | copy {n : Nat} {r a : Str} (hr : r ∈ regs4) (ha : a ∈ regs4) : StD n (.tuple [.str "copy", .str r, .str a]) 0 0 0 1
  | letter {n : Nat} {w r : Str} (hw : w = "get" ∨ w = "put") (hr : r ∈ regs4) : StD n (.tuple [.str w, .str r]) 1 0 0 1
  | set {n : Nat} {r f : Str} {as : List Str} (hr : r ∈ regs4) (hf : f = "f" ∨ f = "g") (ha : ∀ a ∈ as, a ∈ regs4) (hl : as.length ≤ 2) : StD n (.tuple [.str "set", .str r, .str f, .tuple (as.map PyData.str)]) 0 1 0 1
  | iff {n : Nat} {p r : Str} {ys ns : List PyData} {l1 s1 t1 z1 l2 s2 t2 z2 : Nat} (hp : p = "p" ∨ p = "q") (hr : r ∈ regs4) (hy : CoD n ys l1 s1 t1 z1) (hyl : ys.length ≤ 2) (hn : CoD n ns l2 s2 t2 z2) (hnl : ns.length ≤ 2) :
      StD (n + 1) (.tuple [.str "if", .str p, .str r, .tuple ys, .tuple ns]) (l1 + l2) (s1 + s2) (t1 + t2 + 1) (z1 + z2 + 1)
inductive CoD : Nat → List PyData → Nat → Nat → Nat → Nat → Prop where
  | nil {n : Nat} : CoD n [] 0 0 0 0
  | cons {n : Nat} {d : PyData} {ds : List PyData} {l s t z l' s' t' z' : Nat} (h : StD n d l s t z) (r : CoD n ds l' s' t' z') : CoD n (d :: ds) (l + l') (s + s') (t + t') (z + z')
end
theorem CoD.snoc {n : Nat} {d : PyData} {l' s' t' z' : Nat} (x : StD n d l' s' t' z') : ∀ {ds : List PyData} {l s t z : Nat}, CoD n ds l s t z → CoD n (ds ++ [d]) (l + l') (s + s') (t + t') (z + z')
  | _, _, _, _, _, .nil => by
    have := CoD.cons x .nil
    simpa using this
  | _, _, _, _, _, .cons h r => by
    have q := CoD.cons h (CoD.snoc x r)
    simpa [Nat.add_assoc] using q
/-- all but two is as it was -/
def But2 (a b : Addr) (H H' : Hp) : Prop := ∀ c o, c ≠ a → c ≠ b → H c = some o → H' c = some o
theorem But2.trans {a b : Addr} {H H1 H2 : Hp} (x : But2 a b H H1) (y : But2 a b H1 H2) : But2 a b H H2 := fun c o h1 h2 e => y c o h1 h2 (x c o h1 h2 e)
theorem But.two {a b : Addr} {H H' : Hp} (x : But a H H') : But2 a b H H' := fun c o h1 _ e => x c o h1 e
theorem Same.two {a b : Addr} {H H' : Hp} (x : Same H H') : But2 a b H H' := fun c o _ _ e => x c o e
/-- the room that is left -/
def RoomL (H : Hp) (q : Addr) (l s t : Nat) : Prop := H q = some (.lst [.int l, .int s, .int t])
def spState (n : Nat) : Sp := fun vs H Q _ => ∃ (d q : Addr) (l s t : Nat), vs = [.ref d, .ref q, .int n] ∧ Dice H d ∧ RoomL H q l s t ∧ d ≠ q ∧ ∀ H' v e l1 s1 t1 z1, But2 d q H H' → Dice H' d → StD n e l1 s1 t1 z1 → l1 ≤ l → s1 ≤ s → t1 ≤ t → RoomL H' q (l - l1) (s - s1) (t - t1) →
  Dt (fun b => H b = none) H' v e → Q v H'
def spCodeAt : Nat → Sp
  | 0 => fun _ _ _ _ => False
  | n + 1 => fun vs H Q _ => ∃ (d q : Addr) (m l s t : Nat), vs = [.ref d, .int m, .ref q, .int n] ∧ m ≤ 100 ∧ Dice H d ∧ RoomL H q l s t ∧ d ≠ q ∧ ∀ H' v ds l1 s1 t1 z1, But2 d q H H' → Dice H' d → CoD n ds l1 s1 t1 z1 → ds.length ≤ m → l1 ≤ l → s1 ≤ s → t1 ≤ t → RoomL H' q (l - l1) (s - s1) (t - t1) →
    Dt (fun b => H b = none) H' v (.tuple ds) → Q v H'
section
variable {P : Program} {w : World} {K : PySem.W.Frag} {mg : Str → Option Value} {base : Heap} {f fR fO fC fS : Addr} {fd fdR fdO dC dS : FuncData}
/-- the functions of the dice -/
structure DiceF (K : PySem.W.Frag) (mg : Str → Option Value) (fR fO : Addr) (fdR fdO : FuncData) : Prop where
  FR : Fun K "_law_roll" "_law_roll" sRoll fR fdR
  FO : Fun K "_law_one_of" "_law_one_of" sOneOf fO fdO
  gR : mg "_law_roll" = some (.ref fR)
  gO : mg "_law_one_of" = some (.ref fO)
  bR : Binds K fdR ["_law_dice_here", "_law_total"] []
  bO : Binds K fdO ["_law_dice_here", "_law_items"] []
  T : TxtD mg
theorem scCd : FnScope ["_law_dice_here", "_law_most", "_law_room", "_law_deep", "_law_found", "_law_turn"] ["_law_dice_here", "_law_most", "_law_room", "_law_deep"] (defScope sCode) := ⟨rfl, rfl, rfl, by decide +kernel, rfl, by decide +kernel, by decide +kernel⟩
theorem code_step {n k : Nat} (F : Fun K "_law_code" "_law_code" sCode f fd) (D : DiceF K mg fR fO fdR fdO) (rng : mg "range" = none) (tup : mg "tuple" = none) (gS : mg "_law_statement" = some (.ref fS)) (kS : PySem.W.keepIn K (.ref fS) = true) (bS : Binds K dS ["_law_dice_here", "_law_room", "_law_deep"] [])
    (GS : FnOk P w K mg base CX0 (k + 1) fS dS ["_law_dice_here", "_law_room", "_law_deep"] (spState n)) : FnOk P w K mg base CX0 (k + 2) f fd ["_law_dice_here", "_law_most", "_law_room", "_law_deep"] (spCodeAt (n + 1)) := by
  have GR : FnOk P w K mg base CX0 1 fR fdR ["_law_dice_here", "_law_total"] spRoll := ok_roll D.FR D.T
  refine F.ok scCd (fun vs H Q E h => ?_) (fun cdv A outer s H vs Q E hr h => ?_)
  · obtain ⟨d, q, m, l, s, t, rfl, _⟩ := h
    rfl
  · obtain ⟨d, q, m, l, s1, t, rfl, hm, hd, hq, ne, c⟩ := h
    refine ⟨_, pss_cons (ps_set (i := 4) scCd.nd rfl (Or.inl rfl) (pe_lst pa_nil))
      (pss_cons (ps_for PassesOwn.never rfl (pi_range1 (by rfl) rng (pa_cons (pe_call GR (hr.mono (by omega)) (by rfl) D.gR D.FR.kp D.bR .nil pass0 (pa_cons (pv 0) (pa_cons (pe_op op_add (pv 1) pe_int) pa_nil))) pa_nil)) (pg_name (i := 5) scCd.nd rfl (Or.inl rfl))
        (pss_one (ps_expr (pe_bm PySem.F.plainAttrs_list PySem.F.slot_list_append PySem.F.type_list_append mt_append (pv 4) (pa_cons (pe_call GS hr (by rfl) gS kS bS .nil pass0 (pa_cons (pv 0) (pa_cons (pv 2) (pa_cons (pv 3) pa_nil)))) pa_nil)))))
      (pss_one (ps_ret (pe_callTy call_tuple_of (by rfl) tup (by decide +kernel) (pa_cons (pv 4) pa_nil))))), ?_⟩
    have dn : ∀ {G : Hp}, Dice G d → G d ≠ none := fun {G} h => h.ne
    refine ⟨(by show 0 ≤ sizeLine; decide), fun p hp => ?_⟩
    have pd : p ≠ d := fun z => dn hd (by rw [← z]; exact hp)
    have pq : p ≠ q := fun z => by
      rw [z, hq] at hp
      cases hp
    have sp := same_upd (o := .lst []) hp
    have hd0 : Dice (upd H p (.lst [])) d := by
      obtain ⟨a1, a2, a3, e⟩ := hd
      exact ⟨a1, a2, a3, sp _ _ e⟩
    refine ⟨_, rfl, _, rfl, (m : Int), 1, rfl, rfl, d, ((m : Int) + 1), rfl, hd0, by omega, by omega, fun H1 r r0 r1 b1 hd1 => ⟨r, rfl, by omega, by omega, ?_⟩⟩
    have free : ∀ {G : Hp}, But2 d q H G → Dice G d → (∃ u, G q = some u) → ∀ b, G b = none → H b = none := fun {G} bt hdg hqg b hb => by
      cases y : H b with
      | none => rfl
      | some o =>
        by_cases e1 : b = d
        · subst e1
          exact absurd hb (dn hdg)
        · by_cases e2 : b = q
          · subst e2
            obtain ⟨u, hu⟩ := hqg
            rw [hu] at hb
            cases hb
          · rw [bt b o e1 e2 y] at hb
            cases hb
    refine ⟨fun i m' σ G => m' = r.toNat - i ∧ i ≤ r.toNat ∧ (∃ x5, σ = [some (.ref d), some (.int m), some (.ref q), some (.int n), some (.ref p), x5]) ∧ Dice G d ∧ But2 d q H G ∧ ∃ vs ds l1 s2 t1 z1, G p = some (.lst vs) ∧ DtAll (fun b => H b = none ∧ b ≠ p) G vs ds ∧
      CoD n ds l1 s2 t1 z1 ∧ ds.length = i ∧ l1 ≤ l ∧ s2 ≤ s1 ∧ t1 ≤ t ∧ RoomL G q (l - l1) (s1 - s2) (t - t1), ⟨_, rfl, Nat.zero_le _, ⟨_, rfl⟩, hd1, (Same.two (H' := upd H p (.lst [])) sp).trans b1.two, [], [], 0, 0, 0, 0, b1 _ _ pd upd_same, .nil, .nil, rfl, Nat.zero_le _, Nat.zero_le _, Nat.zero_le _, b1 _ _ (Ne.symm ne) (sp _ _ hq)⟩, ?_⟩
    rintro i m' σ G ⟨rfl, hi, ⟨x5, rfl⟩, hdG, bt, vs, ds, l1, s2, t1, z1, ep, dall, cd, hlen, hl1, hs2, ht1, hroom⟩
    have hr' : r.toNat ≤ m := by omega
    rcases Nat.lt_or_ge i r.toNat with hlt | hge
    · refine .inr ⟨hlt, fun σ' G' => (∃ x5, σ' = [some (.ref d), some (.int m), some (.ref q), some (.int n), some (.ref p), x5]) ∧ Dice G' d ∧ But2 d q H G' ∧ ∃ vs ds l1 s2 t1 z1, G' p = some (.lst vs) ∧ DtAll (fun b => H b = none ∧ b ≠ p) G' vs ds ∧
        CoD n ds l1 s2 t1 z1 ∧ ds.length = i + 1 ∧ l1 ≤ l ∧ s2 ≤ s1 ∧ t1 ≤ t ∧ RoomL G' q (l - l1) (s1 - s2) (t - t1), fun σ' G' h => ⟨r.toNat - (i + 1), by omega, rfl, hlt, h⟩, ?_⟩
      rintro x G' ⟨rfl, rfl⟩
      refine ⟨_, rfl, .inl ⟨rfl, vs, SqL.of ep⟩, _, rfl, _, rfl, _, rfl, d, q, l - l1, s1 - s2, t - t1, rfl, hdG, hroom, ne, fun G2 v e l2 s3 t2 z2 b2 hd2 st hl2 hs3 ht2 hr2 dt2 => ?_⟩
      have ep2 := b2 _ _ pd pq ep
      refine ⟨p, vs, v, rfl, rfl, ep2, ?_, ⟨_, rfl⟩, ?_, ?_, vs ++ [v], ds ++ [e], l1 + l2, s2 + s3, t1 + t2, z1 + z2, upd_same, ?_, cd.snoc st, ?_, by omega, by omega, by omega, ?_⟩
      · have := dall.length
        have : (1000 : Nat) < sizeLine := by decide
        omega
      · obtain ⟨a1, a2, a3, e⟩ := hd2
        exact ⟨a1, a2, a3, by rw [upd_ne (Ne.symm pd)]; exact e⟩
      · intro b o h1 h2 eb
        rw [upd_ne (ne_of_none eb hp)]
        exact b2 b o h1 h2 (bt b o h1 h2 eb)
      · refine DtAll.snoc (dall.strong fun b o hb eo => ⟨hb, ?_⟩) (dt2.strong fun b o hb eo => ?_)
        · rw [upd_ne hb.2]
          exact b2 b o (fun z => dn hd (by rw [← z]; exact hb.1)) (fun z => by rw [z, hq] at hb; cases hb.1) eo
        · have hb' : G' b = none := hb
          have bp : b ≠ p := fun z => by
            rw [z, ep] at hb'
            cases hb'
          exact ⟨⟨free bt hdG ⟨_, hroom⟩ b hb', bp⟩, by rw [upd_ne bp]; exact eo⟩
      · rw [List.length_append, hlen]
        rfl
      · show upd G2 p _ q = _
        rw [upd_ne (Ne.symm pq)]
        have := hr2
        unfold RoomL at this
        rw [this, Nat.sub_sub, Nat.sub_sub, Nat.sub_sub]
    · obtain rfl : i = r.toNat := by omega
      refine .inl ⟨Nat.le_refl _, ?_⟩
      refine ⟨_, rfl, p, vs, rfl, .inl ⟨SqL.of ep, fun tp htp => ?_⟩⟩
      have st := same_upd (o := .tup vs) htp
      refine c _ (.ref tp) ds l1 s2 t1 z1 (bt.trans (Same.two (H' := upd G tp (.tup vs)) st)) ?_ cd (by omega) hl1 hs2 ht1 (st _ _ hroom) (.tup (free bt hdG ⟨_, hroom⟩ tp htp) upd_same ?_ (dall.strong fun b o hb eo => ⟨hb.1, st _ _ eo⟩))
      · obtain ⟨a1, a2, a3, e⟩ := hdG
        exact ⟨a1, a2, a3, st _ _ e⟩
      · have := dall.length
        omega
end
end OM

namespace OM
open PySem PySem.Spec PyProof.Rows L2
/-- one of some texts, in a list just made -/
theorem one_str {K : PySem.W.Frag} {G : Hp} {d p : Addr} {ws : List Str} {Q : VK} {E : XK} (hd : Dice G d) (hp : G p = none) (h0 : 0 < ws.length) (hl : ws.length ≤ 1000) (q : ∀ G' x, x ∈ ws → But d G G' → Dice G' d → Q (.str x) G') :
    spOneOf K [.ref d, .ref p] (upd G p (.lst (ws.map V.str))) Q E := by
  have s := same_upd (o := .lst (ws.map V.str)) hp
  have pd : p ≠ d := fun z => hd.ne (by rw [← z]; exact hp)
  refine ⟨d, p, ws.map V.str, rfl, ?_, SqL.of upd_same, fun _ => pd, by rw [List.length_map]; exact h0, by rw [List.length_map]; omega, fun G' i v hv b hd' => ?_⟩
  · obtain ⟨a1, a2, a3, e⟩ := hd
    exact ⟨a1, a2, a3, s _ _ e⟩
  · rw [List.getElem?_map] at hv
    obtain ⟨x, hx, rfl⟩ := Option.map_eq_some_iff.mp hv
    exact q G' x (List.mem_of_getElem? hx) (fun c o h e => b c o h (s c o e)) hd'
theorem But.trans' {a : Addr} {H H1 H2 : Hp} (x : But a H H1) (y : But a H1 H2) : But a H H2 := fun c o h1 e => y c o h1 (x c o h1 e)
theorem Same.but' {a : Addr} {H H' : Hp} (x : Same H H') : But a H H' := fun c o _ e => x c o e
theorem cutP {A B : Prop} (f : B → A) (b : B) : A := f b
theorem reg4 {x : Str} (h : x ∈ (["a", "b", "r", "x"] : List Str)) : x ∈ regs4 := h
theorem dt_strs {S : Addr → Prop} {G : Hp} : ∀ as : List Str, DtAll S G (as.map V.str) (as.map PyData.str)
  | [] => .nil
  | a :: as => .cons (.at (.str _)) (dt_strs as)
theorem pq_of {x : Str} (h : x ∈ (["p", "p", "q"] : List Str)) : x = "p" ∨ x = "q" := by
  rcases List.mem_cons.mp h with h | h
  · exact .inl h
  rcases List.mem_cons.mp h with h | h
  · exact .inl h
  · exact .inr (List.mem_singleton.mp h)
theorem two_of {x a b : Str} (h : x ∈ [a, b]) : x = a ∨ x = b := by
  rcases List.mem_cons.mp h with h | h
  · exact .inl h
  · exact .inr (List.mem_singleton.mp h)
theorem cell4 {x : Str} (h : x ∈ (["x", "y", "x", "zz"] : List Str)) : x ∈ cells3 := by
  rcases List.mem_cons.mp h with rfl | h
  · exact .head _
  rcases List.mem_cons.mp h with rfl | h
  · exact .tail _ (.head _)
  rcases List.mem_cons.mp h with rfl | h
  · exact .head _
  rcases List.mem_cons.mp h with rfl | h
  · exact .tail _ (.tail _ (.head _))
  cases h
section
variable {P : Program} {w : World} {K : PySem.W.Frag} {mg : Str → Option Value} {base : Heap} {f fR fO fC : Addr} {fd fdR fdO dC : FuncData}
theorem scSm : FnScope ["_law_dice_here", "_law_room", "_law_deep", "_law_way", "_law_cell", "_law_one", "_law_other", "_law_args", "_law_yes"] ["_law_dice_here", "_law_room", "_law_deep"] (defScope sState) := ⟨rfl, rfl, rfl, by decide +kernel, rfl, by decide +kernel, by decide +kernel⟩
theorem ok_state {n k : Nat} (F : Fun K "_law_statement" "_law_statement" sState f fd) (D : DiceF K mg fR fO fdR fdO) (gC : mg "_law_code" = some (.ref fC)) (kC : PySem.W.keepIn K (.ref fC) = true) (bC : Binds K dC ["_law_dice_here", "_law_most", "_law_room", "_law_deep"] [])
    (GC : FnOk P w K mg base CX0 (k + 2) fC dC ["_law_dice_here", "_law_most", "_law_room", "_law_deep"] (spCodeAt n)) : FnOk P w K mg base CX0 (k + 3) f fd ["_law_dice_here", "_law_room", "_law_deep"] (spState n) := by
  have GR : FnOk P w K mg base CX0 1 fR fdR ["_law_dice_here", "_law_total"] spRoll := ok_roll D.FR D.T
  have GO : FnOk P w K mg base CX0 2 fO fdO ["_law_dice_here", "_law_items"] (spOneOf K) := ok_oneof D.FO D.T D.FR D.gR D.bR
  refine F.ok scSm (fun vs H Q E h => ?_) (fun cdv A outer s H vs Q E hr h => ?_)
  · obtain ⟨d, q, l, s, t, rfl, _⟩ := h
    rfl
  · obtain ⟨d, q, l, s1, t, rfl, hd, hq, ne, c⟩ := h
    refine ⟨_, pss_cons (ps_par (i := 3) (j := 4) rfl scSm.nd rfl rfl (by decide) (by rfl) (by rfl) (pa_cons (pe_call GR (hr.mono (by omega)) (by rfl) D.gR D.FR.kp D.bR .nil pass0 (pa_cons (pv 0) (pa_cons pe_int pa_nil)))
        (pa_cons (pe_call GO (hr.mono (by omega)) (by rfl) D.gO D.FO.kp D.bO .nil pass0 (pa_cons (pv 0) (pa_cons (pe_lst (pa_cons pe_str (pa_cons pe_str (pa_cons pe_str (pa_cons pe_str pa_nil))))) pa_nil))) pa_nil)) (by rfl))
      (pss_cons (ps_par (i := 5) (j := 6) rfl scSm.nd rfl rfl (by decide) (by rfl) (by rfl) (pa_cons (pe_call GO (hr.mono (by omega)) (by rfl) D.gO D.FO.kp D.bO .nil pass0 (pa_cons (pv 0) (pa_cons (pe_lst (pa_cons pe_str (pa_cons pe_str (pa_cons pe_str (pa_cons pe_str pa_nil))))) pa_nil)))
        (pa_cons (pe_call GO (hr.mono (by omega)) (by rfl) D.gO D.FO.kp D.bO .nil pass0 (pa_cons (pv 0) (pa_cons (pe_lst (pa_cons pe_str (pa_cons pe_str (pa_cons pe_str (pa_cons pe_str pa_nil))))) pa_nil))) pa_nil)) (by rfl))
      (pss_cons (ps_if (pt_cmpR op_lt (pv 3) pe_int (nomark _)) (pss_one (ps_ret (pe_tup (pa_cons pe_str (pa_cons (pv 5) (pa_cons (pv 4) pa_nil)))))) pss_nil)
      (pss_cons (ps_if (pt_cmpR op_lt (pv 3) pe_int (nomark _)) (pss_one (ps_ret (pe_tup (pa_cons pe_str (pa_cons (pv 4) (pa_cons (pv 5) pa_nil)))))) pss_nil)
      (pss_cons (ps_if (PW.pt (pw_and (pt_cmpR op_lt (pv 3) pe_int (nomark _)) (pw_and1 (pt_cmpR op_gt (pe_ix ix_list (pv 1) pe_int (fun _ _ => rfl)) pe_int (nomark _)))))
        (pss_cons (ps_asg (pe_op op_sub (pe_ix ix_list (pv 1) pe_int (fun _ _ => rfl)) pe_int) (pg_sub (pv 1) pe_int set_list))
        (pss_one (ps_ret (pe_tup (pa_cons (pe_call GO (hr.mono (by omega)) (by rfl) D.gO D.FO.kp D.bO .nil pass0 (pa_cons (pv 0) (pa_cons (pe_lst (pa_cons pe_str (pa_cons pe_str pa_nil))) pa_nil))) (pa_cons (pv 5) pa_nil)))))) pss_nil)
      (pss_cons (ps_if (PW.pt (pw_and (pt_cmpR op_eq (pv 3) pe_int (nomark _)) (pw_and1 (pt_cmpR op_gt (pe_ix ix_list (pv 1) pe_int (fun _ _ => rfl)) pe_int (nomark _)))))
        (pss_cons (ps_asg (pe_op op_sub (pe_ix ix_list (pv 1) pe_int (fun _ _ => rfl)) pe_int) (pg_sub (pv 1) pe_int set_list))
        (pss_cons (ps_set (i := 7) scSm.nd rfl (Or.inl rfl) (pe_call GO (hr.mono (by omega)) (by rfl) D.gO D.FO.kp D.bO .nil pass0 (pa_cons (pv 0) (pa_cons (pe_lst (pa_cons (pe_tup pa_nil) (pa_cons (pe_tup (pa_cons (pv 6) pa_nil)) (pa_cons (pe_tup (pa_cons (pv 6) pa_nil))
            (pa_cons (pe_tup (pa_cons (pv 5) (pa_cons (pv 6) pa_nil))) (pa_cons (pe_tup (pa_cons (pv 6) (pa_cons (pv 6) pa_nil))) pa_nil)))))) pa_nil))))
        (pss_one (ps_ret (pe_tup (pa_cons pe_str (pa_cons (pv 5) (pa_cons (pe_call GO (hr.mono (by omega)) (by rfl) D.gO D.FO.kp D.bO .nil pass0 (pa_cons (pv 0) (pa_cons (pe_lst (pa_cons pe_str (pa_cons pe_str pa_nil))) pa_nil))) (pa_cons (pv 7) pa_nil))))))))) pss_nil)
      (pss_cons (ps_if (PW.pt (pw_and (pt_cmpR op_gt (pv 3) pe_int (nomark _)) (pw_and (pt_cmpR op_gt (pe_ix ix_list (pv 1) pe_int (fun _ _ => rfl)) pe_int (nomark _)) (pw_and1 (pt_cmpR op_gt (pv 2) pe_int (nomark _))))))
        (pss_cons (ps_asg (pe_op op_sub (pe_ix ix_list (pv 1) pe_int (fun _ _ => rfl)) pe_int) (pg_sub (pv 1) pe_int set_list))
        (pss_cons (ps_set (i := 8) scSm.nd rfl (Or.inl rfl) (pe_call GC hr (by rfl) gC kC bC .nil pass0 (pa_cons (pv 0) (pa_cons pe_int (pa_cons (pv 1) (pa_cons (pe_op op_sub (pv 2) pe_int) pa_nil))))))
        (pss_one (ps_ret (pe_tup (pa_cons pe_str (pa_cons (pe_call GO (hr.mono (by omega)) (by rfl) D.gO D.FO.kp D.bO .nil pass0 (pa_cons (pv 0) (pa_cons (pe_lst (pa_cons pe_str (pa_cons pe_str (pa_cons pe_str pa_nil)))) pa_nil))) (pa_cons (pv 6) (pa_cons (pv 8)
            (pa_cons (pe_call GC hr (by rfl) gC kC bC .nil pass0 (pa_cons (pv 0) (pa_cons pe_int (pa_cons (pv 1) (pa_cons (pe_op op_sub (pv 2) pe_int) pa_nil))))) pa_nil)))))))))) pss_nil)
      (pss_one (ps_ret (pe_tup (pa_cons pe_str (pa_cons (pv 5) (pa_cons (pv 6) pa_nil)))))))))))), ?_⟩
    refine ⟨_, rfl, d, 13, rfl, hd, by omega, by omega, fun H1 wy w0 w1 b1 hd1 => ?_⟩
    refine ⟨_, rfl, (by show (4 : Nat) ≤ sizeLine; decide), fun p1 hp1 => one_str (E := E) (ws := ["x", "y", "x", "zz"]) hd1 hp1 (by decide) (by decide) fun H2 cell hcell b2 hd2 => ?_⟩
    refine ⟨_, _, rfl, _, rfl, (by show (4 : Nat) ≤ sizeLine; decide), fun p2 hp2 => one_str (E := E) (ws := ["a", "b", "r", "x"]) hd2 hp2 (by decide) (by decide) fun H3 one hone b3 hd3 => ?_⟩
    refine ⟨_, rfl, (by show (4 : Nat) ≤ sizeLine; decide), fun p3 hp3 => one_str (E := E) (ws := ["a", "b", "r", "x"]) hd3 hp3 (by decide) (by decide) fun H4 oth hoth b4 hd4 => ?_⟩
    refine ⟨_, _, rfl, ?_⟩
    have b1 : But d H H1 := b1
    have t4 : But d H H4 := ((b1.trans' b2).trans' b3).trans' b4
    have t4' : But2 d q H H4 := t4.two
    have r4 : RoomL H4 q l s1 t := t4 _ _ (Ne.symm ne) hq
    have dn : ∀ {G : Hp}, Dice G d → G d ≠ none := fun {G} h => h.ne
    have free : ∀ {G : Hp}, But2 d q H G → Dice G d → (∃ u, G q = some u) → ∀ b, G b = none → H b = none := fun {G} bt hdg hqg b hb => by
      cases y : H b with
      | none => rfl
      | some o =>
        by_cases e1 : b = d
        · subst e1
          exact absurd hb (dn hdg)
        · by_cases e2 : b = q
          · subst e2
            obtain ⟨u, hu⟩ := hqg
            rw [hu] at hb
            cases hb
          · rw [bt b o e1 e2 y] at hb
            cases hb
    have leaf : ∀ {G : Hp} {p9 : Addr} {vs : List V} {ds : List PyData} {l1 s2 t1 z1 : Nat}, But2 d q H G → Dice G d → RoomL G q (l - l1) (s1 - s2) (t - t1) → G p9 = none → vs.length ≤ 1000 → DtAll (fun b => H b = none) (upd G p9 (.tup vs)) vs ds → StD n (.tuple ds) l1 s2 t1 z1 → l1 ≤ l → s2 ≤ s1 → t1 ≤ t → Q (.ref p9) (upd G p9 (.tup vs)) :=
      fun {G p9 vs ds l1 s2 t1 z1} bt hdG hroom hp9 hv dall st h1 h2 h3 => by
        have s9 := same_upd (o := .tup vs) hp9
        refine c _ (.ref p9) _ l1 s2 t1 z1 (bt.trans (Same.two s9)) ?_ st h1 h2 h3 (s9 _ _ hroom) (.tup (free bt hdG ⟨_, hroom⟩ p9 hp9) upd_same hv dall)
        obtain ⟨a1, a2, a3, e⟩ := hdG
        exact ⟨a1, a2, a3, s9 _ _ e⟩
    have st5 : ∀ ys : List V, Dice (upd H4 q (.lst ys)) d ∧ But2 d q H (upd H4 q (.lst ys)) := fun ys => ⟨by
      obtain ⟨a1, a2, a3, e⟩ := hd4
      exact ⟨a1, a2, a3, by rw [upd_ne ne]; exact e⟩, fun c o h1 h2 e => by rw [upd_ne h2]; exact t4' c o h1 h2 e⟩
    refine ⟨_, rfl, wy, 3, rfl, rfl, _, rfl, ite2 (fun h => ?_) (fun h => ?_)⟩
    · refine ⟨_, rfl, _, rfl, (by show 3 ≤ sizeLine; decide), fun p9 hp9 => ?_⟩
      exact leaf (l1 := 0) (s2 := 0) (t1 := 0) t4' hd4 r4 hp9 (by show 3 ≤ 1000; decide) (.cons (.at (.str _)) (.cons (.at (.str _)) (.cons (.at (.str _)) .nil))) (.read (reg4 hone) (cell4 hcell)) (Nat.zero_le _) (Nat.zero_le _) (Nat.zero_le _)
    refine ⟨_, rfl, wy, 6, rfl, rfl, _, rfl, ite2 (fun h => ?_) (fun h => ?_)⟩
    · refine ⟨_, rfl, _, rfl, (by show 3 ≤ sizeLine; decide), fun p9 hp9 => ?_⟩
      exact leaf (l1 := 0) (s2 := 0) (t1 := 0) t4' hd4 r4 hp9 (by show 3 ≤ 1000; decide) (.cons (.at (.str _)) (.cons (.at (.str _)) (.cons (.at (.str _)) .nil))) (.write (cell4 hcell) (reg4 hone)) (Nat.zero_le _) (Nat.zero_le _) (Nat.zero_le _)
    apply cutP
    · intro rest
      refine ⟨_, rfl, wy, 10, rfl, rfl, _, rfl, ite2 (fun h10 => ⟨_, rfl, q, _, _, _, rfl, rfl, SqL.of r4, rfl, _, _, rfl, rfl, _, rfl, ite2 (fun hl => ?_) (fun _ => rest)⟩) (fun _ => iteF rest)⟩
      have hl1 : 0 < l := by
        have := of_decide_eq_true hl
        omega
      refine ⟨_, rfl, q, _, _, _, rfl, rfl, SqL.of r4, rfl, _, _, rfl, rfl, _, rfl, q, _, _, 0, rfl, rfl, r4, rfl, ?_⟩
      have e5 : ((l - 1 : Nat) : Int) = (l : Int) - 1 := by omega
      have r5 : RoomL (upd H4 q (.lst [V.int ((l : Int) - 1), .int s1, .int t])) q (l - 1) s1 t := by
        unfold RoomL
        rw [e5]
        exact upd_same
      obtain ⟨hd5, t5⟩ := st5 [V.int ((l : Int) - 1), .int s1, .int t]
      refine ⟨_, rfl, (by show 2 ≤ sizeLine; decide), fun p5 hp5 => one_str (E := E) (ws := ["get", "put"]) hd5 hp5 (by decide) (by decide) fun H6 wd hwd b6 hd6 => ⟨_, rfl, (by show 2 ≤ sizeLine; decide), fun p9 hp9 => ?_⟩⟩
      exact leaf (l1 := 1) (s2 := 0) (t1 := 0) (t5.trans b6.two) hd6 (b6 _ _ (Ne.symm ne) r5) hp9 (by show 2 ≤ 1000; decide) (.cons (.at (.str _)) (.cons (.at (.str _)) .nil)) (.letter (two_of hwd) (reg4 hone)) (by omega) (Nat.zero_le _) (Nat.zero_le _)
    apply cutP
    · intro rest
      refine ⟨_, rfl, rfl, _, rfl, ite2 (fun h10 => ⟨_, rfl, q, _, _, _, rfl, rfl, SqL.of r4, rfl, _, _, rfl, rfl, _, rfl, ite2 (fun hl => ?_) (fun _ => rest)⟩) (fun _ => iteF rest)⟩
      have hl1 : 0 < s1 := by
        have := of_decide_eq_true hl
        omega
      refine ⟨_, rfl, q, _, _, _, rfl, rfl, SqL.of r4, rfl, _, _, rfl, rfl, _, rfl, q, _, _, 1, rfl, rfl, r4, rfl, ?_⟩
      have e5 : ((s1 - 1 : Nat) : Int) = (s1 : Int) - 1 := by omega
      have r5 : RoomL (upd H4 q (.lst [V.int l, .int ((s1 : Int) - 1), .int t])) q l (s1 - 1) t := by
        unfold RoomL
        rw [e5]
        exact upd_same
      obtain ⟨hd5, t5⟩ := st5 [V.int l, .int ((s1 : Int) - 1), .int t]
      refine ⟨_, rfl, (by show 0 ≤ sizeLine; decide), fun pa ha => ⟨_, rfl, (by show 1 ≤ sizeLine; decide), fun pb hb => ⟨_, rfl, (by show 1 ≤ sizeLine; decide), fun pc hc => ⟨_, rfl, _, rfl, (by show 2 ≤ sizeLine; decide), fun pd hd' => ⟨_, rfl, _, rfl, (by show 2 ≤ sizeLine; decide), fun pe he => ⟨(by show 5 ≤ sizeLine; decide), fun pf hf => ?_⟩⟩⟩⟩⟩⟩
      have sa := same_upd (o := .tup []) ha
      have sb := same_upd (o := .tup [.str oth]) hb
      have sc := same_upd (o := .tup [.str oth]) hc
      have sd := same_upd (o := .tup [.str one, .str oth]) hd'
      have se := same_upd (o := .tup [.str oth, .str oth]) he
      have sf := same_upd (o := .lst [.ref pa, .ref pb, .ref pc, .ref pd, .ref pe]) hf
      have dice : ∀ {G G' : Hp}, Same G G' → Dice G d → Dice G' d := fun s9 h => by
        obtain ⟨a1, a2, a3, e⟩ := h
        exact ⟨a1, a2, a3, s9 _ _ e⟩
      have hda := dice sa hd5
      have hdb := dice sb hda
      have hdc := dice sc hdb
      have hdd := dice sd hdc
      have hde := dice se hdd
      have hdf := dice sf hde
      have ta := t5.trans (Same.two sa)
      have tb := ta.trans (Same.two sb)
      have tc := tb.trans (Same.two sc)
      have td := tc.trans (Same.two sd)
      have te := td.trans (Same.two se)
      have tf := te.trans (Same.two sf)
      have ra := sa _ _ r5
      have rb := sb _ _ ra
      have rc := sc _ _ rb
      have rd := sd _ _ rc
      have re := se _ _ rd
      have rf := sf _ _ re
      have nd : ∀ {G : Hp} {a : Addr}, Dice G d → G a = none → a ≠ d := fun h e z => dn h (by rw [← z]; exact e)
      refine ⟨d, pf, [.ref pa, .ref pb, .ref pc, .ref pd, .ref pe], rfl, hdf, SqL.of upd_same, fun _ => nd hde hf, (by show (0 : Nat) < 5; decide), (by show (5 : Nat) < 1073741824; decide), fun H6 i v hv b6 hd6 => ?_⟩
      have key : ∃ (p : Addr) (as : List Str), v = .ref p ∧ H p = none ∧ H6 p = some (.tup (as.map V.str)) ∧ as.length ≤ 2 ∧ ∀ a ∈ as, a ∈ regs4 := by
        have hv := List.mem_of_getElem? hv
        rcases List.mem_cons.mp hv with rfl | hv
        · exact ⟨pa, [], rfl, free t5 hd5 ⟨_, r5⟩ _ ha, b6 _ _ (nd hd5 ha) (sf _ _ (se _ _ (sd _ _ (sc _ _ (sb _ _ upd_same))))), Nat.zero_le _, fun a h => by cases h⟩
        rcases List.mem_cons.mp hv with rfl | hv
        · exact ⟨pb, [oth], rfl, free ta hda ⟨_, ra⟩ _ hb, b6 _ _ (nd hda hb) (sf _ _ (se _ _ (sd _ _ (sc _ _ upd_same)))), by simp, fun a h => by rw [List.mem_singleton.mp h]; exact reg4 hoth⟩
        rcases List.mem_cons.mp hv with rfl | hv
        · exact ⟨pc, [oth], rfl, free tb hdb ⟨_, rb⟩ _ hc, b6 _ _ (nd hdb hc) (sf _ _ (se _ _ (sd _ _ upd_same))), by simp, fun a h => by rw [List.mem_singleton.mp h]; exact reg4 hoth⟩
        rcases List.mem_cons.mp hv with rfl | hv
        · exact ⟨pd, [one, oth], rfl, free tc hdc ⟨_, rc⟩ _ hd', b6 _ _ (nd hdc hd') (sf _ _ (se _ _ upd_same)), by simp, fun a h => by
            rcases two_of h with rfl | rfl
            · exact reg4 hone
            · exact reg4 hoth⟩
        rcases List.mem_cons.mp hv with rfl | hv
        · exact ⟨pe, [oth, oth], rfl, free td hdd ⟨_, rd⟩ _ he, b6 _ _ (nd hdd he) (sf _ _ upd_same), by simp, fun a h => by
            rcases two_of h with rfl | rfl
            · exact reg4 hoth
            · exact reg4 hoth⟩
        cases hv
      obtain ⟨p6, as, rfl, np6, ep6, las, has⟩ := key
      refine ⟨_, rfl, _, rfl, (by show 2 ≤ sizeLine; decide), fun p7 hp7 => one_str (E := E) (ws := ["f", "g"]) hd6 hp7 (by decide) (by decide) fun H8 ff hff b8 hd8 => ⟨_, rfl, (by show 4 ≤ sizeLine; decide), fun p9 hp9 => ?_⟩⟩
      have t6 := tf.trans b6.two
      have r6 := b6 _ _ (Ne.symm ne) rf
      have s9 := same_upd (o := .tup [.str "set", .str one, .str ff, .ref p6]) hp9
      have n6 : p6 ≠ d := fun z => dn hd (by rw [← z]; exact np6)
      refine leaf (l1 := 0) (s2 := 1) (t1 := 0) (t6.trans b8.two) hd8 (b8 _ _ (Ne.symm ne) r6) hp9 (by show 4 ≤ 1000; decide) (.cons (.at (.str _)) (.cons (.at (.str _)) (.cons (.at (.str _)) (.cons (.tup np6 (s9 _ _ (b8 _ _ n6 ep6)) ?_ (dt_strs as)) .nil)))) (.set (reg4 hone) (two_of hff) has las) (Nat.zero_le _) (by omega) (Nat.zero_le _)
      rw [List.length_map]
      omega
    apply cutP
    · intro rest
      refine ⟨_, rfl, wy, 10, rfl, rfl, _, rfl, ite2 (fun h10 => ⟨_, rfl, q, _, _, _, rfl, rfl, SqL.of r4, rfl, _, _, rfl, rfl, _, rfl, ite2 (fun hl => ⟨_, rfl, n, 0, rfl, rfl, _, rfl, ite2 (fun hn => ?_) (fun _ => rest)⟩) (fun _ => iteF rest)⟩) (fun _ => iteF rest)⟩
      have hl1 : 0 < t := by
        have := of_decide_eq_true hl
        omega
      have hn1 : 0 < n := by
        have := of_decide_eq_true hn
        omega
      refine ⟨_, rfl, q, _, _, _, rfl, rfl, SqL.of r4, rfl, _, _, rfl, rfl, _, rfl, q, _, _, 2, rfl, rfl, r4, rfl, ?_⟩
      have e5 : ((t - 1 : Nat) : Int) = (t : Int) - 1 := by omega
      have r5 : RoomL (upd H4 q (.lst [V.int l, .int s1, .int ((t : Int) - 1)])) q l s1 (t - 1) := by
        unfold RoomL
        rw [e5]
        exact upd_same
      obtain ⟨hd5, t5⟩ := st5 [V.int l, .int s1, .int ((t : Int) - 1)]
      obtain ⟨n', rfl⟩ : ∃ n', n = n' + 1 := ⟨n - 1, by omega⟩
      have en : (((n' + 1 : Nat) : Int) - 1) = (n' : Int) := by omega
      have ev : [V.ref d, .int 2, .ref q, .int (((n' + 1 : Nat) : Int) - 1)] = [V.ref d, .int ((2 : Nat) : Int), .ref q, .int (n' : Int)] := by
        rw [en]
        rfl
      refine ⟨_, rfl, _, rfl, _, rfl, _, _, rfl, rfl, d, q, 2, l, s1, t - 1, ev, by omega, hd5, r5, ne, fun H6 yv ys l6 s6 t6 z6 b6 hd6 cy hyl hl6 hs6 ht6 r6 dy => ?_⟩
      refine ⟨_, rfl, (by show 3 ≤ sizeLine; decide), fun p7 hp7 => one_str (E := E) (ws := ["p", "p", "q"]) hd6 hp7 (by decide) (by decide) fun H7 pp hpp b7 hd7 => ?_⟩
      have r7 := b7 _ _ (Ne.symm ne) r6
      have t7 := (t5.trans b6).trans b7.two
      refine ⟨_, rfl, _, rfl, _, rfl, _, rfl, _, rfl, _, _, rfl, rfl, d, q, 2, l - l6, s1 - s6, t - 1 - t6, ev, by omega, hd7, r7, ne, fun H8 nv ns l8 s8 t8 z8 b8 hd8 cn hnl hl8 hs8 ht8 r8 dn8 => ⟨(by show 5 ≤ sizeLine; decide), fun p9 hp9 => ?_⟩⟩
      have s9 := same_upd (o := .tup [.str "if", .str pp, .str oth, yv, nv]) hp9
      have away : ∀ {G : Hp} {b : Addr}, Dice G d → (∃ u, G q = some u) → G b = none → b ≠ d ∧ b ≠ q := fun h hq' e => ⟨fun z => dn h (by rw [← z]; exact e), fun z => by
        obtain ⟨u, hu⟩ := hq'
        rw [z, hu] at e
        cases e⟩
      have e8 : RoomL H8 q (l - (l6 + l8)) (s1 - (s6 + s8)) (t - (t6 + t8 + 1)) := by
        have := r8
        unfold RoomL at this ⊢
        rw [this, Nat.sub_sub, Nat.sub_sub, Nat.sub_sub, Nat.sub_sub, show 1 + (t6 + t8) = t6 + t8 + 1 by omega]
      have dy' : Dt (fun b => H b = none) (upd H8 p9 (.tup [.str "if", .str pp, .str oth, yv, nv])) yv (.tuple ys) := dy.strong fun b o hb eo => ⟨free t5 hd5 ⟨_, r5⟩ b hb, s9 _ _ (b8 b o (away hd5 ⟨_, r5⟩ hb).1 (away hd5 ⟨_, r5⟩ hb).2 (b7 b o (away hd5 ⟨_, r5⟩ hb).1 eo))⟩
      have dn' : Dt (fun b => H b = none) (upd H8 p9 (.tup [.str "if", .str pp, .str oth, yv, nv])) nv (.tuple ns) := dn8.strong fun b o hb eo => ⟨free t7 hd7 ⟨_, r7⟩ b hb, s9 _ _ eo⟩
      exact leaf (l1 := l6 + l8) (s2 := s6 + s8) (t1 := t6 + t8 + 1) (t7.trans b8) hd8 e8 hp9 (by show 5 ≤ 1000; decide) (.cons (.at (.str _)) (.cons (.at (.str _)) (.cons (.at (.str _)) (.cons dy' (.cons dn' .nil))))) (.iff (pq_of hpp) (reg4 hoth) cy hyl cn hnl) (by omega) (by omega) (by omega)
    refine ⟨_, rfl, _, rfl, (by show 3 ≤ sizeLine; decide), fun p9 hp9 => ?_⟩
    exact leaf (l1 := 0) (s2 := 0) (t1 := 0) t4' hd4 r4 hp9 (by show 3 ≤ 1000; decide) (.cons (.at (.str _)) (.cons (.at (.str _)) (.cons (.at (.str _)) .nil))) (.copy (reg4 hone) (reg4 hoth)) (Nat.zero_le _) (Nat.zero_le _) (Nat.zero_le _)
end
end OM

namespace OM
open PySem PySem.Spec PyProof.Rows L2
section
variable {P : Program} {w : World} {K : PySem.W.Frag} {mg : Str → Option Value} {base : Heap} {fR fO fC fS : Addr} {fdR fdO dC dS : FuncData}
/-- the functions that draw code -/
structure DCodeF (K : PySem.W.Frag) (mg : Str → Option Value) (fR fO fC fS : Addr) (fdR fdO dC dS : FuncData) : Prop where
  D : DiceF K mg fR fO fdR fdO
  FC : Fun K "_law_code" "_law_code" sCode fC dC
  FS : Fun K "_law_statement" "_law_statement" sState fS dS
  gC : mg "_law_code" = some (.ref fC)
  gS : mg "_law_statement" = some (.ref fS)
  bC : Binds K dC ["_law_dice_here", "_law_most", "_law_room", "_law_deep"] []
  bS : Binds K dS ["_law_dice_here", "_law_room", "_law_deep"] []
  rng : mg "range" = none
  tup : mg "tuple" = none
theorem ok_dcode (C : DCodeF K mg fR fO fC fS fdR fdO dC dS) : ∀ n, FnOk P w K mg base CX0 (2 * n + 2) fC dC ["_law_dice_here", "_law_most", "_law_room", "_law_deep"] (spCodeAt n)
  | 0 => ⟨fun _ _ _ _ h => h.elim, fun _ _ _ _ _ _ _ _ _ _ _ _ _ h => h.elim⟩
  | n + 1 => code_step C.FC C.D C.rng C.tup C.gS C.FS.kp C.bS (ok_state C.FS C.D C.gC C.FC.kp C.bC (ok_dcode C n))
end
end OM

namespace OM
open PySem PySem.Spec PyProof.Rows L2
abbrev sStretch : Stmt := top 67
/-- a drawn stretch: its code within its room, its kept registers apart and in order -/
def spStretch : Sp := fun vs H Q _ => ∃ (d : Addr) (m l t : Nat), vs = [.ref d, .int m, .int l, .int t] ∧ m ≤ 100 ∧ Dice H d ∧ ∀ H' v ds l1 s1 t1 z1 (ks : List Str), But d H H' → Dice H' d → CoD 2 ds l1 s1 t1 z1 → ds.length ≤ m → l1 ≤ l → s1 ≤ 3 → t1 ≤ t →
  sortedS ks = true → ks.Nodup → (∀ k ∈ ks, k ∈ regs4) → Dt (fun b => H b = none) H' v (.tuple [.tuple ds, .tuple (ks.map PyData.str)]) → Q v H'
def unS : V → Str
  | .str x => x
  | _ => ""
theorem perm_strs {ys : List V} {ws : List Str} (h : ys.Perm (ws.map V.str)) : ∃ xs : List Str, ys = xs.map V.str ∧ xs.Perm ws := by
  refine ⟨ys.map unS, ?_, ?_⟩
  · rw [List.map_map]
    have : ys.map (V.str ∘ unS) = ys.map id := List.map_congr_left fun y hy => by
      obtain ⟨x, _, rfl⟩ := List.mem_map.mp (h.mem_iff.mp hy)
      rfl
    rw [this, List.map_id]
  · have q := h.map unS
    rw [List.map_map] at q
    have : ws.map (unS ∘ V.str) = ws.map id := List.map_congr_left fun y _ => rfl
    rw [this, List.map_id] at q
    exact q
theorem cut_strs (ws : List Str) (lo hi : Option Int) : ∃ xs : List Str, cutV (ws.map V.str) lo hi = xs.map V.str ∧ xs.Sublist ws := by
  unfold cutV
  rw [← List.map_drop, ← List.map_take]
  exact ⟨_, rfl, (List.take_sublist _ _).trans (List.drop_sublist _ _)⟩
theorem regs4_nodup : regs4.Nodup := by decide +kernel
section
variable {P : Program} {w : World} {K : PySem.W.Frag} {mg : Str → Option Value} {base : Heap} {f fR fO fC fS fM : Addr} {fd fdR fdO dC dS dM : FuncData}
theorem scStr : FnScope ["_law_dice_here", "_law_most", "_law_letters", "_law_tests", "_law_keeps"] ["_law_dice_here", "_law_most", "_law_letters", "_law_tests"] (defScope sStretch) := ⟨rfl, rfl, rfl, by decide +kernel, rfl, by decide +kernel, by decide +kernel⟩
theorem ok_stretch (F : Fun K "_law_stretch" "_law_stretch" sStretch f fd) (C : DCodeF K mg fR fO fC fS fdR fdO dC dS) (FM : Fun K "_law_mixed" "_law_mixed" sMixed fM dM) (gM : mg "_law_mixed" = some (.ref fM)) (bM : Binds K dM ["_law_dice_here", "_law_items"] []) (lst : mg "list" = none) (srt : mg "sorted" = none) :
    FnOk P w K mg base CX0 9 f fd ["_law_dice_here", "_law_most", "_law_letters", "_law_tests"] spStretch := by
  have GO : FnOk P w K mg base CX0 2 fO fdO ["_law_dice_here", "_law_items"] (spOneOf K) := ok_oneof C.D.FO C.D.T C.D.FR C.D.gR C.D.bR
  have GM : FnOk P w K mg base CX0 2 fM dM ["_law_dice_here", "_law_items"] (spMixed K) := ok_mixed FM C.D.T lst C.D.FR C.D.gR C.D.bR
  have GC : FnOk P w K mg base CX0 8 fC dC ["_law_dice_here", "_law_most", "_law_room", "_law_deep"] (spCodeAt 3) := ok_dcode C 3
  refine F.ok scStr (fun vs H Q E h => ?_) (fun cdv A outer s H vs Q E hr h => ?_)
  · obtain ⟨d, m, l, t, rfl, _⟩ := h
    rfl
  · obtain ⟨d, m, l, t, rfl, hm, hd, c⟩ := h
    refine ⟨_, pss_cons (ps_set (i := 4) scStr.nd rfl (Or.inl rfl) (pe_callB cr_sortedS (by rfl) srt (by decide +kernel) (pa_cons (pe_slice sl_list (pe_call GM (hr.mono (by omega)) (by rfl) gM FM.kp bM .nil pass0 (pa_cons (pv 0) (pa_cons (pe_lst (pa_cons pe_str (pa_cons pe_str (pa_cons pe_str (pa_cons pe_str pa_nil))))) pa_nil)))
        po_none (po_some (pe_call GO (hr.mono (by omega)) (by rfl) C.D.gO C.D.FO.kp C.D.bO .nil pass0 (pa_cons (pv 0) (pa_cons (pe_lst (pa_cons pe_int (pa_cons pe_int (pa_cons pe_int (pa_cons pe_int (pa_cons pe_int (pa_cons pe_int pa_nil))))))) pa_nil))))) pa_nil)))
      (pss_one (ps_ret (pe_tup (pa_cons (pe_call GC hr (by rfl) C.gC C.FC.kp C.bC .nil pass0 (pa_cons (pv 0) (pa_cons (pv 1) (pa_cons (pe_lst (pa_cons (pv 2) (pa_cons pe_int (pa_cons (pv 3) pa_nil)))) (pa_cons pe_int pa_nil)))))
        (pa_cons (pe_callTy call_tuple_of (by rfl) C.tup (by decide +kernel) (pa_cons (pv 4) pa_nil)) pa_nil))))), ?_⟩
    refine ⟨_, rfl, (by show 4 ≤ sizeLine; decide), fun p1 hp1 => ?_⟩
    have dice : ∀ {G G' : Hp}, Same G G' → Dice G d → Dice G' d := fun s9 h => by
      obtain ⟨a1, a2, a3, e⟩ := h
      exact ⟨a1, a2, a3, s9 _ _ e⟩
    have dn : ∀ {G : Hp}, Dice G d → G d ≠ none := fun {G} h => h.ne
    have nd : ∀ {G : Hp} {a : Addr}, Dice G d → G a = none → a ≠ d := fun h e z => dn h (by rw [← z]; exact e)
    have s1 := same_upd (o := .lst (regs4.map V.str)) hp1
    have hd1 := dice s1 hd
    refine ⟨d, p1, regs4.map V.str, rfl, hd1, .inl (SqL.of upd_same), (by decide), fun H2 p ys b2 hd2 hpn ep perm => ?_⟩
    obtain ⟨ws, rfl, pw⟩ := perm_strs perm
    refine ⟨_, rfl, (by show 6 ≤ sizeLine; decide), fun p3 hp3 => ?_⟩
    have s3 := same_upd (o := .lst [.int 0, .int 0, .int 1, .int 1, .int 2, .int 4]) hp3
    have hd3 := dice s3 hd2
    refine ⟨d, p3, [.int 0, .int 0, .int 1, .int 1, .int 2, .int 4], rfl, hd3, SqL.of upd_same, fun _ => nd hd2 hp3, (by show (0 : Nat) < 6; decide), (by show (6 : Nat) < 1073741824; decide), fun H4 i v hv b4 hd4 => ?_⟩
    have key : ∃ k : Int, v = .int k := by
      have hv := List.mem_of_getElem? hv
      simp only [List.mem_cons, List.not_mem_nil, or_false] at hv
      rcases hv with rfl | rfl | rfl | rfl | rfl | rfl <;> exact ⟨_, rfl⟩
    obtain ⟨k, rfl⟩ := key
    obtain ⟨xs, ex, sub⟩ := cut_strs ws none (some k)
    have epd : p ≠ d := nd hd1 hpn
    have ep4 := b4 _ _ epd (s3 _ _ ep)
    refine ⟨k, rfl, p, ws.map V.str, rfl, SqL.of ep4, fun p5 hp5 => ?_⟩
    rw [ex]
    have wl : ws.length = 4 := pw.length_eq
    have xl := sub.length_le
    refine ⟨p5, xs, rfl, SqL.of upd_same, by omega, fun zs p6 pz sz hp6 => ?_⟩
    have s5 := same_upd (o := .lst (xs.map V.str)) hp5
    have s6 := same_upd (o := .lst (zs.map V.str)) hp6
    have hd6 := dice s6 (dice s5 hd4)
    refine ⟨_, rfl, _, rfl, _, rfl, _, rfl, (by show 3 ≤ sizeLine; decide), fun p7 hp7 => ?_⟩
    have s7 := same_upd (o := .lst [.int l, .int 3, .int t]) hp7
    have hd7 := dice s7 hd6
    refine ⟨d, p7, m, l, 3, t, rfl, hm, hd7, upd_same, Ne.symm (nd hd6 hp7), fun H8 v ds l1 s1' t1 z1 b8 hd8 cd hlen hl1 hs1 ht1 r8 dt8 => ?_⟩
    have free : ∀ {G : Hp}, But d H G → Dice G d → ∀ b, G b = none → H b = none := fun {G} bt hdg b hb => by
      cases y : H b with
      | none => rfl
      | some o =>
        by_cases e1 : b = d
        · subst e1
          exact absurd hb (dn hdg)
        · rw [bt b o e1 y] at hb
          cases hb
    have t6 : But d H (upd (upd H4 p5 (.lst (xs.map V.str))) p6 (.lst (zs.map V.str))) := (((((Same.but' (a := d) s1).trans' b2).trans' (Same.but' (a := d) s3)).trans' b4).trans' (Same.but' (a := d) s5)).trans' (Same.but' (a := d) s6)
    have t7 := t6.trans' (Same.but' (a := d) s7)
    have t8 : But d H H8 := fun b o hb e => b8 b o hb (fun z => by
      have := t6 b o hb e
      rw [z, hp7] at this
      cases this) (t7 b o hb e)
    have n6d : p6 ≠ d := nd (dice s5 hd4) hp6
    have n67 : p6 ≠ p7 := fun z => by
      rw [← z, upd_same] at hp7
      cases hp7
    have e6 : H8 p6 = some (.lst (zs.map V.str)) := b8 _ _ n6d n67 (s7 _ _ upd_same)
    refine ⟨_, rfl, p6, zs.map V.str, rfl, .inl ⟨SqL.of e6, fun p9 hp9 => ⟨(by show 2 ≤ sizeLine; decide), fun pt hpt => ?_⟩⟩⟩
    have s9 := same_upd (o := .tup (zs.map V.str)) hp9
    have st := same_upd (o := .tup [v, .ref p9]) hpt
    have zl : zs.length ≤ 4 := by
      rw [pz.length_eq]
      omega
    have sm := s9.trans st
    refine c _ (.ref pt) ds l1 s1' t1 z1 zs (t8.trans' (Same.but' (a := d) sm)) (dice sm hd8) cd hlen hl1 hs1 ht1 sz (pz.nodup_iff.mpr (sub.nodup (pw.nodup_iff.mpr regs4_nodup))) (fun x hx => pw.mem_iff.mp (sub.subset (pz.mem_iff.mp hx)))
      (.tup (free (t8.trans' (Same.but' (a := d) s9)) (dice s9 hd8) pt hpt) upd_same (by show 2 ≤ 1000; decide) (.cons (dt8.strong fun b o hb eo => ⟨free t7 hd7 b hb, sm _ _ eo⟩) (.cons (.tup (free t8 hd8 p9 hp9) (st _ _ upd_same) ?_ (dt_strs zs)) .nil)))
    rw [List.length_map]
    omega
end
end OM

/-! sets of texts: their members as a list without repeats -/
namespace OM
open PySem PySem.Spec PyProof.Rows L2
/-- the text of an entry -/
def keyT : Int × Value → Str
  | (_, .str x _) => x
  | _ => ""
/-- an entry that is a text -/
def IsTx (w : World) (e : Int × Value) : Prop := ∃ x tk, e = (hashStr w x, Value.str x tk)
structure TabX (w : World) (es : Array (Int × Value)) (t : SetTable) (L : List Str) : Prop where
  tx : ∀ e ∈ es.toList, IsTx w e
  pm : (es.toList.map keyT).Perm L
  nd : L.Nodup
  few : L.length < scanBound
  fit : t.fits es.size = true
  ris : Ris t.place.toList
  led : w.params.followText "set-order" = true ∨ t.led = true
def SetTx (w : World) (h : Heap) (a : Addr) (L : List Str) : Prop := ∃ o es ep t, h.get? a = some o ∧ o.ExactSet ∧ o.data = .set es ep t ∧ TabX w es t L
def addX (L : List Str) (x : Str) : List Str := if x ∈ L then L else x :: L
section
variable {P : Program} {w : World} {h h' : Heap} {a : Addr} {L : List Str} {es : Array (Int × Value)} {t : SetTable}
theorem TabX.size (T : TabX w es t L) : es.size = L.length := by
  have e := T.pm.length_eq
  rw [List.length_map, Array.length_toList] at e
  exact e
theorem TabX.bound (T : TabX w es t L) : es.size < scanBound := by
  rw [T.size]
  exact T.few
theorem SetTx.mv (R : SetTx w h a L) (k : ∀ o, h.get? a = some o → h'.get? a = some o) : SetTx w h' a L :=
  let ⟨o, es, ep, t, ho, r⟩ := R
  ⟨o, es, ep, t, k o ho, r⟩
theorem tx_elems {l : List (Int × Value)} (g : ∀ e ∈ l, IsTx w e) : ElemsOf (strKind P w) l := by
  intro e he
  obtain ⟨x, tk, rfl⟩ := g e he
  exact ⟨⟨x, beq_self_eq_true x, rfl⟩, rfl⟩
theorem tx_is {e : Int × Value} (g : IsTx w e) (x : Str) : (strKind P w).is x e.2 = true ↔ keyT e = x := by
  obtain ⟨y, tk, rfl⟩ := g
  exact beq_iff_eq (a := y) (b := x)
theorem tx_mem {l : List (Int × Value)} (g : ∀ e ∈ l, IsTx w e) (x : Str) : x ∈ l.map keyT ↔ ∃ e ∈ l, (strKind P w).is x e.2 = true := by
  rw [List.mem_map]
  exact ⟨fun ⟨e, he, q⟩ => ⟨e, he, (tx_is (g e he) x).mpr q⟩, fun ⟨e, he, q⟩ => ⟨e, he, (tx_is (g e he) x).mp q⟩⟩
theorem SetTx.of (R : SetTx w h a L) : h.SetOf (strKind P w) a (fun x => decide (x ∈ L)) L.length := by
  obtain ⟨o, es, ep, t, ho, hx, hd, T⟩ := R
  exact ⟨o, es, ep, t, ho, hx, hd, tx_elems T.tx, fun x => by rw [decide_eq_true_iff, ← T.pm.mem_iff, tx_mem T.tx], T.bound, T.fit, T.size⟩
end
section
variable {P : Program} {w : World} {A : Around} {E : Value → Shared → Prop} {s : Shared} {a : Addr} {L : List Str}
/-- a table that is put in, and laid anew where it is too full -/
theorem tx_stored {g : Bool → Sem Unit} (quiet : ∀ b s1 (Z : Unit → Shared → Prop), Z () s1 → wpAny (model P w) A (g b) Z E s1) {o : Obj} {es : Array (Int × Value)} {ep : Nat} {t : SetTable} (at_ : s.heap.get? a = some o) (hex : o.ExactSet) (hd : o.data = .set es ep t)
    {es1 : Array (Int × Value)} {t2 : SetTable} {L' : List Str} (T : TabX w es1 t2 L') {wasDummy : Bool} {R : Option Bool → Shared → Prop} (fin : ∀ h', Heap.SameBut a s.heap h' → SetTx w h' a L' → R (some true) { s with heap := h' }) :
    wpAny (model P w) A (storeSet a es1 t2 >>= fun _ => if (!wasDummy && t2.tooFull) = true then (g (relayAll t2 es1 (SetTable.grown es1.size)).2.2 >>= fun _ => storeSet a (relayAll t2 es1 (SetTable.grown es1.size)).1 (relayAll t2 es1 (SetTable.grown es1.size)).2.1 >>= fun _ => pure (some true)) else pure (some true)) R E s := by
  have one := store_at (es' := es1) (t' := t2) at_ hd
  have b1 := Heap.SameBut.update s.heap a (Obj.putSet es1 t2)
  refine wpAny_bind (wpAny_storeSet_of at_ hd ?_ (fits_of_scanBound T.bound))
  by_cases full : (!wasDummy && t2.tooFull) = true
  · rw [if_pos full]
    have q1 := relayAll_perm t2 es1 (SetTable.grown es1.size)
    have q2 := relayAll_fits t2 es1 (SetTable.grown es1.size)
    have q3 := relayAll_ris t2 es1 (SetTable.grown es1.size)
    have q4 := relayAll_led t2 es1 (SetTable.grown es1.size)
    revert q1 q2 q3 q4
    rcases relayAll t2 es1 (SetTable.grown es1.size) with ⟨es2, t3, gave⟩
    intro q1 q2 q3 q4
    have T3 : TabX w es2 t3 L' := ⟨fun e he => T.tx e (q1.mem_iff.mp he), (q1.map keyT).trans T.pm, T.nd, T.few, q2, q3, T.led.imp id fun z => q4.trans z⟩
    refine wpAny_bind (quiet _ _ _ (wpAny_bind (wpAny_storeSet_of one rfl ?_ (fits_of_scanBound T3.bound))))
    exact wpAny_pure (fin _ (b1.trans (Heap.SameBut.update _ a _)) ⟨_, es2, _, t3, store_at (es' := es2) (t' := t3) one rfl, hex, rfl, T3⟩)
  · rw [if_neg full]
    exact wpAny_pure (fin _ b1 ⟨_, es1, _, t2, one, hex, rfl, T⟩)
theorem TabX.more {es es1 : Array (Int × Value)} {t t1 : SetTable} {x : Str} {tk : Tok} (T : TabX w es t L) (new : x ∉ L) (room : L.length + 1 < scanBound) (pm : es1.toList.Perm (es.push (hashStr w x, Value.str x tk)).toList) (f : t1.fits es1.size = true) (r : Ris t1.place.toList) (l : t1.led = t.led) : TabX w es1 t1 (x :: L) := by
  rw [Array.toList_push] at pm
  have pc := pm.trans (List.perm_append_singleton _ _)
  refine ⟨fun e he => ?_, (pc.map keyT).trans (T.pm.cons x), List.nodup_cons.mpr ⟨new, T.nd⟩, room, f, r, T.led.imp id fun z => l.trans z⟩
  rcases List.mem_cons.mp (pc.mem_iff.mp he) with z | z
  · exact ⟨x, tk, z⟩
  · exact T.tx e z
theorem tx_hashed {x : Str} {tk : Tok} {Q : Bool → Shared → Prop} (R : SetTx w s.heap a L) (room : L.length + 1 < scanBound) (fin : ∀ b h', Heap.SameBut a s.heap h' → SetTx w h' a (addX L x) → Q b { s with heap := h' }) :
    wpAny (model P w) A (setAddHashed a (.str x tk) (hashStr w x)) Q E s := by
  have R0 := R
  obtain ⟨o, es, ep, t, at_, hex, hd, T⟩ := R
  have own : (strKind P w).is x (.str x tk) = true := beq_self_eq_true x
  have scan : (Value.str x tk).scannable = true := rfl
  have els : ElemsOf (strKind P w) es.toList := tx_elems T.tx
  unfold setAddHashed setAddHashedIn
  refine wpAny_holding <| wpAny_bind <| wpAny_setState_of at_ hd T.fit ?_
  dsimp only
  rw [byScan_of scan T.bound els]
  simp only [↓reduceIte]
  unfold setAddByScan
  refine wpAny_bind <| wpAny_bind <| wpAny_rule <| wpAny_bind <| wpAny_setScan_of own at_ hd T.fit els ?_
  cases look : List.findIdx? (fun e => (strKind P w).is x e.2) es.toList with
  | some j =>
    obtain ⟨hj, pj, _⟩ := List.findIdx?_eq_some_iff_getElem.mp look
    have old : x ∈ L := T.pm.mem_iff.mp ((tx_mem (P := P) T.tx x).mpr ⟨_, List.getElem_mem hj, pj⟩)
    dsimp only
    refine wpAny_pure <| wpAny_pure <| fin _ s.heap (Heap.SameBut.refl a s.heap) ?_
    unfold addX
    rw [if_pos old]
    exact R0
  | none =>
    have new : x ∉ L := fun z => by
      obtain ⟨e, he, q⟩ := (tx_mem (P := P) T.tx x).mp (T.pm.mem_iff.mpr z)
      exact absurd q (by rw [List.findIdx?_eq_none_iff.mp look e he]; exact Bool.false_ne_true)
    have ea : addX L x = x :: L := if_neg new
    rw [ea] at fin
    dsimp only
    have q1 := layNew_perm t es (hashStr w x) (.str x tk)
    have q2 := layNew_fits t es (hashStr w x) (.str x tk)
    have q3 := layNew_ris t es (hashStr w x) (.str x tk) T.ris
    have q4 := layNew_led t es (hashStr w x) (.str x tk)
    revert q1 q2 q3 q4
    rcases layNew t es (hashStr w x) (.str x tk) with ⟨es1, t1, wd, gave⟩
    intro q1 q2 q3 q4
    have T1 : TabX w es1 t1 (x :: L) := T.more new room q1 q2 q3 q4
    have quiet : ∀ (b : Bool) (s1 : Shared) (Z : Unit → Shared → Prop), Z () s1 → wpAny (model P w) A (match b with | true => rule "set.scan.the-table-gave-way" | false => pure ()) Z E s1 := fun b s1 Z z => by
      cases b
      · exact wpAny_pure z
      · exact wpAny_rule z
    dsimp only
    refine wpAny_bind (quiet _ _ _ ?_)
    split
    · refine wpAny_bind ?_
      rw [hashByValue_scannable 8 scan]
      refine wpAny_pure ?_
      refine tx_stored (L' := x :: L) quiet at_ hex hd ?_ fun h' sb r => by dsimp only; exact wpAny_pure (fin _ h' sb r)
      refine ⟨T1.tx, T1.pm, T1.nd, T1.few, ?_, ?_, ?_⟩
      · split
        · exact T1.fit
        · exact SetTable.fits_plain_off T1.fit
      · split <;> exact T1.ris
      · split <;> exact T1.led
    · refine wpAny_bind (wpAny_pure ?_)
      simp only [↓reduceIte]
      exact tx_stored quiet at_ hex hd T1 fun h' sb r => by dsimp only; exact wpAny_pure (fin _ h' sb r)
/-- a.add(x) -/
theorem tx_add {x : Str} {tk : Tok} {Q : Value → Shared → Prop} (R : SetTx w s.heap a L) (room : L.length + 1 < scanBound) (fin : ∀ h', Heap.SameBut a s.heap h' → SetTx w h' a (addX L x) → Q .none { s with heap := h', toks := s.toks + 1 }) : wpAny (model P w) A (call (.builtin "set.add") [.ref a, .str x tk]) Q E s := by
  have R0 : s.heap.SetOf (strKind P w) a _ _ := R.of
  refine wpAny_call_entry F.slot_set_add R0.typeIs F.entry_set_add ?_ (F.args_set_add_2 _ _)
  unfold Builtin.«set.add» Builtin.Frozenset.oneOther
  simp only [List.isEmpty_nil, bind_assoc]
  unfold Builtin.Frozenset.addrOf setAdd
  refine wpAny_bind <| wpAny_pure ?_
  try dsimp only
  refine wpAny_bind <| wpAny_pure ?_
  try dsimp only
  refine wpAny_bind <| wpAny_holding <| wpAny_bind <| (strKind P w).pyHash (k := x) (beq_self_eq_true x) ?_
  refine tx_hashed (s := { s with toks := s.toks + 1 }) R room fun b h' sb r => ?_
  show wpAny _ _ (ret Value.none) _ _ _
  exact wpAny_pure ⟨_, rfl, fin h' sb r⟩
theorem tx_fresh {h : Heap} (w : World) : SetTx w (h.push { cls := .type "set", dict := none, data := .set #[] 0 (.fresh 0 0 (!w.params.followText "set-order")) }) h.objs.size [] := by
  refine ⟨_, #[], 0, _, Heap.get?_push_size _ rfl, ⟨rfl, rfl, rfl⟩, rfl, ⟨(fun e he => by simp at he), .refl _, .nil, by decide, rfl, .nil, ?_⟩⟩
  show _ ∨ (!w.params.followText "set-order") = true
  cases w.params.followText "set-order"
  · exact .inr rfl
  · exact .inl rfl
end
/-! ### as tracked things -/
def SetTO (w : World) (a : Addr) (L : List Str) : HO := .ext fun h => SetTx w h a L
theorem txo_new {w : World} {P : Program} {H : Hp} {h : Heap} {a : Addr} {L : List Str} (R : SetTx w h a L) : ObjOk P w H h a (SetTO w a L) := by
  have ⟨o, _, _, _, ho, _⟩ := R
  exact ⟨R, ⟨o, ho⟩, fun h1 h2 p k => SetTx.mv p k⟩
section
variable {X : Cx} {pins : List (Addr × Obj)} {σ : L2.St} {H : Hp} {s : Shared} {D : Addr} {L : List Str}
theorem txo_get (I : Inv X pins σ H s) (ha : H D = some (SetTO X.w D L)) : SetTx X.w s.heap D L := (I.hok D _ ha).1
theorem tx_add_ok {E : Value → Shared → Prop} {x : Str} {tk : Tok} {Q : Value → Shared → Prop} (I : Inv X pins σ H s) (hD : H D = some (SetTO X.w D L)) (room : L.length + 1 < scanBound) (h : ∀ s', Inv X pins σ (upd H D (SetTO X.w D (addX L x))) s' → Q .none s') :
    wpAny (model X.prog X.w) X.A (call (.builtin "set.add") [.ref D, .str x tk]) Q E s := by
  refine tx_add (txo_get I hD) room fun h' sb new => ?_
  have he : ∃ u, h'.get? D = some u := by
    have ⟨o, _, _, _, ho, _⟩ := new
    exact ⟨o, ho⟩
  exact h _ (I.write (e := D) (t' := s.toks + 1) (by rw [hD]; trivial) (.inl rfl) (fun b u hb hu => (sb.2 b hb).trans hu) he (txo_new new))
end
end OM

/-! comprehensions that make a set of texts, with one for or two -/
namespace OM
open PySem PySem.Spec PyProof.Rows L2
section
variable {prog : Program} {w : World} {A : Around} {R : Result → Shared → Prop} {s : Shared} {env : Env}
/-- the tests of a clause -/
def testsOf (ifs : List Expr) (env : Env) : Sem Bool := forIn ifs true fun c r => if r = true then do let ok ← isTrue c env (eval c env); pure (ForInStep.yield ok) else pure (ForInStep.yield r)
/-- a turn of any comprehension, by what its emission does -/
def turnOf (e : Expr) (d : Nat) (it acc : Value) (env : Env) (ip : Pos) (tgt : Expr) (ifs : List Expr) (emit : Sem Fin → Sem Fin) : Sem Fin := do
  standAt ip
  match ← pyNext it with
  | none => pure (.done .next)
  | some v =>
    letOwnedTupleGo tgt it v
    assign tgt env v
    let ok ← testsOf ifs env
    if ok then emit (again (.compLoop e d it acc env)) else again (.compLoop e d it acc env)
theorem loop_any {elt : Expr} {gens : List Comprehension} {scope : Scope} {pos : Pos} {d : Nat} {it acc : Value} {ip : Pos} {tgt : Expr} {ifs : List Expr} {emit : Sem Fin → Sem Fin} {em : (Shared → Prop) → Shared → Prop} (hem : ∀ (k : Sem Fin) (Z : Fin → Shared → Prop) (s : Shared) (Y : Shared → Prop), em Y s → (∀ s', Y s' → wpAny (model prog w) A k Z (notedBy (model prog w) A env fun e s' => R (.error e) s') s') → wpAny (model prog w) A (emit k) Z (notedBy (model prog w) A env fun e s' => R (.error e) s') s) (ht : compTurn (.SetComp elt gens scope pos) d it acc env = turnOf (.SetComp elt gens scope pos) d it acc env ip tgt ifs emit) (I : Nat → Shared → Prop)
    (turn : ∀ n s, I n s → wpAny (model prog w) A (pyNext it) (fun r s1 => match r with
      | none => R (.ok .next) s1
      | some v => wpAny (model prog w) A (letOwnedTupleGo tgt it v) (fun _ s2 => wpAny (model prog w) A (assign tgt env v) (fun _ s3 => wpAny (model prog w) A (testsOf ifs env) (fun ok s4 => if ok = true then em (fun s5 => ∃ m, m < n ∧ I m s5) s4 else ∃ m, m < n ∧ I m s4)
          (notedBy (model prog w) A env fun e s' => R (.error e) s') s3) (notedBy (model prog w) A env fun e s' => R (.error e) s') s2) (notedBy (model prog w) A env fun e s' => R (.error e) s') s1) (notedBy (model prog w) A env fun e s' => R (.error e) s') s)
    (n : Nat) (h : I n s) : codeAny (model prog w) A (.compLoop (.SetComp elt gens scope pos) d it acc env) R s := by
  have up : ∀ {x : Value} {s' : Shared}, notedBy (model prog w) A env (fun e s' => R (.error e) s') x s' → notedBy (model prog w) A env (fun e s' => R (.error e) s') x s' := id
  refine codeAny_loop rfl I (fun n s hI => ?_) n h
  show wpAny _ A ((compTurn (.SetComp elt gens scope pos) d it acc env).onRaise fun x => do noteFrame x env; theTreesLotGoes x) _ _ s
  refine wpAny_noted ?_
  rw [ht]
  refine wpAny_bind <| wpAny_standAt <| wpAny_bind <| wpAny_mono (turn n s hI) (fun r s1 h1 => ?_) fun _ _ => up
  cases r with
  | none => exact wpAny_pure h1
  | some v =>
    refine wpAny_bind <| wpAny_mono h1 (fun _ s2 h2 => ?_) fun _ _ => up
    refine wpAny_bind <| wpAny_mono h2 (fun _ s3 h3 => wpAny_bind <| wpAny_mono h3 (fun ok s4 h4 => ?_) fun _ _ => up) fun _ _ => up
    cases ok with
    | false => exact wpAny_pure ⟨rfl, h4⟩
    | true => exact hem _ _ _ _ h4 fun s5 h5 => wpAny_pure ⟨rfl, h5⟩
theorem start_any {elt : Expr} {gens : List Comprehension} {scope : Scope} {pos : Pos} {d : Nat} {it acc : Value} {g : Comprehension} (hg : gens[d]? = some g) (na : (g.is_async != 0) = false) (h0 : codeAny (model prog w) A (.compLoop (.SetComp elt gens scope pos) d it acc env) R s)
    (h : wpAny (model prog w) A (pyIter it) (fun it' s' => codeAny (model prog w) A (.compLoop (.SetComp elt gens scope pos) d it' acc env) R s') (notedBy (model prog w) A env fun x s' => R (.error x) s') s) : codeAny (model prog w) A (.compStart (.SetComp elt gens scope pos) d it acc env) R s := by
  refine codeAny_of_tree ?_
  show wpAny _ _ ((compStart (.SetComp elt gens scope pos) d it acc env).onRaise fun x => do noteFrame x env; standAt theWindowsPlace) _ _ s
  refine wpAny_notedAt ?_
  unfold compStart
  show wpAny _ _ (do if (gens[d]?).elim false (·.is_async != 0) then _ else _) _ _ s
  rw [hg]
  simp only [Option.elim, na, Bool.false_eq_true, if_false]
  refine wpAny_bind <| wpAny_askSetting <| ?_
  have hg' : (clausesOf (.SetComp elt gens scope pos))[d]? = some g := hg
  rw [hg']
  split
  · exact wpAny_pure ⟨rfl, h0⟩
  · refine wpAny_bind <| wpAny_rule ?_
    exact wpAny_bind <| wpAny_standAt <| wpAny_bind <| wpAny_mono h (fun it' s' h' => wpAny_pure ⟨rfl, h'⟩) fun _ _ z => z
end
end OM

namespace OM
open PySem PySem.Spec PyProof.Rows L2
section
variable {elt t0 i0 t1 i1 : Expr} {c0 c1 : List Expr} {scope : Scope} {pos : Pos}
def addS (elt : Expr) (acc : Value) (env : Env) (k : Sem Fin) : Sem Fin := do
  (do let v ← eval elt env; standAt elt.pos; let _ ← call (.builtin "set.add") [acc, v])
  k
def intoS (e : Expr) (i1 : Expr) (acc : Value) (env : Env) (k : Sem Fin) : Sem Fin := do
  let x ← eval i1 env
  standAt i1.pos
  let x ← foldedSetIterable i1 env x
  let _ ← runOwn (.compStart e 1 (← holding [x] (pyIter x)) acc env) env
  k
theorem turn_s1 (it acc : Value) (env : Env) : compTurn (.SetComp elt [⟨t0, i0, c0, 0⟩] scope pos) 0 it acc env = turnOf (.SetComp elt [⟨t0, i0, c0, 0⟩] scope pos) 0 it acc env i0.pos t0 c0 (addS elt acc env) := by rfl
theorem turn_s2 (it acc : Value) (env : Env) : compTurn (.SetComp elt [⟨t0, i0, c0, 0⟩, ⟨t1, i1, c1, 0⟩] scope pos) 0 it acc env = turnOf (.SetComp elt [⟨t0, i0, c0, 0⟩, ⟨t1, i1, c1, 0⟩] scope pos) 0 it acc env i0.pos t0 c0 (intoS (.SetComp elt [⟨t0, i0, c0, 0⟩, ⟨t1, i1, c1, 0⟩] scope pos) i1 acc env) := by rfl
theorem turn_s2in (it acc : Value) (env : Env) : compTurn (.SetComp elt [⟨t0, i0, c0, 0⟩, ⟨t1, i1, c1, 0⟩] scope pos) 1 it acc env = turnOf (.SetComp elt [⟨t0, i0, c0, 0⟩, ⟨t1, i1, c1, 0⟩] scope pos) 1 it acc env i1.pos t1 c1 (addS elt acc env) := by rfl
end
/-- what an emission asks -/
def emS (P : Program) (w : World) (A : Around) (E : Value → Shared → Prop) (elt : Expr) (acc : Value) (env : Env) (Y : Shared → Prop) (s : Shared) : Prop := wpAny (model P w) A (eval elt env) (fun x s1 => wpAny (model P w) A (call (.builtin "set.add") [acc, x]) (fun _ s2 => Y s2) E s1) E s
def emI (P : Program) (w : World) (A : Around) (E : Value → Shared → Prop) (e i1 : Expr) (acc : Value) (env : Env) (Y : Shared → Prop) (s : Shared) : Prop := wpAny (model P w) A (eval i1 env) (fun x s1 => wpAny (model P w) A (pyIter x) (fun it s2 => codeAny (model P w) A (.compStart e 1 it acc env) (fun r s3 => match r with
  | .ok _ => Y s3
  | .error _ => False) s2) E s1) E s
section
variable {prog : Program} {w : World} {A : Around} {env : Env} {E : Value → Shared → Prop}
theorem emS_ok {elt : Expr} {acc : Value} (k : Sem Fin) (Z : Fin → Shared → Prop) (s : Shared) (Y : Shared → Prop) (h : emS prog w A E elt acc env Y s) (hk : ∀ s', Y s' → wpAny (model prog w) A k Z E s') : wpAny (model prog w) A (addS elt acc env k) Z E s :=
  wpAny_bind <| wpAny_bind <| wpAny_mono h (fun x s1 h1 => wpAny_bind <| wpAny_standAt <| wpAny_bind <| wpAny_mono h1 (fun _ s2 h2 => wpAny_pure (hk s2 h2)) fun _ _ z => z) fun _ _ z => z
theorem emI_ok {e i1 : Expr} {acc : Value} (hs : ∀ x, foldedSetIterable i1 env x = pure x) (k : Sem Fin) (Z : Fin → Shared → Prop) (s : Shared) (Y : Shared → Prop) (h : emI prog w A E e i1 acc env Y s) (hk : ∀ s', Y s' → wpAny (model prog w) A k Z E s') : wpAny (model prog w) A (intoS e i1 acc env k) Z E s := by
  refine wpAny_bind <| wpAny_mono h (fun x s1 h1 => ?_) fun _ _ z => z
  refine wpAny_bind <| wpAny_standAt <| wpAny_bind <| wpAny_of_eq (hs x) <| wpAny_bind <| wpAny_holding <| wpAny_mono h1 (fun it s2 h2 => ?_) fun _ _ z => z
  refine wpAny_bind <| wpAny_runOwn ?_
  rw [Around.mark_none]
  refine codeAny_mono h2 fun r s3 hr => ?_
  cases r with
  | ok f => exact hk s3 hr
  | error x => exact hr.elim
end
section
variable {X : Cx}
/-- σ' knows what σ knows -/
def Knows (σ σ' : L2.St) : Prop := σ.length = σ'.length ∧ ∀ (j : Nat) v, σ[j]? = some (some v) → σ'[j]? = some (some v)
/-- a loop of a block over what T walks -/
theorem blk_loop {s3 : Shared} {H3 : Hp} {scope : Scope} {ce : Env} {fp0 : List Addr} {pins : List (Addr × Obj)} {σ0 : L2.St} {elt tgt : Expr} {gens : List Comprehension} {pos ip : Pos} {d : Nat} {ifs : List Expr} {it : Addr} {acc : Value} {emit : Sem Fin → Sem Fin} {em : (Shared → Prop) → Shared → Prop} {R : Result → Shared → Prop} {fp : List Addr} {tn : Nat → Heap → Prop} {J : It} {g : TG} {tt : TT} {emH : L2.St → Hp → (Hp → Prop) → Prop} {kn : L2.St → Prop} (hkn : ∀ σ2, kn σ2 → Knows σ0 σ2)
    (hc : X.calm = true) (T : Turn X.prog X.w X.K tgt J fp it tn) (stat : ∀ {H' : Hp}, (∀ b ∈ fp, H' b = none) → ∀ b ∈ fp, FpOk (X.blk s3 H3 scope ce fp0) pins H' b) (pg : PG (X.blk s3 H3 scope ce fp0) tgt g) (pt : PTs (X.blk s3 H3 scope ce fp0) ifs tt)
    (hem : ∀ (k : Sem Fin) (Z : Fin → Shared → Prop) (s : Shared) (Y : Shared → Prop), em Y s → (∀ s', Y s' → wpAny (model X.prog X.w) X.A k Z (notedBy (model X.prog X.w) X.A ce fun e s' => R (.error e) s') s') → wpAny (model X.prog X.w) X.A (emit k) Z (notedBy (model X.prog X.w) X.A ce fun e s' => R (.error e) s') s)
    (ht : compTurn (.SetComp elt gens scope pos) d (.ref it) acc ce = turnOf (.SetComp elt gens scope pos) d (.ref it) acc ce ip tgt ifs emit) {W : Nat → Nat → Hp → Prop} {Z : Hp → Prop}
    (turn : ∀ i m H, W i m H → (J.stop i H ∧ Z H) ∨ (J.go i H ∧ ∃ Nx : Hp → Prop, (∀ H', Nx H' → ∃ m', m' < m ∧ W (i + 1) m' H') ∧ ∀ x H', J.yld i H x H' → g x σ0 H' fun σ2 H2 => kn σ2 ∧ tt σ2 H2 fun b H4 => if b = true then emH σ2 H4 Nx else Nx H4))
    (emM : ∀ {Y Y' : Shared → Prop} {s : Shared}, em Y s → (∀ s', Y s' → Y' s') → em Y' s) (emR : ∀ (σ2 : L2.St) (H4 : Hp) (Nx : Hp → Prop) (s : Shared) (pl : List (Addr × Obj)), Inv (X.blk s3 H3 scope ce fp0) (pins ++ pl) σ2 H4 s → Knows σ0 σ2 → emH σ2 H4 Nx → em (fun s' => ∃ σ' H', Inv (X.blk s3 H3 scope ce fp0) (pins ++ pl) σ' H' s' ∧ Knows σ0 σ' ∧ Nx H') s)
    (fin : ∀ s' H', Inv (X.blk s3 H3 scope ce fp0) pins σ0 H' s' → Z H' → R (.ok .next) s') {m0 : Nat} {H0 : Hp} {s : Shared} (I0 : Inv (X.blk s3 H3 scope ce fp0) pins σ0 H0 s) (st0 : tn 0 s.heap) (n0 : ∀ b ∈ fp, H0 b = none) (w0 : W 0 m0 H0) :
    codeAny (model X.prog X.w) X.A (.compLoop (.SetComp elt gens scope pos) d (.ref it) acc ce) R s := by
  refine loop_any hem ht (fun m s' => ∃ i H', Inv (X.blk s3 H3 scope ce fp0) pins σ0 H' s' ∧ tn i s'.heap ∧ (∀ b ∈ fp, H' b = none) ∧ W i m H') ?_ m0 ⟨0, H0, I0, st0, n0, w0⟩
  rintro m s5 ⟨i, H5, I5, st5, n5, w5⟩
  rcases turn i m H5 w5 with ⟨stop, z⟩ | ⟨go, Nx, hNx, step⟩
  · refine thnF (T.done (X.blk s3 H3 scope ce fp0) rfl rfl rfl hc i pins s5 σ0 H5 (fun _ _ => False) I5 (stat n5) st5 stop) fun r s6 ⟨hr, I6⟩ => ?_
    subst hr
    exact fin s6 H5 I6 z
  · refine thnF (T.item (X.blk s3 H3 scope ce fp0) rfl rfl rfl hc i pins s5 σ0 H5 (fun _ _ => False) I5 (stat n5) st5 go) fun r s6 ⟨u, hr, h6⟩ => ?_
    subst hr
    refine thnF h6 fun _ s7 ⟨x, H7, I7, r7, y7, st7, n7⟩ => ?_
    refine thnF (pg.run _ s7 σ0 H7 x u _ (I7.pinned (stat n7) (T.obj _ _ st7)) r7 (step x H7 y7)) fun _ s8 ⟨σ8, H8, I8, kn8, q8⟩ => ?_
    have hk8 := hkn σ8 kn8
    refine thnF (pt.run _ s8 σ8 H8 _ I8 q8) fun b s9 ⟨H9, I9, q9⟩ => ?_
    have back : ∀ {s' : Shared} {σ' : L2.St} {H' : Hp}, Inv (X.blk s3 H3 scope ce fp0) (pins ++ pinsAt fp s7.heap) σ' H' s' → σ0.length = σ'.length → (∀ (j : Nat) v, σ0[j]? = some (some v) → σ'[j]? = some (some v)) → Nx H' → ∃ m', m' < m ∧ ∃ i H', Inv (X.blk s3 H3 scope ce fp0) pins σ0 H' s' ∧ tn i s'.heap ∧ (∀ b ∈ fp, H' b = none) ∧ W i m' H' := by
      intro s' σ' H' I' hl hk nx
      obtain ⟨m', hm, w'⟩ := hNx H' nx
      have held : ∀ b ∈ fp, ∀ o, s7.heap.get? b = some o → s'.heap.get? b = some o ∧ H' b = none := fun b hb o e =>
        have z := I'.pin (b, o) (List.mem_append_right _ (List.mem_append_right _ (mem_pinsAt hb e)))
        ⟨z.1, z.2.1⟩
      exact ⟨m', hm, i + 1, H', I'.unpinned.weak hl hk, T.keep _ _ _ st7 fun b hb o e => (held b hb o e).1, fun b hb => let ⟨o, e, _⟩ := T.obj _ _ st7 b hb; (held b hb o e).2, w'⟩
    cases b with
    | false => exact back I9 hk8.1 hk8.2 q9
    | true =>
      exact emM (emR σ8 H9 Nx s9 _ I9 hk8 q9) fun s' ⟨σ', H', I', hk, nx⟩ => back I' hk.1 hk.2 nx
end
end OM

namespace OM
open PySem PySem.Spec PyProof.Rows L2
def goes (J : It) (W : Nat → Nat → Hp → Prop) (Z : Hp → Prop) (step : V → Hp → (Hp → Prop) → Prop) : Prop := ∀ i m H, W i m H → (J.stop i H ∧ Z H) ∨ (J.go i H ∧ ∃ Nx : Hp → Prop, (∀ H', Nx H' → ∃ m', m' < m ∧ W (i + 1) m' H') ∧ ∀ x H', J.yld i H x H' → step x H' Nx)
/-- a text comes into the set at D -/
def tInto (w : World) (D : Addr) (Nx : Hp → Prop) : VK := fun y H => ∃ x L, y = .str x ∧ H D = some (SetTO w D L) ∧ L.length + 1 < scanBound ∧ Nx (upd H D (SetTO w D (addX L x)))
/-- {elt for tg in iter if ..}, texts -/
def tSx (w : World) (wi : TI) (g : TG) (tt : TT) (te : TE) (vs : List Nat) : TE := fun σ H Q => wi σ H fun J H1 => ∀ D, H1 D = none → ∃ W : Nat → Nat → Hp → Prop, (∃ m, W 0 m (upd H1 D (SetTO w D []))) ∧ goes J W (fun H => Q (.ref D) H) fun x H' Nx => g x (wipe σ vs) H' fun σ2 H2 => wipe σ2 vs = wipe σ vs ∧ tt σ2 H2 fun b H3 => if b = true then te σ2 H3 (tInto w D Nx) else Nx H3
/-- .. with a second for, its names vs1 -/
def tSx2 (w : World) (wi : TI) (g : TG) (tt : TT) (wi1 : TI) (g1 : TG) (tt1 : TT) (te : TE) (vs vs1 : List Nat) : TE := fun σ H Q => wi σ H fun J H1 => ∀ D, H1 D = none → ∃ W : Nat → Nat → Hp → Prop, (∃ m, W 0 m (upd H1 D (SetTO w D []))) ∧ goes J W (fun H => Q (.ref D) H) fun x H' Nx => g x (wipe σ vs) H' fun σ2 H2 => wipe σ2 vs = wipe σ vs ∧ tt σ2 H2 fun b H3 => if b = true then
  wi1 σ2 H3 (fun J1 H4 => ∃ W1 : Nat → Nat → Hp → Prop, (∃ m, W1 0 m H4) ∧ goes J1 W1 Nx fun x H' Nx1 => g1 x (wipe σ2 vs1) H' fun σ3 H5 => wipe σ3 vs1 = wipe σ2 vs1 ∧ tt1 σ3 H5 fun b H6 => if b = true then te σ3 H6 (tInto w D Nx1) else Nx1 H6) else Nx H3
theorem wiped {σ σ2 : L2.St} {vs : List Nat} (h : wipe σ2 vs = wipe σ vs) : Knows (wipe σ vs) σ2 := by
  rw [← h]
  exact ⟨wipe_length _ _, fun j v e => (wipe_some e).1⟩
theorem Knows.tr {a b c : L2.St} (h : Knows a b) (k : Knows b c) : Knows a c := ⟨h.1.trans k.1, fun j v e => k.2 j v (h.2 j v e)⟩
section
variable {X : Cx} {elt tg iter tg1 iter1 : Expr} {ifs ifs1 : List Expr} {scope : Scope} {own : List (Str × Nat)} {vs1 : List Nat} {pos : Pos} {wi wi1 : TI} {g g1 : TG} {tt tt1 : TT} {te : TE}
/-- the innermost emission, within a block -/
theorem into_ok {s3 : Shared} {H3 : Hp} {ce : Env} {fp0 : List Addr} {pins : List (Addr × Obj)} {σ2 σ0 : L2.St} {H4 : Hp} {Nx : Hp → Prop} {s : Shared} {D : Addr} {E : Value → Shared → Prop} (pe : PE (X.blk s3 H3 scope ce fp0) elt te) (I : Inv (X.blk s3 H3 scope ce fp0) pins σ2 H4 s) (hk : Knows σ0 σ2) (h : te σ2 H4 (tInto X.w D Nx)) :
    emS X.prog X.w X.A E elt (.ref D) ce (fun s' => ∃ σ' H', Inv (X.blk s3 H3 scope ce fp0) pins σ' H' s' ∧ Knows σ0 σ' ∧ Nx H') s := by
  refine thnF (pe.run _ s σ2 H4 _ I h) fun z s1 ⟨y, H5, I5, r5, x, L, ey, hD, room, nx⟩ => ?_
  subst ey
  obtain ⟨tk, rfl⟩ := r5
  exact tx_add_ok (X := X.blk s3 H3 scope ce fp0) I5 hD room fun s6 I6 => ⟨σ2, _, I6, hk, nx⟩
theorem sx2_core {pins : List (Addr × Obj)} {s : Shared} {σ : L2.St} {H : Hp} {Q : VK} {pos' : Pos} {use : Option (Value → Sem Unit)} {Qf : Value → Shared → Prop} (hc : X.calm = true) (hN : X.N.Nodup) (I : Inv X pins σ H s) (hi : PI X tg iter wi) (ok : BlkOk X.N X.env.scope scope own) (hv : ∀ i ∈ vs1, i ∈ own.map (·.2))
    (hg : ∀ (s : Shared) (H : Hp) (C : Addr) (cl : List (Str × Addr)) (fp : List Addr), PG (X.blk s H scope (compEnvC scope cl C X.env) fp) tg g) (ht : ∀ (s : Shared) (H : Hp) (C : Addr) (cl : List (Str × Addr)) (fp : List Addr), PTs (X.blk s H scope (compEnvC scope cl C X.env) fp) ifs tt)
    (hi1 : ∀ (s : Shared) (H : Hp) (C : Addr) (cl : List (Str × Addr)) (fp : List Addr), PI (X.blk s H scope (compEnvC scope cl C X.env) fp) tg1 iter1 wi1) (hg1 : ∀ (s : Shared) (H : Hp) (C : Addr) (cl : List (Str × Addr)) (fp : List Addr), PG (X.blk s H scope (compEnvC scope cl C X.env) fp) tg1 g1)
    (ht1 : ∀ (s : Shared) (H : Hp) (C : Addr) (cl : List (Str × Addr)) (fp : List Addr), PTs (X.blk s H scope (compEnvC scope cl C X.env) fp) ifs1 tt1) (he : ∀ (s : Shared) (H : Hp) (C : Addr) (cl : List (Str × Addr)) (fp : List Addr), PE (X.blk s H scope (compEnvC scope cl C X.env) fp) elt te)
    (hs : ∀ x, foldedSetIterable iter X.env x = pure x) (hs1 : ∀ env x, foldedSetIterable iter1 env x = pure x) (h : tSx2 X.w wi g tt wi1 g1 tt1 te (own.map (·.2)) vs1 σ H Q)
    (hRR : ∀ D C s' m H', Inv X pins σ H' s' → Q (.ref D) H' → s'.heap.Ns C m → FpOk X pins H' C → compPost (model X.prog X.w) X.A X.xe use Qf (.ref D) C (.ok .next) s') :
    wpAny (model X.prog X.w) X.A (comprehension (.SetComp elt [⟨tg, iter, ifs, 0⟩, ⟨tg1, iter1, ifs1, 0⟩] scope pos) scope X.env pos' (newSet (.type "set")) false (eval iter X.env) use) Qf X.xe s := by
  have cells : ∀ y ∈ scope.names, y.2 = .free → ∃ c, X.env.cells.lookup y.1 = some c := fun y hy e => (ok.free y hy e).elim (fun k => I.ok.has _ (.inl k)) fun k => I.ok.has _ (.inr k)
  refine wpAny_comprehension_free (use := use) rfl hs (closure_ok cells) ok.kind (fun y hy e => by rw [ok.uniq y hy, e]) (thn (hi.run pins s σ H _ I h) fun xv s1 hx => thn hx fun itv s2 h2 => ?_)
  obtain ⟨it, fp, tn, J, H2, rfl, I2, T, st2, f2, q⟩ := h2
  refine PpSet.newSet_ok (newEnv_comp ?_)
  obtain ⟨D, hD⟩ : ∃ D, s2.heap.objs.size = D := ⟨_, rfl⟩
  obtain ⟨W, ⟨m0, w0⟩, turn⟩ := q D (I2.hok.fresh (Nat.le_of_eq hD))
  have fresh := tx_fresh (h := s2.heap) X.w
  rw [hD] at fresh ⊢
  obtain ⟨s3, es3⟩ : ∃ s3 : Shared, s3 = { s2 with heap := s2.heap.push { cls := .type "set", dict := none, data := .set #[] 0 (.fresh 0 0 (!X.w.params.followText "set-order")) } } := ⟨_, rfl⟩
  have h3 : s3.heap = s2.heap.push { cls := .type "set", dict := none, data := .set #[] 0 (.fresh 0 0 (!X.w.params.followText "set-order")) } := by rw [es3]
  have I3 : Inv X pins σ (upd H2 D (SetTO X.w D [])) s3 := by
    rw [es3]
    exact I2.laid (t' := s2.toks) (fun b o e => Heap.get?_push_of_some _ e) (Nat.le_of_eq hD) (txo_new fresh)
  rw [← es3]
  have f3 : ∀ b ∈ fp, FpOk X pins (upd H2 D (SetTO X.w D [])) b ∧ b < s3.heap.objs.size := fun b hb => by
    obtain ⟨o, e, _⟩ := T.obj _ _ st2 b hb
    have lt := Heap.lt_size e
    exact ⟨⟨by rw [upd_ne (by rw [← hD]; exact Nat.ne_of_lt lt)]; exact (f2 b hb).1, (f2 b hb).2⟩, by rw [h3, Heap.size_push]; exact Nat.lt_succ_of_lt lt⟩
  have st3 : tn 0 s3.heap := T.keep _ _ _ st2 fun b _ o e => by rw [h3]; exact Heap.get?_push_of_some _ e
  have I4 := block_start I3 ok hN f3
  have pg := hg s3 (upd H2 D (SetTO X.w D [])) s3.heap.objs.size (cellsFrom (s3.heap.objs.size + 1) scope.names (cloFrom X.env.cells scope.names [])) fp
  have pt := ht s3 (upd H2 D (SetTO X.w D [])) s3.heap.objs.size (cellsFrom (s3.heap.objs.size + 1) scope.names (cloFrom X.env.cells scope.names [])) fp
  have pe := he s3 (upd H2 D (SetTO X.w D [])) s3.heap.objs.size (cellsFrom (s3.heap.objs.size + 1) scope.names (cloFrom X.env.cells scope.names [])) fp
  have pi1 := hi1 s3 (upd H2 D (SetTO X.w D [])) s3.heap.objs.size (cellsFrom (s3.heap.objs.size + 1) scope.names (cloFrom X.env.cells scope.names [])) fp
  have pg1 := hg1 s3 (upd H2 D (SetTO X.w D [])) s3.heap.objs.size (cellsFrom (s3.heap.objs.size + 1) scope.names (cloFrom X.env.cells scope.names [])) fp
  have pt1 := ht1 s3 (upd H2 D (SetTO X.w D [])) s3.heap.objs.size (cellsFrom (s3.heap.objs.size + 1) scope.names (cloFrom X.env.cells scope.names [])) fp
  show codeAny _ _ (.compStart (.SetComp elt [⟨tg, iter, ifs, 0⟩, ⟨tg1, iter1, ifs1, 0⟩] scope pos) 0 (.ref it) (.ref D) (compEnvC scope (cellsFrom (s3.heap.objs.size + 1) scope.names (cloFrom X.env.cells scope.names [])) s3.heap.objs.size X.env)) (compPost (model X.prog X.w) X.A X.xe use Qf (.ref D) s3.heap.objs.size) { s3 with heap := pushCells (s3.heap.push { cls := .type "dict", data := .dict #[] }) scope.names }
  obtain ⟨ce, ece⟩ : ∃ ce, ce = compEnvC scope (cellsFrom (s3.heap.objs.size + 1) scope.names (cloFrom X.env.cells scope.names [])) s3.heap.objs.size X.env := ⟨_, rfl⟩
  have cL : ce.locals = s3.heap.objs.size := by rw [ece]; rfl
  obtain ⟨s4, es4⟩ : ∃ s4 : Shared, s4 = { s3 with heap := pushCells (s3.heap.push { cls := .type "dict", data := .dict #[] }) scope.names } := ⟨_, rfl⟩
  rw [← ece] at I4 pg pt pe pi1 pg1 pt1 ⊢
  rw [← es4] at I4 ⊢
  have st4 : tn 0 s4.heap := T.keep _ _ _ st3 fun b _ o e => by rw [es4]; exact pushCells_keeps _ _ _ _ (Heap.get?_push_of_some _ e)
  generalize upd H2 D (SetTO X.w D []) = H3 at w0 I3 f3 I4 pg pt pe pi1 pg1 pt1
  have stat : ∀ {H' : Hp}, (∀ b ∈ fp, H' b = none) → ∀ b ∈ fp, FpOk (X.blk s3 H3 scope ce fp) [] H' b := fun {H'} hn b hb =>
    ⟨hn b hb, (I4.ok.exf b hb).1, I4.ok.exfs b hb, .inl hb, fun x c e => (I4.ok.exf b hb).2 x c e, fun p hp => absurd (show p ∈ ([] : List (Addr × Obj)) ++ [] from hp) (by simp)⟩
  have loop : codeAny (model X.prog X.w) X.A (.compLoop (.SetComp elt [⟨tg, iter, ifs, 0⟩, ⟨tg1, iter1, ifs1, 0⟩] scope pos) 0 (.ref it) (.ref D) ce) (compPost (model X.prog X.w) X.A X.xe use Qf (.ref D) s3.heap.objs.size) s4 := by
    refine blk_loop (kn := fun σ2 => wipe σ2 (own.map (·.2)) = wipe σ (own.map (·.2))) (W := W) (Z := fun H => Q (.ref D) H) (g := g) (tt := tt) (em := emI X.prog X.w X.A (notedBy (model X.prog X.w) X.A ce fun e s' => compPost (model X.prog X.w) X.A X.xe use Qf (.ref D) s3.heap.objs.size (.error e) s') (.SetComp elt [⟨tg, iter, ifs, 0⟩, ⟨tg1, iter1, ifs1, 0⟩] scope pos) iter1 (.ref D) ce)
      (emH := fun σ2 H3 Nx => wi1 σ2 H3 fun J1 H4 => ∃ W1 : Nat → Nat → Hp → Prop, (∃ m, W1 0 m H4) ∧ goes J1 W1 Nx fun x H' Nx1 => g1 x (wipe σ2 vs1) H' fun σ3 H5 => wipe σ3 vs1 = wipe σ2 vs1 ∧ tt1 σ3 H5 fun b H6 => if b = true then te σ3 H6 (tInto X.w D Nx1) else Nx1 H6)
      (fun _ z => wiped z) hc T stat pg pt (emI_ok (hs1 ce)) (turn_s2 _ _ _) ?_ ?_ ?_ ?_ I4 st4 (fun b hb => (f3 b hb).1.1) w0
    · exact turn
    · intro Y Y' s h k
      exact wpAny_mono h (fun x s1 h1 => wpAny_mono h1 (fun it s2 h2 => codeAny_mono h2 fun r s3 z => by cases r with | ok f => exact k _ z | error x => exact z) fun _ _ z => z) fun _ _ z => z
    · intro σ2 H4 Nx s pl I' hk q2
      refine thnF (pi1.run _ s σ2 H4 _ I' q2) fun xv s10 hx => thnF hx fun itv s11 h11 => ?_
      obtain ⟨it1, fp1, tn1, J1, H11, rfl, I11, T1, st11, f11, W1, ⟨m1, w1⟩, turn1⟩ := h11
      have kw : Knows (wipe σ (own.map (·.2))) (wipe σ2 vs1) := ⟨hk.1.trans (wipe_length σ2 vs1).symm, fun j v e => by
        rw [wipe_out fun z => (wipe_some e).2 (hv j z)]
        exact hk.2 j v e⟩
      have loop1 : codeAny (model X.prog X.w) X.A (.compLoop (.SetComp elt [⟨tg, iter, ifs, 0⟩, ⟨tg1, iter1, ifs1, 0⟩] scope pos) 1 (.ref it1) (.ref D) ce) (fun r s' => match r with
          | .ok _ => ∃ σ' H', Inv (X.blk s3 H3 scope ce fp) ([] ++ pl) σ' H' s' ∧ Knows (wipe σ (own.map (·.2))) σ' ∧ Nx H'
          | .error _ => False) s11 := by
        refine blk_loop (kn := fun σ3 => wipe σ3 vs1 = wipe σ2 vs1) (pins := [] ++ pl) (σ0 := wipe σ2 vs1) (W := W1) (Z := Nx) (g := g1) (tt := tt1) (em := emS X.prog X.w X.A (notedBy (model X.prog X.w) X.A ce fun e s' => False) elt (.ref D) ce) (emH := fun σ3 H6 Nx1 => te σ3 H6 (tInto X.w D Nx1))
          (fun _ z => wiped z) hc T1 (fun {H'} hn b hb => ⟨hn b hb, (f11 b hb).2⟩) pg1 pt1 emS_ok (turn_s2in _ _ _) ?_ ?_ ?_ ?_ (I11.weak (wipe_length _ _) fun j v e => (wipe_some e).1) st11 (fun b hb => (f11 b hb).1) w1
        · exact turn1
        · intro Y Y' s h k
          exact wpAny_mono h (fun x s1 h1 => wpAny_mono h1 (fun _ s2 h2 => k _ h2) fun _ _ z => z) fun _ _ z => z
        · intro σ3 H6 Nx1 s pl1 I6 hk6 q6
          exact into_ok pe I6 hk6 q6
        · exact fun s' H' I' z => ⟨_, H', I', kw, z⟩
      exact start_any rfl rfl loop1 (T1.self X.A 0 _ _ _ st11 loop1)
    · intro s6 H5 I6 qq
      have I7 : Inv X pins σ H5 s6 := I3.call' (ch := fp) I6.os I6.base I6.hok I6.bare fun b hb => ⟨(f3 b hb).1.2.2.2.1, (f3 b hb).1.2.1, (f3 b hb).1.2.2.2.2.1, (f3 b hb).1.2.2.2.2.2⟩
      have nC : H5 s3.heap.objs.size = none := by
        rw [← cL]
        exact I6.free
      obtain ⟨m, hn, _⟩ := I6.loc
      have hn : s6.heap.Ns ce.locals m := hn
      rw [cL] at hn
      exact hRR D s3.heap.objs.size s6 m H5 I7 qq hn (I3.fpOk (Nat.le_refl _) nC)
  exact start_any rfl rfl loop (T.self X.A 0 _ _ _ st4 loop)
theorem pe_sx2 (hc : X.calm = true) (hN : X.N.Nodup) (hi : PI X tg iter wi) (ok : BlkOk X.N X.env.scope scope own) (hv : ∀ i ∈ vs1, i ∈ own.map (·.2)) (hg : ∀ (s : Shared) (H : Hp) (C : Addr) (cl : List (Str × Addr)) (fp : List Addr), PG (X.blk s H scope (compEnvC scope cl C X.env) fp) tg g)
    (ht : ∀ (s : Shared) (H : Hp) (C : Addr) (cl : List (Str × Addr)) (fp : List Addr), PTs (X.blk s H scope (compEnvC scope cl C X.env) fp) ifs tt) (hi1 : ∀ (s : Shared) (H : Hp) (C : Addr) (cl : List (Str × Addr)) (fp : List Addr), PI (X.blk s H scope (compEnvC scope cl C X.env) fp) tg1 iter1 wi1)
    (hg1 : ∀ (s : Shared) (H : Hp) (C : Addr) (cl : List (Str × Addr)) (fp : List Addr), PG (X.blk s H scope (compEnvC scope cl C X.env) fp) tg1 g1) (ht1 : ∀ (s : Shared) (H : Hp) (C : Addr) (cl : List (Str × Addr)) (fp : List Addr), PTs (X.blk s H scope (compEnvC scope cl C X.env) fp) ifs1 tt1)
    (he : ∀ (s : Shared) (H : Hp) (C : Addr) (cl : List (Str × Addr)) (fp : List Addr), PE (X.blk s H scope (compEnvC scope cl C X.env) fp) elt te) (hs : ∀ x, foldedSetIterable iter X.env x = pure x := by intro _; rfl) (hs1 : ∀ env x, foldedSetIterable iter1 env x = pure x := by intro _ _; rfl) :
    PE X (.SetComp elt [⟨tg, iter, ifs, 0⟩, ⟨tg1, iter1, ifs1, 0⟩] scope pos) (tSx2 X.w wi g tt wi1 g1 tt1 te (own.map (·.2)) vs1) := by
  refine ⟨fun pins s σ H Q I h => ?_⟩
  rw [PpSet.eval_SetComp]
  refine sx2_core hc hN I hi ok hv hg ht hi1 hg1 ht1 he hs hs1 h fun D C s' m H' I' q hn ⟨f0, f1, f2, f3, f4, f5⟩ => ⟨m, hn, fun h'' sb => ?_⟩
  exact ⟨.ref D, H', I'.turned (t' := s'.toks) (fun b o hb e => (sb.2 b hb).trans e) f0 f1 f3 f4 f5, rfl, q⟩
end
end OM

namespace OM
open PySem PySem.Spec PyProof.Rows L2
/-- the text of a value -/
def txV : Value → Str
  | .str x _ => x
  | _ => ""
theorem strs_txV : ∀ (l : List Value), (∀ v ∈ l, ∃ x tk, v = Value.str x tk) → StrsAre l (l.map txV)
  | [], _ => .nil
  | v :: l, h => by
    obtain ⟨x, tk, rfl⟩ := h v List.mem_cons_self
    exact .cons x tk (strs_txV l fun u hu => h u (List.mem_cons_of_mem _ hu))
section
variable {P : Program} {w : World} {A : Around} {E : Value → Shared → Prop} {s : Shared} {a : Addr} {L : List Str}
theorem sorted_tx {Q : Value → Shared → Prop} (R : SetTx w s.heap a L) (hh : A.handled = none)
    (fin : ∀ s' p (out : Array Value) (c : Nat) (ys : List Str), (∀ b o, s.heap.get? b = some o → s'.heap.get? b = some o) → s'.gens = s.gens → s'.os = s.os → s.heap.objs.size ≤ p → s'.heap.get? p = some (seqObj "list" out c) → StrsAre out.toList ys → ys.Perm L → sortedS ys = true → Q (.ref p) s') :
    wpAny (model P w) A (call (.builtin "sorted") [.ref a]) Q E s := by
  obtain ⟨o, es, ep, t, at_, hex, hd, T⟩ := R
  refine Calls.call_function_entry kind_sorted plain_sorted entry_sorted (args_sorted1 _) ?_
  unfold Builtin.«sorted»
  refine wpAny_bind (m := checkCount "sorted" 1 1 _) (wpAny_pure ?_)
  refine wpAny_bind <| collect_set (A := A.in1) hh ⟨o, at_, hex.1, hd⟩ T.fit T.bound T.ris T.led fun s1 vs k1 hz g1 o1 pm => ?_
  have vl : vs.length = L.length := by rw [pm.length_eq, List.length_map, Array.length_toList, T.size]
  have S : StrsAre vs (vs.map txV) := strs_txV vs fun v hv => by
    obtain ⟨e, he, q⟩ := List.mem_map.mp (pm.mem_iff.mp hv)
    obtain ⟨x, tk, h1⟩ := T.tx e he
    exact ⟨x, tk, by rw [← q, h1]⟩
  have pk : (vs.map txV).Perm L := by
    have q := pm.map txV
    rw [List.map_map] at q
    refine q.trans ?_
    have e : es.toList.map (txV ∘ (·.2)) = es.toList.map keyT := List.map_congr_left fun e he => by
      obtain ⟨x, tk, rfl⟩ := T.tx e he
      rfl
    rw [e]
    exact T.pm
  have line : vs.length ≤ sizeLine := by
    rw [vl]
    exact fits_of_scanBound T.few
  refine wpAny_bind (wpAny_newList ?_ line)
  have new : (s1.heap.push (seqObj "list" vs.toArray 0)).get? s1.heap.objs.size = some (seqObj "list" vs.toArray 0) := Heap.get?_push_size _ rfl
  refine wpAny_bind <| wpAny_holding <| wpAny_call_entry slot_list_sort ⟨_, new, rfl⟩ entry_list_sort (list_sort_treeKAny strKind_oneLt new S.keysOf (fun v₁ v₂ rest e => keyKind_strs (by rw [← e]; exact S)) line fun st' hp hs => ⟨_, rfl, ?_⟩) (args_list_sort _)
  obtain ⟨ys, q1, q2, q3⟩ := sorted_out_str S hp hs
  obtain ⟨c, hc⟩ := sortedHeap_at (vs := vs) (out := (arrOf st').map (·.2)) new
  refine wpAny_pure ⟨_, rfl, fin _ s1.heap.objs.size _ c ys (fun b u e => ?_) g1 o1 hz hc q1 (q2.trans pk) q3⟩
  have z := k1 b u e
  have lt := Heap.lt_size z
  exact (sortedHeap_old (Nat.ne_of_lt lt) (by rw [size_push']; exact Nat.lt_succ_of_lt lt)).trans (Heap.get?_push_of_some _ z)
end
section
variable {X : Cx}
/-- sorted(a set of texts) -/
def rSortX (w : World) : List V → Hp → VK → Prop := fun vs H Q => ∃ (a : Addr) (L : List Str), vs = [V.ref a] ∧ H a = some (SetTO w a L) ∧ ∀ (ys : List Str) (p : Addr), ys.Perm L → sortedS ys = true → H p = none → Q (.ref p) (upd H p (.lst (ys.map V.str)))
theorem cr_sortX (hc : X.calm = true) : CallR X (.builtin "sorted") (rSortX X.w) := by
  intro pins s σ H vs us Q I r h
  obtain ⟨a, L, rfl, ha, q⟩ := h
  have R := txo_get I ha
  have few : L.length < scanBound := by
    obtain ⟨_, _, _, _, _, _, _, T⟩ := R
    exact T.few
  rw [Vals.ref1 r]
  refine sorted_tx R (I.ok.hd hc) fun s' p out c ys k g o hp hg hi pm so => ?_
  have len : (ys.map V.str).length ≤ sizeLine := by
    rw [List.length_map, pm.length_eq]
    exact fits_of_scanBound few
  have hn : H p = none := I.hok.fresh hp
  have J : Inv X pins σ (upd H p (.lst (ys.map V.str))) { s with heap := s'.heap, gens := s'.gens, drawn := s'.drawn, toks := s'.toks } := I.call (ch := []) (Un.laid k hp hn) (I.hok.laid k hp ⟨len, out.toList, c, vals_of_strs hi, hg⟩) (by rw [g]; exact I.bare) (fun _ z => nomatch z)
  have e : s' = { s with heap := s'.heap, gens := s'.gens, drawn := s'.drawn, toks := s'.toks } := by
    cases s'
    cases s
    cases o
    rfl
  rw [e]
  exact ⟨.ref p, _, J, rfl, q ys p pm so hn⟩
end
end OM

namespace OM
open PySem PySem.Spec PyProof.Rows L2
def firsts (L : List Str) (xs : List Str) : List Str := xs.foldl addX L
theorem mem_addX {L : List Str} {x y : Str} : y ∈ addX L x ↔ y ∈ L ∨ y = x := by
  unfold addX
  split
  · rename_i h
    exact ⟨.inl, fun z => z.elim id fun e => e ▸ h⟩
  · rw [List.mem_cons]
    exact Or.comm
theorem len_addX (L : List Str) (x : Str) : (addX L x).length ≤ L.length + 1 := by
  unfold addX
  split
  · exact Nat.le_succ _
  · exact Nat.le_refl _
theorem nodup_addX {L : List Str} (h : L.Nodup) (x : Str) : (addX L x).Nodup := by
  unfold addX
  split
  · exact h
  · exact List.nodup_cons.mpr ⟨by assumption, h⟩
theorem mem_firsts {y : Str} : ∀ {xs L : List Str}, y ∈ firsts L xs ↔ y ∈ L ∨ y ∈ xs
  | [], L => by simp [firsts]
  | x :: r, L => by
    show y ∈ firsts (addX L x) r ↔ _
    rw [mem_firsts, mem_addX, List.mem_cons, or_assoc]
theorem len_firsts : ∀ (xs L : List Str), (firsts L xs).length ≤ L.length + xs.length
  | [], L => Nat.le_refl _
  | x :: r, L => by
    have h1 := len_firsts r (addX L x)
    have h2 := len_addX L x
    show (firsts (addX L x) r).length ≤ L.length + (r.length + 1)
    omega
theorem nodup_firsts : ∀ (xs : List Str) {L : List Str}, L.Nodup → (firsts L xs).Nodup
  | [], _, h => h
  | x :: r, _, h => nodup_firsts r (nodup_addX h x)
section
variable {P : Program} {w : World} {A : Around} {I : Addr} {fp wr : List Addr} {G : Array GenState → Array GenState → Prop} {n : Nat} {Pv : Nat → Value → Prop} {St : Nat → Shared → Prop} {R : Result → Shared → Prop}
/-- the loop of set.update over texts -/
theorem update_tx (W : WalksS P w A.in1 I fp wr G n Pv St) (S : Addr) (apart : S ∉ fp) (xs : List Str) (hn : xs.length = n) (val : ∀ i v, Pv i v → ∃ t, v = .str (xs.getD i Str.empty) t) : ∀ (k i : Nat) (s : Shared) (L : List Str), n - i = k → i ≤ n → St i s → SetTx w s.heap S L → L.length + k < scanBound →
    (∀ s', Moved (S :: wr) G s s' → SetTx w s'.heap S (firsts L (xs.drop i)) → R (.ok (.ret .none)) s') → codeAny (model P w) A (.builtin "set.update.loop" ⟨[.ref S, .ref I], []⟩) R s := by
  have nw : S ∉ wr := fun h => apart (W.sub _ h)
  have wider : ∀ b ∈ wr, b ∈ S :: wr := fun b hb => List.mem_cons_of_mem _ hb
  intro k
  induction k with
  | zero =>
    intro i s L hk hi st hS room fin
    obtain rfl : i = n := by omega
    refine codeAny_builtin F.entry_set_update_loop ?_
    rw [Around.under_plainId F.plain_set_update_loop _]
    show wpAny _ A.in1 (pyNext (.ref I) >>= _) _ _ s
    refine wpAny_bind <| W.done s _ _ st fun s' hm => ?_
    show wpAny _ A.in1 (ret Value.none) _ _ s'
    refine wpAny_pure <| fin s' (hm.mono wider) ?_
    rw [← hn, List.drop_length]
    exact hS.mv fun o e => hm.heap S o nw e
  | succ k ih =>
    intro i s L hk hi st hS room fin
    have lt : i < n := by omega
    refine codeAny_builtin F.entry_set_update_loop ?_
    rw [Around.under_plainId F.plain_set_update_loop _]
    show wpAny _ A.in1 (pyNext (.ref I) >>= _) _ _ s
    refine wpAny_bind <| W.item i s _ _ lt st fun v s' hP st' hm => ?_
    obtain ⟨tk, rfl⟩ := val i v hP
    have hS' : SetTx w s'.heap S L := hS.mv fun o e => hm.heap S o nw e
    have hx : xs.drop i = xs.getD i Str.empty :: xs.drop (i + 1) := by
      have h1 : i < xs.length := by omega
      rw [List.getD_eq_getElem?_getD, List.getElem?_eq_getElem h1]
      exact List.drop_eq_getElem_cons h1
    rw [hx] at fin
    revert fin
    generalize xs.getD i Str.empty = x
    intro fin
    show wpAny _ A.in1 (holding [Value.str x tk] (setAdd S (.str x tk)) >>= _) _ _ s'
    refine wpAny_bind <| wpAny_holding ?_
    unfold setAdd
    refine wpAny_holding <| wpAny_bind <| (strKind P w).pyHash (k := x) (beq_self_eq_true x) ?_
    refine tx_hashed (s := { s' with toks := s'.toks + 1 }) hS' (by omega) fun b h' sb r => ?_
    have la := len_addX L x
    refine wpAny_pure ⟨plainId_quiet F.plain_set_update_loop _, ih (i + 1) _ (addX L x) (by omega) lt (W.frame _ s' _ _ st' (Nat.le_succ _) fun b hb o e => ?_) r (by omega) fun s'' hm'' r'' => fin s'' (Moved.trans W.gtrans ((hm.mono wider).then_heap (Nat.le_succ _) fun b o hb e => ?_) hm'') r''⟩
    · exact (sb.2 b fun z => apart (by rw [← z]; exact hb)).trans e
    · exact (sb.2 b fun z => hb (by rw [z]; exact List.mem_cons_self)).trans e
end
end OM

namespace OM
open PySem PySem.Spec PyProof.Rows L2
abbrev blankSet (w : World) : Obj := { cls := .type "set", dict := none, data := .set #[] 0 (.fresh 0 0 (!w.params.followText "set-order")) }
section
variable {P : Program} {w : World} {A : Around} {E : Value → Shared → Prop} {s : Shared}
/-- set(x), by what its __init__ makes of the blank set -/
theorem set_made {x : Value} {Q : Value → Shared → Prop} {Z : Shared → Prop}
    (hT : codeAny (model P w) A.in1 (.call (.builtin "set.__init__") ⟨[.ref s.heap.objs.size, x], []⟩) (wants (fun r s2 => r = .none ∧ Z s2) E) { s with heap := s.heap.push (blankSet w) })
    (fin : ∀ s2, Z s2 → Q (.ref s.heap.objs.size) s2) : wpAny (model P w) A (call (.type "set") [x]) Q E s := by
  obtain ⟨c, tl, hmro⟩ := F.called_set.mro
  have f1 := F.called_set.made
  have f2 := F.called_set.sub
  refine wpAny_call <| codeAny_of_tree ?_
  show wpAny _ _ (callAny (.type "set") _) _ _ _
  refine wpAny_pure ⟨Code.quiet_builtin _ (by decide +kernel), codeAny_builtin F.entry_type_call ?_⟩
  rw [Around.under_plain (weight_type_call_type "set" [x] []) rfl]
  have f3 := F.called_set.notType
  have f4 := F.called_set.canCreate
  have f5 := F.typeCall_set_1 x
  repeat (any_goals (first | assumption | wp_step))
  refine codeAny_mono (code_set_led1 x (E := E) (Q₁ := fun obj s1 => obj = .ref s.heap.objs.size ∧ s1 = { s with heap := s.heap.push (blankSet w) }) ⟨rfl, rfl⟩) fun r s1 hr => ?_
  cases r with
  | error e => exact hr
  | ok fl =>
    cases fl with
    | ret obj =>
      obtain ⟨rfl, rfl⟩ := hr
      have at_ : (s.heap.push (blankSet w)).get? s.heap.objs.size = some (blankSet w) := Heap.get?_push_size _ rfl
      have ty : Shared.TypeIs { s with heap := s.heap.push (blankSet w) } (.ref s.heap.objs.size) "set" := ⟨_, at_, rfl⟩
      have f6 := F.called_set.init.lookup
      have f7 := F.called_set.init.bind (.ref s.heap.objs.size)
      repeat (any_goals (first | assumption | wp_step))
      refine codeAny_mono hT fun r2 s2 hr2 => ?_
      cases r2 with
      | error e => exact hr2
      | ok fl2 =>
        cases fl2 with
        | ret r =>
          obtain ⟨rfl, z⟩ := hr2
          have q := fin s2 z
          repeat (any_goals (first | assumption | wp_step))
        | _ => exact hr2.elim
    | _ => exact hr.elim
/-- set(xs), xs a list or a tuple of texts -/
theorem set_list {l : Addr} {items : Array Value} {xs : List Str} {Q : Value → Shared → Prop} (hh : A.handled = none) (hl : s.heap.IsList l items) (hi : StrsAre items.toList xs) (few : xs.length < scanBound)
    (fin : ∀ (h' : Heap) (tk : Nat), SetTx w h' s.heap.objs.size (firsts [] xs) → (∀ b o, b < s.heap.objs.size → s.heap.get? b = some o → h'.get? b = some o) → Q (.ref s.heap.objs.size) { s with heap := h', toks := tk }) : wpAny (model P w) A (call (.type "set") [.ref l]) Q E s := by
  refine set_made (Z := fun s2 => ∃ h' tk, s2 = { s with heap := h', toks := tk } ∧ SetTx w h' s.heap.objs.size (firsts [] xs) ∧ ∀ b o, b < s.heap.objs.size → s.heap.get? b = some o → h'.get? b = some o) ?_ fun s2 ⟨h', tk, e, a, b⟩ => by rw [e]; exact fin h' tk a b
  have at_ : (s.heap.push (blankSet w)).get? s.heap.objs.size = some (blankSet w) := Heap.get?_push_size _ rfl
  have ty : Shared.TypeIs { s with heap := s.heap.push (blankSet w) } (.ref s.heap.objs.size) "set" := ⟨_, at_, rfl⟩
  have hl1 : (s.heap.push (blankSet w)).IsList l items := hl.push _
  have size : (s.heap.push (blankSet w)).objs.size = s.heap.objs.size + 1 := Heap.size_push ..
  obtain ⟨ol, hol, hcl, nl, hdl⟩ := hl
  have lt := Heap.lt_size hol
  obtain ⟨ocls, odict, odata, oslots⟩ := ol
  simp only at hcl hdl
  subst hcl
  subst hdl
  have hol' : (s.heap.push (blankSet w)).get? l = some { cls := .type "list", dict := odict, data := .seq items nl, slots := oslots } := Heap.get?_push_of_some _ hol
  have g1 := F.sub_list_set
  have g2 := F.sub_list_frozenset
  have g3 : (Value.type "list" == Value.type "dict") = false := by decide
  refine codeAny_call_builtin F.called_set.init.plain F.entry_set_init (check_set_init_1 ty ?_)
  unfold Builtin.«set.__init__» noKeywords Builtin.Frozenset.updateFrom
  generalize iter : pyIter = it0
  wp_walk
  subst iter
  refine wpAny_pyIter_list hl1 <| wpAny_bind <| wpAny_runValue ?_
  have n1 : l ≠ (s.heap.push (blankSet w)).objs.size := by
    rw [Heap.size_push]
    exact Nat.ne_of_lt (Nat.lt_succ_of_lt lt)
  have n2 : s.heap.objs.size ∉ [(s.heap.push (blankSet w)).objs.size, l] := by
    rw [Heap.size_push]
    simp only [List.mem_cons, List.not_mem_nil, or_false, not_or]
    exact ⟨Nat.ne_of_lt (Nat.lt_succ_self _), Nat.ne_of_gt lt⟩
  have sz : xs.length = items.size := by rw [← StrsAre.len_eq hi, Array.length_toList]
  refine update_tx ((Walks.list (by simp [hh]) _ l n1 items).toS) s.heap.objs.size n2 xs sz (fun i v hv => SS.strs_at hi i v (by rw [Array.getElem?_toList]; exact hv)) (items.size - 0) 0 _ [] (by omega) (Nat.zero_le _) ⟨⟨_, Heap.get?_push_size _ rfl, rfl, rfl⟩, hl1.push _⟩ ?_ (by rw [← sz]; simpa using few) fun s' hm r => ?_
  · exact (tx_fresh (h := s.heap) w).mv fun o e => Heap.get?_push_of_some _ e
  · obtain ⟨h', g', d', tk', os'⟩ := s'
    obtain rfl : g' = s.gens := hm.gens
    obtain rfl : d' = s.drawn := hm.drawn
    obtain rfl : os' = s.os := hm.os
    show wpAny _ _ _ _ _ _
    refine wpAny_pure ?_
    show wpAny _ _ (ret Value.none) _ _ _
    refine wpAny_pure ⟨rfl, h', tk', rfl, r, fun b o hb e => hm.heap b o ?_ (Heap.get?_push_of_some _ (Heap.get?_push_of_some _ e))⟩
    rw [Heap.size_push]
    simp only [List.mem_cons, List.not_mem_nil, or_false, not_or]
    exact ⟨Nat.ne_of_lt hb, Nat.ne_of_lt (Nat.lt_succ_of_lt hb)⟩
theorem set_tuple {l : Addr} {items : Array Value} {xs : List Str} {Q : Value → Shared → Prop} (hh : A.handled = none) (hl : s.heap.IsTuple l items) (hi : StrsAre items.toList xs) (few : xs.length < scanBound)
    (fin : ∀ (h' : Heap) (tk : Nat), SetTx w h' s.heap.objs.size (firsts [] xs) → (∀ b o, b < s.heap.objs.size → s.heap.get? b = some o → h'.get? b = some o) → Q (.ref s.heap.objs.size) { s with heap := h', toks := tk }) : wpAny (model P w) A (call (.type "set") [.ref l]) Q E s := by
  refine set_made (Z := fun s2 => ∃ h' tk, s2 = { s with heap := h', toks := tk } ∧ SetTx w h' s.heap.objs.size (firsts [] xs) ∧ ∀ b o, b < s.heap.objs.size → s.heap.get? b = some o → h'.get? b = some o) ?_ fun s2 ⟨h', tk, e, a, b⟩ => by rw [e]; exact fin h' tk a b
  have at_ : (s.heap.push (blankSet w)).get? s.heap.objs.size = some (blankSet w) := Heap.get?_push_size _ rfl
  have ty : Shared.TypeIs { s with heap := s.heap.push (blankSet w) } (.ref s.heap.objs.size) "set" := ⟨_, at_, rfl⟩
  have hl1 : (s.heap.push (blankSet w)).IsTuple l items := hl.push _
  have size : (s.heap.push (blankSet w)).objs.size = s.heap.objs.size + 1 := Heap.size_push ..
  obtain ⟨ol, hol, hcl, nl, hdl⟩ := hl
  have lt := Heap.lt_size hol
  obtain ⟨ocls, odict, odata, oslots⟩ := ol
  simp only at hcl hdl
  subst hcl
  subst hdl
  have hol' : (s.heap.push (blankSet w)).get? l = some { cls := .type "tuple", dict := odict, data := .seq items nl, slots := oslots } := Heap.get?_push_of_some _ hol
  have g1 := F.sub_tuple_set
  have g2 := F.sub_tuple_frozenset
  have g3 : (Value.type "tuple" == Value.type "dict") = false := by decide
  refine codeAny_call_builtin F.called_set.init.plain F.entry_set_init (check_set_init_1 ty ?_)
  unfold Builtin.«set.__init__» noKeywords Builtin.Frozenset.updateFrom
  generalize iter : pyIter = it0
  wp_walk
  subst iter
  refine wpAny_pyIter_tuple hl1 <| wpAny_bind <| wpAny_runValue ?_
  have n1 : l ≠ (s.heap.push (blankSet w)).objs.size := by
    rw [Heap.size_push]
    exact Nat.ne_of_lt (Nat.lt_succ_of_lt lt)
  have n2 : s.heap.objs.size ∉ [(s.heap.push (blankSet w)).objs.size, l] := by
    rw [Heap.size_push]
    simp only [List.mem_cons, List.not_mem_nil, or_false, not_or]
    exact ⟨Nat.ne_of_lt (Nat.lt_succ_self _), Nat.ne_of_gt lt⟩
  have sz : xs.length = items.size := by rw [← StrsAre.len_eq hi, Array.length_toList]
  refine update_tx ((Walks.tuple (by simp [hh]) _ l n1 items).toS) s.heap.objs.size n2 xs sz (fun i v hv => SS.strs_at hi i v (by rw [Array.getElem?_toList]; exact hv)) (items.size - 0) 0 _ [] (by omega) (Nat.zero_le _) ⟨⟨_, Heap.get?_push_size _ rfl, rfl, rfl⟩, hl1.push _⟩ ?_ (by rw [← sz]; simpa using few) fun s' hm r => ?_
  · exact (tx_fresh (h := s.heap) w).mv fun o e => Heap.get?_push_of_some _ e
  · obtain ⟨h', g', d', tk', os'⟩ := s'
    obtain rfl : g' = s.gens := hm.gens
    obtain rfl : d' = s.drawn := hm.drawn
    obtain rfl : os' = s.os := hm.os
    show wpAny _ _ _ _ _ _
    refine wpAny_pure ?_
    show wpAny _ _ (ret Value.none) _ _ _
    refine wpAny_pure ⟨rfl, h', tk', rfl, r, fun b o hb e => hm.heap b o ?_ (Heap.get?_push_of_some _ (Heap.get?_push_of_some _ e))⟩
    rw [Heap.size_push]
    simp only [List.mem_cons, List.not_mem_nil, or_false, not_or]
    exact ⟨Nat.ne_of_lt hb, Nat.ne_of_lt (Nat.lt_succ_of_lt hb)⟩
end
section
variable {X : Cx}
/-- set(xs), xs a list or a tuple of texts -/
def rSetX (K : PySem.W.Frag) (w : World) : List V → Hp → VK → Prop := fun vs H Q => ∃ (l : Addr) (xs : List Str), vs = [V.ref l] ∧ (SqL K H l (xs.map V.str) ∨ SqT K H l (xs.map V.str)) ∧ xs.length < scanBound ∧ ∀ p, H p = none → Q (.ref p) (upd H p (SetTO w p (firsts [] xs)))
theorem cr_setX (hc : X.calm = true) : CallR X (.type "set") (rSetX X.K X.w) := by
  intro pins s σ H vs us Q I r h
  obtain ⟨l, xs, rfl, hq, few, q⟩ := h
  rw [Vals.ref1 r]
  have hn : H s.heap.objs.size = none := I.hok.fresh (Nat.le_refl _)
  have fin : ∀ (h' : Heap) (tk : Nat), SetTx X.w h' s.heap.objs.size (firsts [] xs) → (∀ b o, b < s.heap.objs.size → s.heap.get? b = some o → h'.get? b = some o) → EP X pins σ Q (.ref s.heap.objs.size) { s with heap := h', toks := tk } := fun h' tk R k =>
    ⟨.ref s.heap.objs.size, upd H s.heap.objs.size (SetTO X.w s.heap.objs.size (firsts [] xs)), I.laid (t' := tk) (fun b o e => k b o (Heap.lt_size e) e) (Nat.le_refl _) (txo_new R), rfl, q _ hn⟩
  rcases hq with hq | hq
  · obtain ⟨its, rv, pl, hz⟩ := I.list hq
    exact set_list (I.ok.hd hc) pl.isList (by simpa using rv.strs) few fin
  · obtain ⟨its, rv, pl, hz⟩ := I.tuple hq
    exact set_tuple (I.ok.hd hc) pl (by simpa using rv.strs) few fin
/-- len of a set of texts -/
def rLenX (w : World) : List V → Hp → VK → Prop := fun vs H Q => ∃ (a : Addr) (L : List Str), vs = [V.ref a] ∧ H a = some (SetTO w a L) ∧ Q (.int L.length) H
theorem cr_lenX : CallR X (.builtin "len") (rLenX X.w) := by
  intro pins s σ H vs us Q I r h
  obtain ⟨a, L, rfl, ha, q⟩ := h
  rw [Vals.ref1 r]
  obtain ⟨o, es, ep, t, ho, hex, hd, T⟩ := txo_get I ha
  have hf : (es.size : Int) < 2 ^ 63 := by
    have h1 := T.bound
    have h2 : scanBound < 2 ^ 62 := by decide
    omega
  refine call_len_set ho hex hd T.fit hf ⟨.int L.length, H, I.tok _, ⟨_, by rw [T.size]⟩, q⟩
end
end OM

namespace OM
open PySem PySem.Spec PyProof.Rows L2
/-- found.extend(t), t a tuple -/
def rExtT (K : PySem.W.Frag) : V → List V → Hp → VK → Prop := fun x vs H Q => ∃ (l b : Addr) (xs zs : List V), x = .ref l ∧ vs = [.ref b] ∧ H l = some (.lst xs) ∧ SqT K H b zs ∧ xs.length + zs.length ≤ sizeLine ∧ Q .non (upd H l (.lst (xs ++ zs)))
theorem mt_extT {X : Cx} : MtM X "list.extend" (rExtT X.K) := by
  intro pins s σ H x vs v us Q I rx rv h
  obtain ⟨l, b, xs, zs, rfl, rfl, hH, hB, hz, q⟩ := h
  cases rx
  obtain ⟨u, rfl, ru⟩ := rv.one
  cases ru
  obtain ⟨z, its, n, r, hl, e⟩ := I.lstM hH
  obtain ⟨its2, r2, ⟨o, ho, hc, n2, hd⟩, z2⟩ := I.tuple hB
  have l1 := r.length
  have l2 := r2.length
  refine wpAny_call_entry F.slot_list_extend ⟨_, e, rfl⟩ F.entry_list_extend ?_ (F.args_list_extend_2 _ _)
  show wpAny _ _ (Builtin.List.listExtendWith (.ref l) (.ref b) .none) _ _ _
  unfold Builtin.List.listExtendWith
  refine wpAny_bind (wpAny_typeOf ⟨o, ho, hc⟩ ?_)
  have t1 : (Builtin.List.listSameRef (.ref l) (.ref b) || Value.type "tuple" == Value.type "list" || Value.type "tuple" == Value.type "tuple") = true := by simp
  simp only [t1, if_true]
  refine wpAny_bind ?_
  unfold Builtin.List.listItems
  refine wpAny_bind (wpAny_seqItems ho hd (wpAny_pure ?_))
  refine wpAny_bind ?_
  refine wpAny_bind (wpAny_seqItems e rfl (wpAny_pure ?_))
  have long : (!its.toArray.isEmpty && Builtin.List.listTooLong (its.toArray.size + its2.toArray.size)) = false := by
    rw [notLongL (by rw [List.size_toArray, List.size_toArray]; omega), Bool.and_false]
  simp only [long, Bool.false_eq_true, if_false]
  show wpAny _ _ (updateSeq l (· ++ its2.toArray) >>= fun _ => ret Value.none) _ _ _
  refine wpAny_bind (wpAny_updateSeq e rfl (wpAny_pure ⟨_, rfl, .non, _, I.lset (its' := its ++ its2) hH e (by simp) (r.append r2) ?_, rfl, q⟩))
  rw [List.length_append]
  omega
theorem maxOf_spec : ∀ (ys : List Int) (y : Int), PySem.W.maxOf y ys ∈ y :: ys ∧ ∀ z ∈ y :: ys, z ≤ PySem.W.maxOf y ys
  | [], y => ⟨List.mem_cons_self, fun z h => by
      rw [List.mem_singleton.mp h]
      exact Int.le_refl _⟩
  | a :: r, y => by
    obtain ⟨h1, h2⟩ := maxOf_spec r (if decide (y < a) = true then a else y)
    have e : PySem.W.maxOf y (a :: r) = PySem.W.maxOf (if decide (y < a) = true then a else y) r := rfl
    rw [e]
    have h3 := h2 _ List.mem_cons_self
    constructor
    · rcases List.mem_cons.mp h1 with z | z
      · rw [z]
        split
        · exact List.mem_cons_of_mem _ List.mem_cons_self
        · exact List.mem_cons_self
      · exact List.mem_cons_of_mem _ (List.mem_cons_of_mem _ z)
    · intro z hz
      have ya : y ≤ (if decide (y < a) = true then a else y) ∧ a ≤ (if decide (y < a) = true then a else y) := by
        split
        · rename_i h
          have := of_decide_eq_true h
          omega
        · rename_i h
          have : ¬ y < a := fun z => h (decide_eq_true z)
          omega
      rcases List.mem_cons.mp hz with q | q
      · rw [q]
        omega
      · rcases List.mem_cons.mp q with q | q
        · rw [q]
          omega
        · exact h2 z (List.mem_cons_of_mem _ q)
theorem hold_ints {h : Heap} : ∀ {vs : List Value} {ns : List Int}, IntsAre vs ns → PySem.W.HoldAll h vs ns
  | _, _, .nil => PySem.W.HoldAll.nil
  | _, _, .cons n t r => PySem.W.HoldAll.cons ⟨_, .int _ _⟩ (hold_ints r)
/-- max(xs, default=d), ints -/
def rMaxDef (K : PySem.W.Frag) : List V → List V → Hp → VK → Prop := fun vs zs H Q => ∃ (a : Addr) (ns : List Int) (d : Int), vs = [.ref a] ∧ zs = [.int d] ∧ SqL K H a (ns.map V.int) ∧ (ns = [] → Q (.int d) H) ∧ ∀ m, m ∈ ns → (∀ y ∈ ns, y ≤ m) → Q (.int m) H
theorem cr_maxDef {X : Cx} (hc : X.calm = true) (hu : X.A.units + 1 < cLine) : CallRK X (.builtin "max") ["default"] (rMaxDef X.K) := by
  intro pins s σ H xs zs us ws Q I rx rz h
  obtain ⟨a, ns, d, rfl, rfl, hs, q0, q1⟩ := h
  obtain ⟨u, rfl, ru⟩ := rz.one
  obtain ⟨tk, rfl⟩ := ru
  rw [Vals.ref1 rx]
  obtain ⟨its, r, pl, _⟩ := I.list hs
  have hi : IntsAre its ns := by simpa using r.ints
  refine PySem.W.max_list_datum_default (α := Int) (xs := ns) (I.ok.hd hc) pl.isList (by simpa using hold_ints hi) hu (fun e h' tk k => ⟨.int d, H, I.kept k, ⟨_, rfl⟩, q0 e⟩) fun y ys i v h' tk e hv hh k => ?_
  subst e
  obtain ⟨m1, m2⟩ := maxOf_spec ys y
  obtain ⟨as, hr⟩ := hh
  refine ⟨.int (PySem.W.maxOf y ys), H, I.kept k, ?_, q1 _ m1 m2⟩
  have hr : Reads h' v (.int (PySem.W.maxOf y ys)) as := hr
  cases hr
  exact ⟨_, rfl⟩
/-! ### statements, one behind the other -/
def inner2 : PyData → List (List PyData)
  | .tuple [.str w, _, _, .tuple ys, .tuple ns] => if w = "if" then [ys, ns] else []
  | _ => []
/-- a statement and those in it -/
def flatS : Nat → PyData → List PyData
  | 0, d => [d]
  | n + 1, d => d :: (inner2 d).flatMap fun c => c.flatMap (flatS n)
def flatN (n : Nat) (ds : List PyData) : List PyData := ds.flatMap (flatS n)
/-- what code at depth n holds of a row -/
theorem rowD_shape {cd : PyData → Bool} {d : PyData} (h : rowD cd d = true) : ∃ (w : Str) (rest : List PyData) (rs : List Str), d = .tuple (.str w :: rest) ∧ formOf w = some rs ∧ rest.length = rs.length ∧ (List.zipWith (fitD cd) rest rs).all id = true := by
  unfold rowD at h
  split at h
  · rename_i w rest
    split at h
    · rename_i rs e
      obtain ⟨h1, h2⟩ := Bool.and_eq_true_iff.mp h
      exact ⟨w, rest, rs, rfl, e, of_decide_eq_true h1, h2⟩
    · cases h
  · cases h
theorem code_tup {n : Nat} {d : PyData} (h : codeD n d = true) : ∃ ds, d = .tuple ds ∧ ds.all (rowD (cdOf n)) = true := by
  cases d with
  | tuple ds => exact ⟨ds, rfl, by rw [← codeD_tup]; exact h⟩
  | _ => cases n <;> cases h
theorem cdOf_tup {n : Nat} {d : PyData} (h : cdOf n d = true) : ∃ m ds, n = m + 1 ∧ d = .tuple ds ∧ ds.all (rowD (cdOf m)) = true := by
  cases n with
  | zero => cases h
  | succ m =>
    obtain ⟨ds, e, q⟩ := code_tup (n := m) h
    exact ⟨m, ds, rfl, e, q⟩
/-- an if: five parts, two of them code; else no inner code -/
theorem row_iff {n : Nat} {d : PyData} (h : rowD (cdOf n) d = true) : (∃ m p r ys ns, n = m + 1 ∧ d = .tuple [.str "if", p, r, .tuple ys, .tuple ns] ∧ ys.all (rowD (cdOf m)) = true ∧ ns.all (rowD (cdOf m)) = true ∧ isNameD p = true ∧ isNameD r = true) ∨ (∃ w rest, d = .tuple (.str w :: rest) ∧ w ≠ "if" ∧ inner2 d = []) := by
  obtain ⟨w, rest, rs, rfl, e, l, z⟩ := rowD_shape h
  by_cases hw : w = "if"
  · subst hw
    have e4 : formOf "if" = some (["test", "register", "code", "code"] : List Str) := by decide +kernel
    rw [e4] at e
    obtain rfl := (Option.some.inj e).symm
    match rest, l with
    | [p, r, y, x], _ =>
      rw [row_if] at h
      simp only [Bool.and_eq_true, and_true] at h
      obtain ⟨h1, h2, h3, h4⟩ := h
      obtain ⟨m, ys, e1, rfl, q1⟩ := cdOf_tup h3
      obtain ⟨m', ns, e2, rfl, q2⟩ := cdOf_tup h4
      obtain rfl : m = m' := by omega
      exact .inl ⟨m, p, r, ys, ns, e1, rfl, q1, q2, h1, h2⟩
  · refine .inr ⟨w, rest, rfl, hw, ?_⟩
    unfold inner2
    split
    · rename_i w' _ _ _ _ e'
      have : w = w' := by
        injection e' with e'
        injection e' with e' _
        injection e'
      subst this
      exact if_neg hw
    · rfl
end OM

namespace OM
open PySem PySem.Spec PyProof.Rows L2
abbrev sFlat : Stmt := top 22
abbrev sCin : Stmt := top 23
/-- a row as objects: its word first -/
theorem Dt.row {S : Addr → Prop} {H : Hp} {v : V} {w : Str} {rest : List PyData} (h : Dt S H v (.tuple (.str w :: rest))) : ∃ a xr, v = .ref a ∧ H a = some (.tup (.str w :: xr)) ∧ xr.length + 1 ≤ 1000 ∧ DtAll S H xr rest := by
  obtain ⟨a, xs, rfl, ea, hl, hx⟩ := h.tup_of
  cases hx with
  | @cons x0 _ xr _ h0 hr =>
    obtain rfl : x0 = .str w := by
      cases h0 with
      | «at» a => cases a <;> rfl
    exact ⟨a, xr, rfl, ea, hl, hr⟩
def spCin : Sp := fun vs H Q _ => ∃ (S : Addr → Prop) (v : V) (d : PyData) (n : Nat), vs = [v] ∧ Dt S H v d ∧ rowD (cdOf n) d = true ∧ ∀ H' p xs, Same H H' → H p = none → H' p = some (.tup xs) → DtAll S H' xs ((inner2 d).map PyData.tuple) → Q (.ref p) H'
def spFlatAt : Nat → Sp
  | 0 => fun _ _ _ _ => False
  | n + 1 => fun vs H Q _ => ∃ (S : Addr → Prop) (v : V) (ds : List PyData), vs = [v] ∧ Dt S H v (.tuple ds) ∧ ds.all (rowD (cdOf n)) = true ∧ (flatN n ds).length ≤ 500 ∧ ∀ H' p xs, Same H H' → H p = none → H' p = some (.lst xs) → DtAll S H' xs (flatN n ds) → Q (.ref p) H'
theorem cut53 {a b c d e : V} : cutV [a, b, c, d, e] (some 3) none = [d, e] := rfl
theorem DtAll.app {S : Addr → Prop} {H : Hp} : ∀ {xs ys : List V} {ds es : List PyData}, DtAll S H xs ds → DtAll S H ys es → DtAll S H (xs ++ ys) (ds ++ es)
  | _, _, _, _, .nil, k => k
  | _, _, _, _, .cons h r, k => .cons h (DtAll.app r k)
/-- objects of H stay, whatever comes beside them -/
theorem DtAll.base {S : Addr → Prop} {H H1 H2 : Hp} (live : ∀ a, S a → H a ≠ none) (s1 : Same H H1) (s2 : Same H H2) {xs : List V} {ds : List PyData} (h : DtAll S H1 xs ds) : DtAll S H2 xs ds := by
  refine h.mv (fun _ z => z) fun a o s e => ?_
  cases y : H a with
  | none => exact absurd y (live a s)
  | some u =>
    have := s1 a u y
    rw [e] at this
    obtain rfl := (Option.some.inj this).symm
    exact s2 a _ y
theorem Dt.base {S : Addr → Prop} {H H1 H2 : Hp} (live : ∀ a, S a → H a ≠ none) (s1 : Same H H1) (s2 : Same H H2) {x : V} {d : PyData} (h : Dt S H1 x d) : Dt S H2 x d := by
  cases DtAll.base live s1 s2 (.cons h .nil) with
  | cons h _ => exact h
theorem Dt.live {S : Addr → Prop} {H : Hp} {x : V} {d : PyData} (h : Dt S H x d) : Dt (fun a => S a ∧ H a ≠ none) H x d := h.strong fun a o s e => ⟨⟨s, by rw [e]; exact fun z => nomatch z⟩, e⟩
theorem flat_take {n i : Nat} {d : PyData} {ds : List PyData} (h : ds[i]? = some d) : flatN n (ds.take (i + 1)) = flatN n (ds.take i) ++ flatS n d := by
  unfold flatN
  rw [List.take_add_one, h, List.flatMap_append]
  simp
theorem flat_le {n i : Nat} {ds : List PyData} : (flatN n (ds.take i)).length ≤ (flatN n ds).length := by
  unfold flatN
  conv => rhs; rw [← List.take_append_drop i ds, List.flatMap_append, List.length_append]
  exact Nat.le_add_right _ _
theorem part_le {α β : Type} {f : α → List β} {l : List α} {x : α} (h : x ∈ l) : (f x).length ≤ (l.flatMap f).length := by
  obtain ⟨s, t, rfl⟩ := List.append_of_mem h
  rw [List.flatMap_append, List.flatMap_cons, List.length_append, List.length_append]
  omega
theorem row_in {n : Nat} {d : PyData} {cd : List PyData} (row : rowD (cdOf n) d = true) (h : cd ∈ inner2 d) : ∃ m, n = m + 1 ∧ cd.all (rowD (cdOf m)) = true ∧ flatS n d = d :: (inner2 d).flatMap (flatN m) := by
  rcases row_iff row with ⟨m, p, r, ys, ns, rfl, rfl, hy, hn, _, _⟩ | ⟨_, _, _, _, e⟩
  · refine ⟨m, rfl, ?_, rfl⟩
    have e : inner2 (.tuple [.str "if", p, r, .tuple ys, .tuple ns]) = [ys, ns] := rfl
    rw [e] at h
    rcases List.mem_cons.mp h with z | z
    · rw [z]; exact hy
    · rw [List.mem_singleton.mp z]; exact hn
  · rw [e] at h
    cases h
theorem flatS_row {n : Nat} {d : PyData} (row : rowD (cdOf n) d = true) : flatS n d = d :: (inner2 d).flatMap (flatN (n - 1)) := by
  cases n with
  | succ m => rfl
  | zero =>
    rcases row_iff row with ⟨m, _, _, _, _, e, _⟩ | ⟨_, _, _, _, e⟩
    · cases e
    · rw [e]
      rfl
section
variable {P : Program} {w : World} {K : PySem.W.Frag} {mg : Str → Option Value} {base : Heap} {f fC : Addr} {fd dC : FuncData}
theorem scCin : FnScope ["statement"] ["statement"] (defScope sCin) := ⟨rfl, rfl, rfl, by decide +kernel, rfl, by decide +kernel, by decide +kernel⟩
theorem ok_cin (F : Fun K "codes_in" "codes_in" sCin f fd) : FnOk P w K mg base CX0 1 f fd ["statement"] spCin := by
  refine F.ok scCin (fun vs H Q E h => ?_) (fun cdv A outer s H vs Q E hr h => ?_)
  · obtain ⟨S, v, d, n, rfl, _⟩ := h
    rfl
  · obtain ⟨S, v, d, n, rfl, hd, row, q⟩ := h
    refine ⟨_, pss_one (ps_ret (pe_ifExp (pt_cmpR op_eq (pe_ix ix_tup (pv 0) pe_int (fun _ _ => rfl)) pe_str (nomark _)) (pe_slice sl_tupA (pv 0) (po_some pe_int) po_none) (pe_tup pa_nil))), ?_⟩
    rcases row_iff row with ⟨m, p, r, ys, ns, _, rfl, hy, hn, _, _⟩ | ⟨wd, rest, rfl, ne, e0⟩
    · obtain ⟨a, xr, rfl, ea, hl, hx⟩ := hd.row
      refine ⟨_, rfl, a, _, 0, _, rfl, rfl, SqT.of ea, at0, rfl, _, rfl, iteT ?_⟩
      cases hx with
      | @cons x1 _ _ _ h1 hx =>
        cases hx with
        | @cons x2 _ _ _ h2 hx =>
          cases hx with
          | @cons x3 _ _ _ h3 hx =>
            cases hx with
            | @cons x4 _ _ _ h4 hx =>
              cases hx
              refine ⟨_, rfl, 3, rfl, a, _, rfl, SqT.of ea, fun hw => absurd hw.1 (by show ¬ (HT.sIx 5 0 (some 3) = 0); decide), fun _ pc hpc => ?_⟩
              rw [cut53]
              have s := same_upd (o := .tup [x3, x4]) hpc
              refine q _ pc _ s hpc upd_same ?_
              exact .cons (h3.mv (fun _ z => z) fun b o _ e => s b o e) (.cons (h4.mv (fun _ z => z) fun b o _ e => s b o e) .nil)
    · obtain ⟨a, xr, rfl, ea, hl, hx⟩ := hd.row
      refine ⟨_, rfl, a, _, 0, _, rfl, rfl, SqT.of ea, at0, rfl, _, rfl, ?_⟩
      have hne : decide (V.str wd = V.str "if") = false := decide_eq_false fun z => ne (V.str.inj z)
      rw [hne]
      refine iteF ⟨(by show 0 ≤ sizeLine; decide), fun p hp => q _ p [] (same_upd hp) hp upd_same ?_⟩
      rw [e0]
      exact .nil
theorem scFl : FnScope ["code", "found", "statement", "inner"] ["code"] (defScope sFlat) := ⟨rfl, rfl, rfl, by decide +kernel, rfl, by decide +kernel, by decide +kernel⟩
theorem flat_step {n : Nat} (F : Fun K "flattened" "flattened" sFlat f fd) (gF : mg "flattened" = some (.ref f)) (bF : Binds K fd ["code"] []) (G : FnOk P w K mg base CX0 (n + 1) f fd ["code"] (spFlatAt n))
    (FC : Fun K "codes_in" "codes_in" sCin fC dC) (gC : mg "codes_in" = some (.ref fC)) (bC : Binds K dC ["statement"] []) : FnOk P w K mg base CX0 (n + 2) f fd ["code"] (spFlatAt (n + 1)) := by
  have GC : FnOk P w K mg base CX0 1 fC dC ["statement"] spCin := ok_cin FC
  refine F.ok scFl (fun vs H Q E h => ?_) (fun cdv A outer s H vs Q E hr h => ?_)
  · obtain ⟨S, v, ds, rfl, _⟩ := h
    rfl
  · obtain ⟨S, v, ds, rfl, hd, rows, size, q⟩ := h
    refine ⟨_, pss_cons (ps_set (i := 1) scFl.nd rfl (Or.inl rfl) (pe_lst pa_nil))
      (pss_cons (ps_for PassesOwn.never rfl (pi_tup (pv 0)) (pg_name (i := 2) scFl.nd rfl (Or.inl rfl))
        (pss_cons (ps_expr (pe_bm PySem.F.plainAttrs_list PySem.F.slot_list_append PySem.F.type_list_append mt_append (pv 1) (pa_cons (pv 2) pa_nil)))
        (pss_one (ps_for PassesOwn.never rfl (pi_tup (pe_call GC (hr.mono (by omega)) (by rfl) gC FC.kp bC .nil pass0 (pa_cons (pv 2) pa_nil))) (pg_name (i := 3) scFl.nd rfl (Or.inl rfl))
          (pss_one (ps_expr (pe_bm PySem.F.plainAttrs_list PySem.F.slot_list_extend PySem.F.type_list_extend mt_extend (pv 1) (pa_cons (pe_call G hr (by rfl) gF F.kp bF .nil pass0 (pa_cons (pv 3) pa_nil)) pa_nil))))))))
      (pss_one (ps_ret (pv 1)))), ?_⟩
    obtain ⟨a, xs, rfl, ea, hl, hx⟩ := hd.live.tup_of
    refine ⟨(by show 0 ≤ sizeLine; decide), fun p hp => ?_⟩
    have s0 := same_upd (o := .lst []) hp
    have live : ∀ b, (S b ∧ H b ≠ none) → H b ≠ none := fun b z => z.2
    refine ⟨_, rfl, a, rfl, ⟨xs, SqT.of (s0 _ _ ea)⟩, for_tup (fun i σ H' => (∃ x2 x3, σ = [some (.ref a), some (.ref p), x2, x3]) ∧ Same H H' ∧ ∃ acc, H' p = some (.lst acc) ∧ DtAll (fun b => S b ∧ H b ≠ none) H' acc (flatN n (ds.take i)))
      ⟨⟨_, _, rfl⟩, s0, [], upd_same, .nil⟩ (fun i σ H' _ h => SqT.of (h.2.1 _ _ ea)) (fun i x σ H' hi h => ?_) (fun σ H' h => ?_)⟩
    · obtain ⟨⟨x2, x3, rfl⟩, s1, acc, ep, da⟩ := h
      obtain ⟨d, hdi, hdt⟩ := hx.get hi
      have row : rowD (cdOf n) d = true := List.all_eq_true.mp rows d (List.mem_of_getElem? hdi)
      have la := da.length
      have le1 : (flatN n (ds.take (i + 1))).length ≤ 500 := Nat.le_trans flat_le size
      rw [flat_take hdi, List.length_append] at le1
      have line : (1000 : Nat) < sizeLine := by decide
      refine ⟨_, rfl, .inl ⟨rfl, acc, SqL.of ep⟩, _, rfl, p, acc, x, rfl, rfl, ep, by omega, ?_⟩
      have s2 : Same H (upd H' p (.lst (acc ++ [x]))) := same_put hp s1
      refine ⟨_, rfl, _, x, d, n, rfl, hdt.base live (Same.refl H) s2, row, fun H3 pc cs s3 hpc epc dc => ⟨pc, rfl, ⟨cs, SqT.of epc⟩, ?_⟩⟩
      have s13 : Same H H3 := s2.trans s3
      have ep3 := s3 _ _ (upd_same (H := H') (a := p))
      rw [flatS_row row, List.length_cons] at le1
      refine for_tup (fun j σ' H4 => (∃ y3, σ' = [some (.ref a), some (.ref p), some x, y3]) ∧ Same H H4 ∧ H4 pc = some (.tup cs) ∧ ∃ acc, H4 p = some (.lst acc) ∧ DtAll (fun b => S b ∧ H b ≠ none) H4 acc (flatN n (ds.take i) ++ d :: ((inner2 d).take j).flatMap (flatN (n - 1))))
        ⟨⟨_, rfl⟩, s13, epc, _, ep3, ?_⟩ (fun j σ' H4 _ h => SqT.of h.2.2.1) (fun j c σ' H4 hj h => ?_) (fun σ' H4 h => ?_)
      · have e : flatN n (ds.take i) ++ d :: ((inner2 d).take 0).flatMap (flatN (n - 1)) = flatN n (ds.take i) ++ [d] := rfl
        rw [e]
        exact (da.base live s1 s13).snoc (hdt.base live (Same.refl H) s13)
      · obtain ⟨⟨y3, rfl⟩, s4, epc4, acc4, ep4, da4⟩ := h
        obtain ⟨cdt, hcd, hct⟩ := dc.get hj
        rw [List.getElem?_map] at hcd
        obtain ⟨cd, hc2, rfl⟩ := Option.map_eq_some_iff.mp hcd
        have hin := List.mem_of_getElem? hc2
        obtain ⟨m, rfl, rows', _⟩ := row_in row hin
        have le2 : (flatN m cd).length ≤ ((inner2 d).flatMap (flatN m)).length := part_le hin
        have le3 : ((inner2 d).take (j + 1)).flatMap (flatN m) = ((inner2 d).take j).flatMap (flatN m) ++ flatN m cd := by
          rw [List.take_add_one, hc2, List.flatMap_append]
          simp
        have le4 : (((inner2 d).take (j + 1)).flatMap (flatN m)).length ≤ ((inner2 d).flatMap (flatN m)).length := by
          conv => rhs; rw [← List.take_append_drop (j + 1) (inner2 d), List.flatMap_append, List.length_append]
          exact Nat.le_add_right _ _
        rw [le3, List.length_append] at le4
        have la4 := da4.length
        have m1 : m + 1 - 1 = m := rfl
        rw [m1] at la4 le1
        rw [List.length_append, List.length_cons] at la4
        refine ⟨_, rfl, .inl ⟨rfl, acc4, SqL.of ep4⟩, _, rfl, _, c, cd, rfl, hct.base live s13 s4, rows', by omega, fun H5 p5 xs5 s5 hp5 e5 d5 => ?_⟩
        have s15 := s4.trans s5
        have ep5 := s5 _ _ ep4
        have la5 := d5.length
        refine ⟨p, p5, acc4, xs5, rfl, rfl, ep5, e5, by omega, ⟨_, rfl⟩, same_put hp s15, ?_, acc4 ++ xs5, upd_same, ?_⟩
        · rw [upd_ne (fun z => by rw [z, ep4] at epc4; cases epc4)]
          exact s5 _ _ epc4
        · rw [m1, le3, ← List.cons_append, ← List.append_assoc]
          exact (da4.base live s4 (same_put hp s15)).app (d5.base live s15 (same_put hp s15))
      · obtain ⟨⟨y3, rfl⟩, s4, epc4, acc4, ep4, da4⟩ := h
        refine ⟨⟨_, _, rfl⟩, s4, acc4, ep4, ?_⟩
        have lc := dc.length
        rw [List.length_map] at lc
        rw [flat_take hdi, flatS_row row]
        rw [lc, List.take_length] at da4
        exact da4
    · obtain ⟨⟨x2, x3, rfl⟩, s1, acc, ep, da⟩ := h
      rw [hx.length, List.take_length] at da
      exact ⟨_, rfl, q _ p acc s1 hp ep (da.mv (fun _ z => z.1) fun _ _ _ z => z)⟩
end
end OM

namespace OM
open PySem PySem.Spec PyProof.Rows L2
abbrev sNamesIn : Stmt := top 24
abbrev sNamesOf : Stmt := top 25
def roles4 : List Str := ["cell", "register", "function", "test"]
def strD : PyData → Str
  | .str x => x
  | _ => ""
def strsD : PyData → List Str
  | .tuple ds => ds.map strD
  | _ => []
def nmD (role : Str) (part : PyData) (known : Str) : List Str := if known = role then [strD part] else if known = "registers" ∧ role = "register" then strsD part else []
/-- the names that a statement itself has in a role -/
def namesD (role : Str) : PyData → List Str
  | .tuple (.str w :: rest) => match formOf w with
    | some rs => (List.zipWith (nmD role) rest rs).flatten
    | none => []
  | _ => []
theorem dt_names {S : Addr → Prop} {H : Hp} : ∀ {xs : List V} {ds : List PyData}, DtAll S H xs ds → ds.all isNameD = true → xs = (ds.map strD).map V.str
  | _, _, .nil, _ => rfl
  | _, _, .cons h r, e => by
    rw [List.all_cons, Bool.and_eq_true] at e
    have q := dt_names r e.2
    cases h with
    | «at» a =>
      cases a with
      | str x =>
        rw [q]
        rfl
      | _ => cases e.1
    | _ => cases e.1
/-- for a, b in zip of two tuples -/
theorem for_zipT {K : PySem.W.Frag} {a b : Addr} {xs ys : List V} {g : TG} {tb : TS} {D : Ends} {σ : L2.St} {H : Hp} (hlen : xs.length = ys.length) (Pv : Nat → L2.St → Hp → Prop) (h0 : Pv 0 σ H) (hl : ∀ i σ H, Pv i σ H → SqT K H a xs ∧ SqT K H b ys)
    (hs : ∀ i x y T σ H, xs[i]? = some x → ys[i]? = some y → Pv i σ H → H T = none → g (.ref T) σ (upd H T (.tup [x, y])) fun σ2 H2 => tb { D with nx := Pv (i + 1), ct := Pv (i + 1), bk := D.nx } σ2 H2) (hd : ∀ σ H, Pv xs.length σ H → D.nx σ H) :
    ∃ W : Nat → Nat → L2.St → Hp → Prop, (∃ m, W 0 m σ H) ∧ ∀ i m σ H, W i m σ H → ((RZ.ItzT K a b).stop i H ∧ D.nx σ H) ∨ ((RZ.ItzT K a b).go i H ∧ ∃ N : L2.St → Hp → Prop, (∀ σ' H', N σ' H' → ∃ m', m' < m ∧ W (i + 1) m' σ' H') ∧ ∀ x H', (RZ.ItzT K a b).yld i H x H' → g x σ H' fun σ2 H2 => tb { D with nx := N, ct := N, bk := D.nx } σ2 H2) := by
  refine ⟨fun i m σ H => i ≤ xs.length ∧ m = xs.length - i ∧ Pv i σ H, ⟨_, Nat.zero_le _, rfl, h0⟩, ?_⟩
  rintro i m σ H ⟨hi, rfl, p⟩
  obtain ⟨qx, qy⟩ := hl i σ H p
  rcases Nat.lt_or_ge i xs.length with hlt | hge
  · have hx : xs[i]? = some xs[i] := List.getElem?_eq_getElem hlt
    have hy : ys[i]? = some (ys[i]'(by omega)) := List.getElem?_eq_getElem (by omega)
    refine .inr ⟨⟨xs, ys, _, _, qx, qy, hx, hy⟩, Pv (i + 1), fun σ' H' p' => ⟨xs.length - (i + 1), by omega, hlt, rfl, p'⟩, ?_⟩
    rintro v H' ⟨T, x', y', rfl, hT, rfl, f1, f2⟩
    exact hs i x' y' T σ H (f1 xs qx) (f2 ys qy) p hT
  · obtain rfl : i = xs.length := by omega
    exact .inl ⟨⟨xs, ys, qx, qy, .inl (Nat.le_refl _)⟩, hd σ H p⟩
def spNamesOf : Sp := fun vs H Q _ => ∃ (S : Addr → Prop) (v : V) (d : PyData) (n : Nat) (role : Str), vs = [v, .str role] ∧ role ∈ roles4 ∧ Dt S H v d ∧ rowD (cdOf n) d = true ∧ ∀ H' p, Same H H' → H p = none → H' p = some (.lst ((namesD role d).map V.str)) → (namesD role d).length ≤ 8 → Q (.ref p) H'
theorem role_part {n : Nat} {part : PyData} {known role : Str} (h : fitD (cdOf n) part known = true) (hr : role ∈ roles4) (e : known = role) : isNameD part = true := by
  subst e
  have n1 : known ≠ "code" := fun z => by rw [z] at hr; exact absurd hr (by decide +kernel)
  have n2 : known ≠ "registers" := fun z => by rw [z] at hr; exact absurd hr (by decide +kernel)
  unfold fitD at h
  rw [if_neg n1, if_neg n2] at h
  exact h
theorem role_args {n : Nat} {part : PyData} {known : Str} (h : fitD (cdOf n) part known = true) (e : known = "registers") : argsD part = true := by
  subst e
  unfold fitD at h
  rw [if_neg (by decide +kernel), if_pos rfl] at h
  exact h
theorem nm_few {n : Nat} {part : PyData} {known role : Str} (h : fitD (cdOf n) part known = true) : (nmD role part known).length ≤ 2 := by
  unfold nmD
  split
  · exact Nat.le_succ _
  · split
    · rename_i z
      have q := role_args h z.1
      cases part with
      | tuple ds =>
        have q : (decide (ds.length ≤ 2) && ds.all isNameD) = true := q
        have := of_decide_eq_true (Bool.and_eq_true_iff.mp q).1
        show (ds.map strD).length ≤ 2
        rw [List.length_map]
        exact this
      | _ => cases q
    · exact Nat.zero_le _
theorem flat_few {α : Type} : ∀ {l : List (List α)} {k : Nat}, (∀ x ∈ l, x.length ≤ k) → l.flatten.length ≤ k * l.length
  | [], _, _ => Nat.zero_le _
  | x :: r, k, h => by
    have h1 := h x List.mem_cons_self
    have h2 := flat_few (l := r) fun y hy => h y (List.mem_cons_of_mem _ hy)
    rw [List.flatten_cons, List.length_append, List.length_cons, Nat.mul_succ]
    omega
section
variable {P : Program} {w : World} {K : PySem.W.Frag} {mg : Str → Option Value} {base : Heap} {f fC : Addr} {fd dC : FuncData}
theorem scNO : FnScope ["statement", "role", "found", "part", "known"] ["statement", "role"] (defScope sNamesOf) := ⟨rfl, rfl, rfl, by decide +kernel, rfl, by decide +kernel, by decide +kernel⟩
theorem ok_namesof (F : Fun K "_names_of" "_names_of" sNamesOf f fd) (TF : TxtF K w mg) : FnOk P w K mg base CX0 1 f fd ["statement", "role"] spNamesOf := by
  refine F.ok scNO (fun vs H Q E h => ?_) (fun cdv A outer s H vs Q E hr h => ?_)
  · obtain ⟨S, v, d, n, role, rfl, _⟩ := h
    rfl
  · obtain ⟨S, v, d, n, role, rfl, hrole, hd, row, q⟩ := h
    obtain ⟨fa, es, nn, gM, KD, hno, hyes⟩ := TF.forms
    refine ⟨_, pss_cons (ps_set (i := 2) scNO.nd rfl (Or.inl rfl) (pe_lst pa_nil))
      (pss_cons (ps_for PassesOwn.never rfl (RZ.pi_zipA (by rfl) TF.zip (pa_cons (pe_slice sl_tupA (pv 0) (po_some pe_int) po_none) (pa_cons (pe_ix ix_kdict (pe_glob (v := .ref fa) (by rfl) gM rfl) (pe_ix ix_tup (pv 0) pe_int (fun _ _ => rfl)) (fun _ _ => rfl)) pa_nil)))
          (pg_tup rfl (pgs_cons (pg_name (i := 3) scNO.nd rfl (Or.inl rfl)) (pgs_cons (pg_name (i := 4) scNO.nd rfl (Or.inl rfl)) pgs_nil)))
        (pss_one (ps_if (pt_cmpR op_eq (pv 4) (pv 1) (nomark _)) (pss_one (ps_expr (pe_bm PySem.F.plainAttrs_list PySem.F.slot_list_append PySem.F.type_list_append mt_append (pv 2) (pa_cons (pv 3) pa_nil))))
          (pss_one (ps_if (PW.pt (pw_and (pt_cmpR op_eq (pv 4) pe_str (nomark _)) (pw_and1 (pt_cmpR op_eq (pv 1) pe_str (nomark _))))) (pss_one (ps_expr (pe_bm PySem.F.plainAttrs_list PySem.F.slot_list_extend PySem.F.type_list_extend mt_extT (pv 2) (pa_cons (pv 3) pa_nil)))) pss_nil)))))
      (pss_one (ps_ret (pv 2)))), ?_⟩
    obtain ⟨w0, rest, rs, rfl, hf, hlen, fits⟩ := rowD_shape row
    obtain ⟨a, xr, rfl, ea, hl, hx⟩ := hd.row
    obtain ⟨pf, hnf, hsf⟩ := hyes w0 rs hf
    have eL : namesD role (.tuple (.str w0 :: rest)) = (List.zipWith (nmD role) rest rs).flatten := by
      show (match formOf w0 with | some rs => (List.zipWith (nmD role) rest rs).flatten | none => []) = _
      rw [hf]
    rw [eL] at q
    have xl := hx.length
    have rl := form_len hf
    have each : ∀ {i : Nat} {part : PyData} {r0 : Str}, rest[i]? = some part → rs[i]? = some r0 → fitD (cdOf n) part r0 = true := fun {i part r0} h1 h2 => by
      have e : (List.zipWith (fitD (cdOf n)) rest rs)[i]? = some (fitD (cdOf n) part r0) := by rw [List.getElem?_zipWith, h1, h2]
      exact List.all_eq_true.mp fits _ (List.mem_of_getElem? e)
    have few : (List.zipWith (nmD role) rest rs).flatten.length ≤ 8 := by
      refine Nat.le_trans (flat_few (k := 2) fun x hx => ?_) ?_
      · obtain ⟨i, hi⟩ := List.getElem?_of_mem hx
        rw [List.getElem?_zipWith] at hi
        cases h1 : rest[i]? with
        | none => rw [h1] at hi; cases hi
        | some part =>
          cases h2 : rs[i]? with
          | none => rw [h1, h2] at hi; cases hi
          | some r0 =>
            rw [h1, h2] at hi
            rw [← Option.some.inj hi]
            exact nm_few (each h1 h2)
      · rw [List.length_zipWith]
        omega
    generalize eLL : List.zipWith (nmD role) rest rs = L at q few eL
    refine ⟨(by show 0 ≤ sizeLine; decide), fun p hp => ?_⟩
    have s0 := same_upd (o := .lst []) hp
    refine ⟨_, rfl, 1, rfl, a, _, rfl, SqT.of (s0 _ _ ea), fun hw => absurd hw cut_part, fun _ pc hpc => ?_⟩
    rw [cut_tail]
    have s1 := s0.trans (same_upd (o := .tup xr) hpc)
    have ppc : p ≠ pc := fun z => by
      rw [← z, upd_same] at hpc
      cases hpc
    refine ⟨_, rfl, a, _, 0, _, rfl, rfl, SqT.of (s1 _ _ ea), at0, fa, w0, .ref pf, rfl, rfl, ⟨es, nn, _, KD.at_, KD.lit, hnf, rfl⟩, ?_⟩
    refine ⟨pc, pf, xr, rs.map V.str, rfl, .inr ⟨SqT.of upd_same, hsf _, for_zipT (by rw [List.length_map]; omega) (fun i σ G => (∃ x3 x4, σ = [some (.ref a), some (.str role), some (.ref p), x3, x4]) ∧ Same H G ∧ G pc = some (.tup xr) ∧ G p = some (.lst ((L.take i).flatten.map V.str)))
      ⟨⟨_, _, rfl⟩, s1, upd_same, by rw [upd_ne ppc]; exact upd_same⟩ (fun i σ G h => ⟨SqT.of h.2.2.1, hsf _⟩) (fun i x y T σ G hxi hyi h hT => ?_) (fun σ G h => ?_)⟩⟩
    · obtain ⟨⟨x3, x4, rfl⟩, s2, epc, ep⟩ := h
      obtain ⟨part, hpi, hpt⟩ := hx.get hxi
      rw [List.getElem?_map] at hyi
      obtain ⟨r0, hr0, rfl⟩ := Option.map_eq_some_iff.mp hyi
      have fit := each hpi hr0
      have eLi : L[i]? = some (nmD role part r0) := by rw [← eLL, List.getElem?_zipWith, hpi, hr0]
      have take : (L.take (i + 1)).flatten = (L.take i).flatten ++ nmD role part r0 := by
        rw [List.take_add_one, eLi, List.flatten_append]
        simp
      have sT := same_upd (o := .tup [x, .str r0]) hT
      have s3 := s2.trans sT
      have ep3 := sT _ _ ep
      have epc3 := sT _ _ epc
      have le : (L.take (i + 1)).flatten.length ≤ 8 := by
        refine Nat.le_trans ?_ few
        conv => rhs; rw [← List.take_append_drop (i + 1) L, List.flatten_append, List.length_append]
        exact Nat.le_add_right _ _
      rw [take, List.length_append] at le
      have line : (1000 : Nat) < sizeLine := by decide
      have lm : ((L.take i).flatten.map V.str).length = (L.take i).flatten.length := List.length_map _
      refine ⟨T, _, rfl, SqT.of upd_same, rfl, _, _, rfl, _, _, rfl, rfl, ?_⟩
      refine ⟨_, rfl, _, rfl, rfl, _, rfl, ite2 (fun h1 => ?_) (fun h1 => ?_)⟩
      · have e1 : r0 = role := V.str.inj (of_decide_eq_true h1)
        have nm := role_part fit hrole e1
        cases part with
        | str z =>
          obtain rfl : x = .str z := by
            cases hpt with
            | «at» a => cases a <;> rfl
          refine ⟨_, rfl, .inl ⟨rfl, _, SqL.of ep3⟩, _, rfl, p, _, .str z, rfl, rfl, ep3, by omega, ⟨_, _, rfl⟩, same_put hp s3, by rw [upd_ne (Ne.symm ppc)]; exact epc3, ?_⟩
          rw [upd_same, take, List.map_append]
          have : nmD role (.str z) r0 = [z] := if_pos e1
          rw [this]
          rfl
        | _ => cases nm
      · have n1 : r0 ≠ role := fun z => h1 (decide_eq_true (by rw [z]))
        have stay : nmD role part r0 = [] → (∃ x3' x4', [some (V.ref a), some (.str role), some (.ref p), some x, some (.str r0)] = [some (V.ref a), some (.str role), some (.ref p), x3', x4']) ∧ Same H (upd G T (.tup [x, .str r0])) ∧ (upd G T (.tup [x, .str r0])) pc = some (.tup xr) ∧ (upd G T (.tup [x, .str r0])) p = some (.lst ((L.take (i + 1)).flatten.map V.str)) := fun e => by
          refine ⟨⟨_, _, rfl⟩, s3, epc3, ?_⟩
          rw [take, e, List.append_nil]
          exact ep3
        refine ⟨_, rfl, rfl, _, rfl, ite2 (fun h2 => ?_) (fun h2 => ?_)⟩
        · have e2 : r0 = "registers" := V.str.inj (of_decide_eq_true h2)
          refine ⟨_, rfl, rfl, _, rfl, ite2 (fun h3 => ?_) (fun h3 => ?_)⟩
          · have e3 : role = "register" := V.str.inj (of_decide_eq_true h3)
            have ar := role_args fit e2
            cases part with
            | tuple ds =>
              have ar : (decide (ds.length ≤ 2) && ds.all isNameD) = true := ar
              obtain ⟨b, zs, rfl, eb, bl, hz⟩ := hpt.tup_of
              have ez := dt_names hz (Bool.and_eq_true_iff.mp ar).2
              have em : nmD role (.tuple ds) r0 = ds.map strD := by
                unfold nmD
                rw [if_neg n1, if_pos ⟨e2, e3⟩]
                rfl
              rw [em, List.length_map] at le
              have lz : zs.length = ds.length := hz.length
              refine ⟨_, rfl, .inl ⟨rfl, _, SqL.of ep3⟩, _, rfl, p, b, _, zs, rfl, rfl, ep3, SqT.of (s3 _ _ eb), by omega, ⟨_, _, rfl⟩, same_put hp s3, by rw [upd_ne (Ne.symm ppc)]; exact epc3, ?_⟩
              rw [upd_same, take, List.map_append, em, ez]
            | _ => cases ar
          · exact stay (by
              unfold nmD
              rw [if_neg n1, if_neg fun z => h3 (decide_eq_true (by rw [z.2]))])
        · exact iteF (stay (by
            unfold nmD
            rw [if_neg n1, if_neg fun z => h2 (decide_eq_true (by rw [z.1]))]))
    · obtain ⟨⟨x3, x4, rfl⟩, s2, epc, ep⟩ := h
      have lL : L.length = xr.length := by
        rw [← eLL, List.length_zipWith]
        omega
      rw [← lL, List.take_length] at ep
      exact ⟨_, rfl, q _ p s2 hp ep few⟩
end
end OM

namespace OM
open PySem PySem.Spec PyProof.Rows L2
theorem goes_list {K : PySem.W.Frag} {a : Addr} {xs : List V} {H0 : Hp} {Z : Hp → Prop} {step : V → Hp → (Hp → Prop) → Prop} (Pv : Nat → Hp → Prop) (h0 : Pv 0 H0) (hl : ∀ i H, Pv i H → SqL K H a xs) (hs : ∀ i x H, xs[i]? = some x → Pv i H → step x H (Pv (i + 1))) (hd : ∀ H, Pv xs.length H → Z H) :
    ∃ W : Nat → Nat → Hp → Prop, (∃ m, W 0 m H0) ∧ goes (Itl K a) W Z step := by
  refine ⟨fun i m H => m = xs.length - i ∧ i ≤ xs.length ∧ Pv i H, ⟨_, rfl, Nat.zero_le _, h0⟩, ?_⟩
  rintro i m H ⟨rfl, hi, p⟩
  have q := hl i H p
  rcases Nat.lt_or_ge i xs.length with hlt | hge
  · refine .inr ⟨⟨xs, xs[i], q, by simp [hlt]⟩, Pv (i + 1), fun H' p' => ⟨xs.length - (i + 1), by omega, rfl, hlt, p'⟩, fun x H' y => ?_⟩
    obtain ⟨rfl, y⟩ := y
    exact hs i x _ (y xs q) p
  · obtain rfl : i = xs.length := by omega
    exact .inl ⟨⟨xs, q, Nat.le_refl _⟩, hd H p⟩
theorem pi_listK {X : Cx} {K : PySem.W.Frag} {tg l : Expr} {tl : TE} (hK : X.K = K) (hl : PE X l tl) : PI X tg l (iList K tl) := by
  subst hK
  exact pi_list hl
theorem firsts_snoc (l : List Str) (z : Str) : firsts [] (l ++ [z]) = addX (firsts [] l) z := by
  unfold firsts
  rw [List.foldl_append]
  rfl
theorem flatMap_few {α β : Type} {f : α → List β} {k : Nat} : ∀ {l : List α}, (∀ x ∈ l, (f x).length ≤ k) → (l.flatMap f).length ≤ k * l.length
  | [], _ => Nat.zero_le _
  | x :: r, h => by
    have h1 := h x List.mem_cons_self
    have h2 := flatMap_few (l := r) fun y hy => h y (List.mem_cons_of_mem _ hy)
    rw [List.flatMap_cons, List.length_append, List.length_cons, Nat.mul_succ]
    omega
theorem names_few {n : Nat} {d : PyData} {role : Str} (row : rowD (cdOf n) d = true) : (namesD role d).length ≤ 8 := by
  obtain ⟨w0, rest, rs, rfl, hf, hlen, fits⟩ := rowD_shape row
  have eL : namesD role (.tuple (.str w0 :: rest)) = (List.zipWith (nmD role) rest rs).flatten := by
    show (match formOf w0 with | some rs => (List.zipWith (nmD role) rest rs).flatten | none => []) = _
    rw [hf]
  have rl := form_len hf
  rw [eL]
  refine Nat.le_trans (flat_few (k := 2) fun x hx => ?_) ?_
  · obtain ⟨i, hi⟩ := List.getElem?_of_mem hx
    rw [List.getElem?_zipWith] at hi
    cases h1 : rest[i]? with
    | none => rw [h1] at hi; cases hi
    | some part =>
      cases h2 : rs[i]? with
      | none => rw [h1, h2] at hi; cases hi
      | some r0 =>
        rw [h1, h2] at hi
        rw [← Option.some.inj hi]
        have e : (List.zipWith (fitD (cdOf n)) rest rs)[i]? = some (fitD (cdOf n) part r0) := by rw [List.getElem?_zipWith, h1, h2]
        exact nm_few (n := n) (List.all_eq_true.mp fits _ (List.mem_of_getElem? e))
  · rw [List.length_zipWith]
    omega
structure TxtS (mg : Str → Option Value) : Prop where
  sorted : mg "sorted" = none
  tuple : mg "tuple" = none
  sum : mg "sum" = none
  max : mg "max" = none
  len : mg "len" = none
def spNamesIn : Sp := fun vs H Q _ => ∃ (S : Addr → Prop) (v : V) (ds : List PyData) (role : Str), vs = [v, .str role] ∧ role ∈ roles4 ∧ Dt S H v (.tuple ds) ∧ ds.all (rowD (cdOf 3)) = true ∧ (flatN 3 ds).length ≤ 400 ∧ ∀ H' p ys, Same H H' → H p = none → H' p = some (.tup (ys.map V.str)) → ys.Perm (firsts [] ((flatN 3 ds).flatMap (namesD role))) → sortedS ys = true → Q (.ref p) H'
theorem rows_flatS {n : Nat} : ∀ {d : PyData}, rowD (cdOf n) d = true → ∀ e ∈ flatS n d, ∃ m, rowD (cdOf m) e = true := by
  induction n with
  | zero =>
    intro d row e he
    rw [List.mem_singleton.mp he]
    exact ⟨0, row⟩
  | succ n ih =>
    intro d row e he
    rcases List.mem_cons.mp he with rfl | he
    · exact ⟨n + 1, row⟩
    · obtain ⟨c, hc, he⟩ := List.mem_flatMap.mp he
      obtain ⟨d', hd', he⟩ := List.mem_flatMap.mp he
      obtain ⟨m, em, rows, _⟩ := row_in row hc
      obtain rfl : n = m := by omega
      exact ih (List.all_eq_true.mp rows d' hd') e he
section
variable {P : Program} {w : World} {K : PySem.W.Frag} {mg : Str → Option Value} {base : Heap} {f fC fF fO : Addr} {fd dC dF dO : FuncData}
/-- flattened, codes_in, _names_of as they stand -/
structure FlatF (K : PySem.W.Frag) (mg : Str → Option Value) (fF fC fO : Addr) (dF dC dO : FuncData) : Prop where
  FF : Fun K "flattened" "flattened" sFlat fF dF
  FC : Fun K "codes_in" "codes_in" sCin fC dC
  FO : Fun K "_names_of" "_names_of" sNamesOf fO dO
  gF : mg "flattened" = some (.ref fF)
  gC : mg "codes_in" = some (.ref fC)
  gO : mg "_names_of" = some (.ref fO)
  bF : Binds K dF ["code"] []
  bC : Binds K dC ["statement"] []
  bO : Binds K dO ["statement", "role"] []
theorem ok_flat (C : FlatF K mg fF fC fO dF dC dO) : ∀ n, FnOk P w K mg base CX0 (n + 1) fF dF ["code"] (spFlatAt n)
  | 0 => ⟨fun _ _ _ _ h => h.elim, fun _ _ _ _ _ _ _ _ _ _ _ _ _ h => h.elim⟩
  | n + 1 => flat_step C.FF C.gF C.bF (ok_flat C n) C.FC C.gC C.bC
theorem scNI : FnScope ["code", "role", "name", "statement"] ["code", "role"] (defScope sNamesIn) := ⟨rfl, rfl, rfl, by decide +kernel, rfl, by decide +kernel, by decide +kernel⟩
theorem ok_namesin (F : Fun K "names_in" "names_in" sNamesIn f fd) (TF : TxtF K w mg) (TS : TxtS mg) (C : FlatF K mg fF fC fO dF dC dO) : FnOk P w K mg base CX0 6 f fd ["code", "role"] spNamesIn := by
  have GF : FnOk P w K mg base CX0 5 fF dF ["code"] (spFlatAt 4) := ok_flat C 4
  have GO : FnOk P w K mg base CX0 1 fO dO ["statement", "role"] spNamesOf := ok_namesof C.FO TF
  refine F.ok scNI (fun vs H Q E h => ?_) (fun cdv A outer s H vs Q E hr h => ?_)
  · obtain ⟨S, v, ds, role, rfl, _⟩ := h
    rfl
  · obtain ⟨S, v, ds, role, rfl, hrole, hd, rows, size, q⟩ := h
    refine ⟨_, pss_one (ps_ret (pe_callTy call_tuple_of (by rfl) TS.tuple (by decide +kernel) (pa_cons (pe_callB (cr_sortX rfl) (by rfl) TS.sorted (by decide +kernel) (pa_cons (pe_sx2 (own := [("name", 2), ("statement", 3)]) (vs1 := [2]) rfl scNI.nd
      (pi_list (pe_call GF hr (by rfl) C.gF C.FF.kp C.bF .nil pass0 (pa_cons (pv 0) pa_nil))) (blkOk_by (N := ["code", "role", "name", "statement"]) (sc := defScope sNamesIn) (by decide +kernel)) (by simp)
      (fun _ _ _ _ _ => pg_name (i := 3) scNI.nd rfl (Or.inl rfl)) (fun _ _ _ _ _ => pts_nil)
      (fun _ _ _ _ _ => pi_listK (K := K) rfl (pe_call GO (hr.mono (by decide)) (by rfl) C.gO C.FO.kp C.bO .nil pass0 (pa_cons (pv 3) (pa_cons (pv 1) pa_nil)))) (fun _ _ _ _ _ => pg_name (i := 2) scNI.nd rfl (Or.inl rfl)) (fun _ _ _ _ _ => pts_nil)
      (fun _ _ _ _ _ => pv 2)) pa_nil)) pa_nil))), ?_⟩
    have live : ∀ b, (S b ∧ H b ≠ none) → H b ≠ none := fun b z => z.2
    refine ⟨_, rfl, _, v, ds, rfl, hd.live, rows, Nat.le_trans size (by decide), fun H1 pl xs s1 hpl epl dl => ⟨pl, rfl, ⟨xs, SqL.of epl⟩, fun D hD => goes_list (xs := xs) (fun i H' => Same H1 H' ∧ H' D = some (SetTO w D (firsts [] (((flatN 3 ds).take i).flatMap (namesD role))))) ⟨same_upd hD, upd_same⟩ (fun i H' h => SqL.of (h.1 _ _ epl)) (fun i x H' hx h => ?_) (fun H' h => ?_)⟩⟩
    · obtain ⟨s2, eD⟩ := h
      obtain ⟨d, hdi, hdt⟩ := dl.get hx
      obtain ⟨d0, hd0, hmem⟩ := List.mem_flatMap.mp (List.mem_of_getElem? hdi)
      obtain ⟨m, row⟩ := rows_flatS (List.all_eq_true.mp rows d0 hd0) d hmem
      have take : ((flatN 3 ds).take (i + 1)).flatMap (namesD role) = ((flatN 3 ds).take i).flatMap (namesD role) ++ namesD role d := by
        rw [List.take_add_one, hdi, List.flatMap_append]
        simp
      refine ⟨rfl, _, rfl, _, rfl, _, x, d, m, role, rfl, hrole, hdt.base live s1 (s1.trans s2), row, fun H3 pn s3 hpn epn few => ⟨pn, rfl, ⟨_, SqL.of epn⟩, goes_list (xs := (namesD role d).map V.str) (fun j H4 => Same H1 H4 ∧ H4 pn = some (.lst ((namesD role d).map V.str)) ∧ H4 D = some (SetTO w D (firsts [] (((flatN 3 ds).take i).flatMap (namesD role) ++ (namesD role d).take j)))) ⟨s2.trans s3, epn, by rw [List.take_zero, List.append_nil]; exact s3 _ _ eD⟩ (fun j H4 h => SqL.of h.2.1) (fun j y H4 hy h => ?_) (fun H4 h => ?_)⟩⟩
      · obtain ⟨s4, en4, eD4⟩ := h
        rw [List.getElem?_map] at hy
        obtain ⟨z, hz, rfl⟩ := Option.map_eq_some_iff.mp hy
        refine ⟨rfl, _, rfl, z, _, rfl, eD4, ?_, same_put hD s4, ?_, ?_⟩
        · have l1 := len_firsts (((flatN 3 ds).take i).flatMap (namesD role) ++ (namesD role d).take j) []
          have l2 : (((flatN 3 ds).take i).flatMap (namesD role)).length ≤ 8 * ((flatN 3 ds).take i).length := flatMap_few fun e he => by
            obtain ⟨d1, hd1, hm1⟩ := List.mem_flatMap.mp (List.mem_of_mem_take he)
            obtain ⟨m1, row1⟩ := rows_flatS (List.all_eq_true.mp rows d1 hd1) e hm1
            exact names_few row1
          have l3 : ((flatN 3 ds).take i).length ≤ (flatN 3 ds).length := List.length_take_le' _ _
          have l4 : ((namesD role d).take j).length ≤ (namesD role d).length := List.length_take_le' _ _
          have l5 : scanBound = 4096 := rfl
          rw [List.length_append] at l1
          simp only [List.length_nil] at l1
          omega
        · rw [upd_ne (fun z => by rw [z, eD4] at en4; cases en4)]
          exact en4
        · rw [upd_same, List.take_add_one, hz, ← List.append_assoc]
          show _ = some (SetTO w D (firsts [] (_ ++ [z])))
          rw [firsts_snoc]
          rfl
      · obtain ⟨s4, en4, eD4⟩ := h
        refine ⟨s4, ?_⟩
        rw [List.length_map, List.take_length, ← take] at eD4
        exact eD4
    · obtain ⟨s2, eD⟩ := h
      rw [dl.length, List.take_length] at eD
      refine ⟨D, _, rfl, eD, fun ys p3 pm so hp3 => ⟨p3, _, rfl, .inl ⟨SqL.of upd_same, fun p4 hp4 => ?_⟩⟩⟩
      have s3 := (s1.trans s2).trans (same_upd (o := .lst (ys.map V.str)) hp3)
      exact q _ p4 ys (s3.trans (same_upd hp4)) (s3.free hp4) upd_same pm so
end
end OM

namespace OM
open PySem PySem.Spec PyProof.Rows L2
abbrev sMost : Stmt := top 26
abbrev sMostAt : Stmt := top 27
abbrev sKind : Stmt := top 28
/-- what a statement counts as on a path -/
def kindD : PyData → Str
  | .tuple (.str w :: rest) => if w = "get" ∨ w = "put" then "letter" else if w = "set" then (match rest with | [_, _, .tuple []] => "constant" | _ => "set") else w
  | _ => ""
def ownD (k : Str) (d : PyData) : Nat := if kindD d = k then 1 else 0
def maxL : List Nat → Nat
  | [] => 0
  | x :: r => max x (maxL r)
def mostS : Nat → Str → PyData → Nat
  | 0, k, d => ownD k d
  | n + 1, k, d => ownD k d + maxL ((inner2 d).map fun c => (c.map (mostS n k)).sum)
def mostN (n : Nat) (k : Str) (ds : List PyData) : Nat := (ds.map (mostS n k)).sum
theorem inV_two (x a b : Str) : inV (.str x) [.str a, .str b] = true ↔ x = a ∨ x = b := by
  have h : ∀ y : Str, (y == x) = decide (x = y) := fun y => by
    rw [Bool.eq_iff_iff, beq_iff_eq, decide_eq_true_iff, eq_comm]
  unfold inV
  simp only [List.any_cons, List.any_nil, eqV, h, Bool.or_false, Bool.or_eq_true, decide_eq_true_iff]
def spKind : Sp := fun vs H Q _ => ∃ (S : Addr → Prop) (v : V) (d : PyData) (n : Nat), vs = [v] ∧ Dt S H v d ∧ rowD (cdOf n) d = true ∧ ∀ H', Same H H' → Q (.str (kindD d)) H'
def spMostAt (n : Nat) : Sp := fun vs H Q _ => ∃ (S : Addr → Prop) (v : V) (d : PyData) (k : Str), vs = [v, .str k] ∧ Dt S H v d ∧ rowD (cdOf n) d = true ∧ ∀ H', Same H H' → Q (.int (mostS n k d)) H'
def spMost : Nat → Sp
  | 0 => fun _ _ _ _ => False
  | n + 1 => fun vs H Q _ => ∃ (S : Addr → Prop) (v : V) (ds : List PyData) (k : Str), vs = [v, .str k] ∧ Dt S H v (.tuple ds) ∧ ds.all (rowD (cdOf n)) = true ∧ ∀ H', Same H H' → Q (.int (mostN n k ds)) H'
section
variable {P : Program} {w : World} {K : PySem.W.Frag} {mg : Str → Option Value} {base : Heap} {f fC fK fA : Addr} {fd dC dK dA : FuncData}
theorem scKd : FnScope ["statement"] ["statement"] (defScope sKind) := ⟨rfl, rfl, rfl, by decide +kernel, rfl, by decide +kernel, by decide +kernel⟩
theorem ok_kind (F : Fun K "_path_kind" "_path_kind" sKind f fd) : FnOk P w K mg base CX0 1 f fd ["statement"] spKind := by
  refine F.ok scKd (fun vs H Q E h => ?_) (fun cdv A outer s H vs Q E hr h => ?_)
  · obtain ⟨S, v, d, n, rfl, _⟩ := h
    rfl
  · obtain ⟨S, v, d, n, rfl, hd, row, q⟩ := h
    refine ⟨_, pss_cons (ps_if (pt_cmpR op_in_seq (pe_ix ix_tup (pv 0) pe_int (fun _ _ => rfl)) (pe_tup (pa_cons pe_str (pa_cons pe_str pa_nil))) (by rfl)) (pss_one (ps_ret pe_str)) pss_nil)
      (pss_cons (ps_if (pt_cmpR op_eq (pe_ix ix_tup (pv 0) pe_int (fun _ _ => rfl)) pe_str (nomark _)) (pss_one (ps_ret (pe_ifExp (pt_truth (pe_ix ix_tup (pv 0) pe_int (fun _ _ => rfl)) (by intro _; rfl)) pe_str pe_str))) pss_nil)
      (pss_one (ps_ret (pe_ix ix_tup (pv 0) pe_int (fun _ _ => rfl))))), ?_⟩
    obtain ⟨w0, rest, rs, rfl, hf, hlen, fits⟩ := rowD_shape row
    obtain ⟨a, xr, rfl, ea, hl, hx⟩ := hd.row
    refine ⟨_, rfl, a, _, 0, _, rfl, rfl, SqT.of ea, at0, (by show 2 ≤ sizeLine; decide), fun pt hpt => ?_⟩
    have s1 := same_upd (o := .tup [.str "get", .str "put"]) hpt
    refine ⟨pt, _, rfl, .inr (SqT.of upd_same), rfl, by decide, _, rfl, ite2 (fun h1 => ?_) (fun h1 => ?_)⟩
    · have e : kindD (.tuple (.str w0 :: rest)) = "letter" := if_pos ((inV_two _ _ _).mp h1)
      have z := q _ s1
      rw [e] at z
      exact z
    · have n1 : ¬ (w0 = "get" ∨ w0 = "put") := fun z => h1 ((inV_two _ _ _).mpr z)
      refine ⟨_, rfl, a, _, 0, _, rfl, rfl, SqT.of (s1 _ _ ea), at0, rfl, _, rfl, ite2 (fun h2 => ?_) (fun h2 => ?_)⟩
      · obtain rfl : w0 = "set" := V.str.inj (of_decide_eq_true h2)
        have e4 : formOf "set" = some (["register", "function", "registers"] : List Str) := by decide +kernel
        rw [e4] at hf
        obtain rfl := (Option.some.inj hf).symm
        match rest, hlen with
        | [d1, d2, d3], _ =>
          rw [row_set] at row
          simp only [Bool.and_eq_true, and_true] at row
          obtain ⟨_, _, ar⟩ := row
          cases d3 with
          | tuple ds =>
            cases hx with
            | @cons x1 _ _ _ k1 hx =>
              cases hx with
              | @cons x2 _ _ _ k2 hx =>
                cases hx with
                | @cons x3 _ _ _ k3 hx =>
                  cases hx
                  obtain ⟨b, zs, rfl, eb, bl, hz⟩ := k3.tup_of
                  have lz := hz.length
                  refine ⟨_, rfl, a, _, 3, .ref b, rfl, rfl, SqT.of (s1 _ _ ea), rfl, !zs.isEmpty, .inr (.inl ⟨zs, SqT.of (s1 _ _ eb), rfl⟩), ?_⟩
                  cases hz with
                  | nil => exact iteF (q _ s1)
                  | cons _ _ => exact iteT (q _ s1)
          | _ => cases ar
      · have n2 : w0 ≠ "set" := fun z => h2 (decide_eq_true (by rw [z]))
        have e : kindD (.tuple (.str w0 :: rest)) = w0 := by
          show (if _ then _ else _) = _
          rw [if_neg n1, if_neg n2]
        have z := q _ s1
        rw [e] at z
        exact ⟨_, rfl, a, _, 0, _, rfl, rfl, SqT.of (s1 _ _ ea), at0, z⟩
theorem scMA : FnScope ["statement", "kind", "own", "inner"] ["statement", "kind"] (defScope sMostAt) := ⟨rfl, rfl, rfl, by decide +kernel, rfl, by decide +kernel, by decide +kernel⟩
theorem scMo : FnScope ["code", "kind", "statement"] ["code", "kind"] (defScope sMost) := ⟨rfl, rfl, rfl, by decide +kernel, rfl, by decide +kernel, by decide +kernel⟩
/-- a list of numbers that grows -/
def PvI (H : Hp) (D : Addr) (bs : List Nat) (i : Nat) (H' : Hp) : Prop := Same H H' ∧ H' D = some (.lst ((bs.take i).map fun n : Nat => V.int (n : Int)))
theorem PvI.step {H H3 H4 : Hp} {D : Addr} {bs : List Nat} {i b : Nat} (hD : H D = none) (hl : bs.length ≤ 1000) (hb : bs[i]? = some b) (p : PvI H D bs i H3) (s : Same H3 H4) : ∃ acc, H4 D = some (.lst acc) ∧ acc.length < sizeLine ∧ PvI H D bs (i + 1) (upd H4 D (.lst (acc ++ [V.int (b : Int)]))) := by
  refine ⟨_, s _ _ p.2, ?_, same_put hD (p.1.trans s), ?_⟩
  · rw [List.length_map, List.length_take]
    have : (1000 : Nat) < sizeLine := by decide
    omega
  · rw [upd_same, List.take_add_one, hb, List.map_append]
    rfl
theorem PvI.all {H H5 : Hp} {D : Addr} {bs : List Nat} {n : Nat} (p : PvI H D bs n H5) (hn : n = bs.length) : Same H H5 ∧ H5 D = some (.lst ((bs.map fun n : Nat => (n : Int)).map V.int)) := by
  have e := p.2
  rw [hn, List.take_length] at e
  rw [List.map_map]
  exact ⟨p.1, e⟩
theorem sum_nat (bs : List Nat) : (bs.map fun n : Nat => (n : Int)).sum = ((bs.sum : Nat) : Int) := by
  induction bs with
  | nil => rfl
  | cons b r ih =>
    rw [List.map_cons, List.sum_cons, List.sum_cons, ih]
    omega
theorem maxL_of (bs : List Nat) {m : Int} (h : m ∈ (bs.map fun n : Nat => (n : Int))) (hm : ∀ y ∈ (bs.map fun n : Nat => (n : Int)), y ≤ m) : m = ((maxL bs : Nat) : Int) := by
  have le : ∀ bs : List Nat, ∀ b ∈ bs, b ≤ maxL bs := fun bs => by
    induction bs with
    | nil => intro b h; cases h
    | cons x r ih =>
      intro b h
      show b ≤ max x (maxL r)
      rcases List.mem_cons.mp h with rfl | h
      · omega
      · have := ih b h
        omega
  have mem : ∀ bs : List Nat, bs ≠ [] → maxL bs ∈ bs := fun bs => by
    induction bs with
    | nil => intro h; exact absurd rfl h
    | cons x r ih =>
      intro _
      show max x (maxL r) ∈ x :: r
      cases r with
      | nil =>
        show max x 0 ∈ [x]
        rw [Nat.max_zero]
        exact List.mem_cons_self
      | cons y r =>
        have := ih (by simp)
        rcases Nat.le_total x (maxL (y :: r)) with h | h
        · rw [Nat.max_eq_right h]
          exact List.mem_cons_of_mem _ this
        · rw [Nat.max_eq_left h]
          exact List.mem_cons_self
  obtain ⟨b, hb, rfl⟩ := List.mem_map.mp h
  have h1 := le bs b hb
  have h2 := hm _ (List.mem_map.mpr ⟨maxL bs, mem bs (fun z => by rw [z] at hb; cases hb), rfl⟩)
  omega
theorem mostS_row {n : Nat} {k : Str} {d : PyData} (row : rowD (cdOf n) d = true) : mostS n k d = ownD k d + maxL ((inner2 d).map fun c => (c.map (mostS (n - 1) k)).sum) := by
  cases n with
  | succ m => rfl
  | zero =>
    rcases row_iff row with ⟨m, _, _, _, _, e, _⟩ | ⟨_, _, _, _, e⟩
    · cases e
    · rw [e]
      rfl
theorem most_step {n j : Nat} (F : Fun K "most_on_path" "most_on_path" sMost f fd) (TS : TxtS mg) (gA : mg "_most_at" = some (.ref fA)) (kA : PySem.W.keepIn K (.ref fA) = true) (bA : Binds K dA ["statement", "kind"] []) (GA : FnOk P w K mg base CX0 j fA dA ["statement", "kind"] (spMostAt n)) :
    FnOk P w K mg base CX0 (j + 1) f fd ["code", "kind"] (spMost (n + 1)) := by
  refine F.ok scMo (fun vs H Q E h => ?_) (fun cdv A outer s H vs Q E hr h => ?_)
  · obtain ⟨S, v, ds, k, rfl, _⟩ := h
    rfl
  · obtain ⟨S, v, ds, k, rfl, hd, rows, q⟩ := h
    refine ⟨_, pss_one (ps_ret (pe_callB (cr_sum rfl) (by rfl) TS.sum (by decide +kernel) (pa_cons (pe_lc (own := [("statement", 2)]) rfl scMo.nd (pi_tup (pv 0)) (blkOk_by (N := ["code", "kind", "statement"]) (sc := defScope sMost) (by decide +kernel))
      (fun _ _ _ _ _ => pg_name (i := 2) scMo.nd rfl (Or.inl rfl)) (fun _ _ _ _ _ => pts_nil) (fun _ _ _ _ _ => pe_call GA hr (by rfl) gA kA bA .nil pass0 (pa_cons (pv 2) (pa_cons (pv 1) pa_nil)))) pa_nil))), ?_⟩
    obtain ⟨a, xs, rfl, ea, hl, hx⟩ := hd.live.tup_of
    have live : ∀ b, (S b ∧ H b ≠ none) → H b ≠ none := fun b z => z.2
    refine ⟨_, rfl, a, rfl, ⟨xs, SqT.of ea⟩, fun Dl hD => lc_tup (PvI H Dl (ds.map (mostS n k))) ⟨same_upd hD, upd_same⟩ (fun i H' _ p => SqT.of (p.1 _ _ ea)) (fun i x H3 hi p => ?_) (fun H5 p => ?_)⟩
    · obtain ⟨d, hdi, hdt⟩ := hx.get hi
      have := hx.length
      refine ⟨rfl, _, rfl, _, rfl, _, x, d, k, rfl, hdt.base live (Same.refl H) p.1, List.all_eq_true.mp rows d (List.mem_of_getElem? hdi), fun H4 s4 => p.step hD (by rw [List.length_map]; omega) (by rw [List.getElem?_map, hdi]; rfl) s4⟩
    · obtain ⟨s5, e5⟩ := p.all (by rw [List.length_map]; exact hx.length)
      refine ⟨Dl, _, rfl, SqL.of e5, ?_⟩
      have z := q _ s5
      rw [sum_nat]
      exact z
theorem mostat_ok {n j : Nat} (F : Fun K "_most_at" "_most_at" sMostAt fA dA) (TS : TxtS mg) (gM : mg "most_on_path" = some (.ref f)) (kM : PySem.W.keepIn K (.ref f) = true) (bM : Binds K fd ["code", "kind"] []) (GM : FnOk P w K mg base CX0 (j + 1) f fd ["code", "kind"] (spMost n))
    (FC : Fun K "codes_in" "codes_in" sCin fC dC) (gC : mg "codes_in" = some (.ref fC)) (bC : Binds K dC ["statement"] []) (FK : Fun K "_path_kind" "_path_kind" sKind fK dK) (gK : mg "_path_kind" = some (.ref fK)) (bK : Binds K dK ["statement"] []) :
    FnOk P w K mg base CX0 (j + 2) fA dA ["statement", "kind"] (spMostAt n) := by
  have GC : FnOk P w K mg base CX0 1 fC dC ["statement"] spCin := ok_cin FC
  have GK : FnOk P w K mg base CX0 1 fK dK ["statement"] spKind := ok_kind FK
  refine F.ok scMA (fun vs H Q E h => ?_) (fun cdv A outer s H vs Q E hr h => ?_)
  · obtain ⟨S, v, d, k, rfl, _⟩ := h
    rfl
  · obtain ⟨S, v, d, k, rfl, hd, row, q⟩ := h
    have hu : (A.deeper (envOfC "_most_at" (defScope sMostAt) s.heap.objs.size fA cdv)).units + 1 < cLine := by
      have := hr.un
      omega
    refine ⟨_, pss_cons (ps_set (i := 2) scMA.nd rfl (Or.inl rfl) (pe_ifExp (pt_cmpR op_eq (pe_call GK (hr.mono (by omega)) (by rfl) gK FK.kp bK .nil pass0 (pa_cons (pv 0) pa_nil)) (pv 1) (nomark _)) pe_int pe_int))
      (pss_one (ps_ret (pe_op op_add (pv 2) (pe_callBK (cr_maxDef rfl hu) (by rfl) TS.max (by decide +kernel) (pa_cons (pe_lc (own := [("inner", 3)]) rfl scMA.nd (pi_tup (pe_call GC (hr.mono (by omega)) (by rfl) gC FC.kp bC .nil pass0 (pa_cons (pv 0) pa_nil))) (blkOk_by (N := ["statement", "kind", "own", "inner"]) (sc := defScope sMostAt) (by decide +kernel))
        (fun _ _ _ _ _ => pg_name (i := 3) scMA.nd rfl (Or.inl rfl)) (fun _ _ _ _ _ => pts_nil) (fun _ _ _ _ _ => pe_call GM hr (by rfl) gM kM bM .nil pass0 (pa_cons (pv 3) (pa_cons (pv 1) pa_nil)))) pa_nil) (pk_cons pe_int pk_nil))))), ?_⟩
    have live : ∀ b, (S b ∧ H b ≠ none) → H b ≠ none := fun b z => z.2
    refine ⟨_, rfl, S, v, d, n, rfl, hd, row, fun H1 s1 => ⟨_, rfl, rfl, _, rfl, ite2 (fun h1 => ?_) (fun h1 => ?_)⟩⟩
    all_goals
      refine ⟨_, rfl, _, rfl, _, v, d, n, rfl, hd.live.base live (Same.refl H) s1, row, fun H3 pc cs s3 hpc epc dc => ⟨pc, rfl, ⟨cs, SqT.of epc⟩, fun Dl hD => lc_tup (PvI H3 Dl ((inner2 d).map fun c => (c.map (mostS (n - 1) k)).sum)) ⟨same_upd hD, upd_same⟩ (fun i H' _ p => SqT.of (p.1 _ _ epc)) (fun i x H4 hi p => ?_) (fun H5 p => ?_)⟩⟩
      · obtain ⟨cdt, hcd, hct⟩ := dc.get hi
        rw [List.getElem?_map] at hcd
        obtain ⟨cd, hc2, rfl⟩ := Option.map_eq_some_iff.mp hcd
        obtain ⟨m, rfl, rows', _⟩ := row_in row (List.mem_of_getElem? hc2)
        have two : (inner2 d).length ≤ 2 := by
          rcases row_iff row with ⟨_, _, _, _, _, _, rfl, _⟩ | ⟨_, _, _, _, e⟩
          · exact Nat.le_refl 2
          · rw [e]
            exact Nat.zero_le _
        refine ⟨rfl, _, rfl, _, rfl, _, x, cd, k, rfl, hct.base live (s1.trans s3) ((s1.trans s3).trans p.1), rows', fun H6 s6 => p.step (b := mostN m k cd) hD (by rw [List.length_map]; omega) (by rw [List.getElem?_map, hc2]; rfl) s6⟩
      · obtain ⟨s5, e5⟩ := p.all (by rw [List.length_map, dc.length, List.length_map])
        have fin : ∀ M : Nat, M = maxL ((inner2 d).map fun c => (c.map (mostS (n - 1) k)).sum) → Q (.int (((ownD k d : Nat) : Int) + (M : Int))) H5 := fun M e => by
          have z := q _ ((s1.trans s3).trans s5)
          rw [mostS_row row, ← e, Int.natCast_add] at z
          exact z
        first
          | (have eo : ((ownD k d : Nat) : Int) = 1 := by
              unfold ownD
              rw [if_pos (V.str.inj (of_decide_eq_true h1))]
              rfl)
          | (have eo : ((ownD k d : Nat) : Int) = 0 := by
              unfold ownD
              rw [if_neg fun z => h1 (decide_eq_true (by rw [z]))]
              rfl)
        rw [eo] at fin
        refine ⟨Dl, _, 0, rfl, rfl, SqL.of e5, fun e => ⟨_, _, rfl, rfl, ?_⟩, fun M hM hle => ⟨_, _, rfl, rfl, ?_⟩⟩
        · have e0 : (inner2 d).map (fun c => (c.map (mostS (n - 1) k)).sum) = [] := List.map_eq_nil_iff.mp e
          exact fin 0 (by rw [e0]; rfl)
        · rw [maxL_of _ hM hle]
          exact fin _ rfl
end
end OM

namespace OM
open PySem PySem.Spec PyProof.Rows L2
abbrev sIsSet : Stmt := top 15
abbrev sKept : Stmt := top 41
abbrev sBounded : Stmt := top 40
def ltS (a b : Str) : Bool := decide (a.cps.toList < b.cps.toList)
/-- a set of names: ascending -/
def setD : PyData → Bool
  | .tuple ds => ds.all isNameD && (List.zipWith ltS (ds.map strD) (ds.map strD).tail).all id
  | _ => false
def keptD : PyData → Bool
  | .tuple ds => setD (.tuple ds) && decide (ds.length ≤ 4)
  | _ => false
def spSet : Sp := fun vs H Q _ => ∃ (S : Addr → Prop) (v : V) (d : PyData), vs = [v] ∧ Dt S H v d ∧ smlD d = true ∧ ∀ H', Same H H' → Q (.bl (setD d)) H'
def spKept : Sp := fun vs H Q _ => ∃ (S : Addr → Prop) (v : V) (d : PyData), vs = [v] ∧ Dt S H v d ∧ smlD d = true ∧ ∀ H', Same H H' → Q (.bl (keptD d)) H'
/-- over two tuples side by side, the second one shorter -/
theorem lc_zipS {K : PySem.W.Frag} {a b : Addr} {xs ys : List V} {g : TG} {tt : TT} {te : TE} {vs : List Nat} {σ : L2.St} {H1 : Hp} {D : Addr} {Qd : Hp → Prop} (hlen : ys.length ≤ xs.length) (Pv : Nat → Hp → Prop) (h0 : Pv 0 (upd H1 D (.lst []))) (hl : ∀ i H, Pv i H → SqT K H a xs ∧ SqT K H b ys)
    (hs : ∀ i x y T H, xs[i]? = some x → ys[i]? = some y → Pv i H → H T = none → g (.ref T) (wipe σ vs) (upd H T (.tup [x, y])) fun σ2 H2 => wipe σ2 vs = wipe σ vs ∧ tt σ2 H2 fun b H3 =>
      if b = true then te σ2 H3 fun y H4 => ∃ acc, H4 D = some (.lst acc) ∧ acc.length < sizeLine ∧ Pv (i + 1) (upd H4 D (.lst (acc ++ [y]))) else Pv (i + 1) H3) (hd : ∀ H, Pv ys.length H → Qd H) :
    ∃ W : Nat → Nat → Hp → Prop, (∃ m, W 0 m (upd H1 D (.lst []))) ∧ ∀ i m H, W i m H →
      ((RZ.ItzT K a b).stop i H ∧ Qd H) ∨ ((RZ.ItzT K a b).go i H ∧ ∃ Nx : Hp → Prop, (∀ H', Nx H' → ∃ m', m' < m ∧ W (i + 1) m' H') ∧ ∀ v H', (RZ.ItzT K a b).yld i H v H' → g v (wipe σ vs) H' fun σ2 H2 => wipe σ2 vs = wipe σ vs ∧ tt σ2 H2 fun b H3 =>
        if b = true then te σ2 H3 fun y H4 => ∃ acc, H4 D = some (.lst acc) ∧ acc.length < sizeLine ∧ Nx (upd H4 D (.lst (acc ++ [y]))) else Nx H3) := by
  refine ⟨fun i m H => i ≤ ys.length ∧ m = ys.length - i ∧ Pv i H, ⟨_, Nat.zero_le _, rfl, h0⟩, ?_⟩
  rintro i m H ⟨hi, rfl, p⟩
  obtain ⟨qx, qy⟩ := hl i H p
  rcases Nat.lt_or_ge i ys.length with hlt | hge
  · have hx : xs[i]? = some (xs[i]'(by omega)) := List.getElem?_eq_getElem (by omega)
    have hy : ys[i]? = some ys[i] := List.getElem?_eq_getElem hlt
    refine .inr ⟨⟨xs, ys, _, _, qx, qy, hx, hy⟩, Pv (i + 1), fun H' p' => ⟨ys.length - (i + 1), by omega, hlt, rfl, p'⟩, ?_⟩
    rintro v H' ⟨T, x', y', rfl, hT, rfl, f1, f2⟩
    exact hs i x' y' T H (f1 xs qx) (f2 ys qy) p hT
  · obtain rfl : i = ys.length := by omega
    exact .inl ⟨⟨xs, ys, qx, qy, .inr (Nat.le_refl _)⟩, hd H p⟩
theorem zipWith_idx {α β γ : Type} {f : α → β → γ} {l : List α} {r : List β} {i : Nat} {x : α} {y : β} (h1 : l[i]? = some x) (h2 : r[i]? = some y) : (List.zipWith f l r)[i]? = some (f x y) := by
  rw [List.getElem?_zipWith, h1, h2]
theorem tail_strs (ls : List Str) : (ls.map V.str).tail = ls.tail.map V.str := by cases ls <;> rfl
section
variable {P : Program} {w : World} {K : PySem.W.Frag} {mg : Str → Option Value} {base : Heap} {f fI fS : Addr} {fd dI dS : FuncData}
theorem scSet : FnScope ["value", "name", "after"] ["value"] (defScope sIsSet) := ⟨rfl, rfl, rfl, by decide +kernel, rfl, by decide +kernel, by decide +kernel⟩
theorem ok_isset (F : Fun K "is_set" "is_set" sIsSet f fd) (T : TxtN K mg) (TF : TxtF K w mg) (gI : mg "is_name" = some (.ref fI)) (FI : Fun K "is_name" "is_name" sIsName fI dI) (bI : Binds K dI ["value"] []) : FnOk P w K mg base CX0 2 f fd ["value"] spSet := by
  have GI : FnOk P w K mg base CX0 1 fI dI ["value"] spName := ok_isname FI T
  refine F.ok scSet (fun vs H Q E h => ?_) (fun cdv A outer s H vs Q E hr h => ?_)
  · obtain ⟨S, v, d, rfl, _⟩ := h
    rfl
  · obtain ⟨S, v, d, rfl, hd, sm, q⟩ := h
    refine ⟨_, pss_one (ps_ret (pe_and (pe_callB call_isi (by rfl) T.isi (by decide +kernel) (pa_cons (pv 0) (pa_cons (pe_bltn (v := .ty "tuple") (u := .type "tuple") (by rfl) TF.tup (by decide +kernel) rfl) pa_nil)))
      (pe_and (pe_callB (cr_all rfl) (by rfl) T.all (by decide +kernel) (pa_cons (pe_lc (own := [("name", 1)]) rfl scSet.nd (pi_tup (pv 0)) (blkOk_by (N := ["value", "name", "after"]) (sc := defScope sIsSet) (by decide +kernel))
            (fun _ _ _ _ _ => pg_name (i := 1) scSet.nd rfl (Or.inl rfl)) (fun _ _ _ _ _ => pts_nil) (fun _ _ _ _ _ => pe_call GI hr (by rfl) gI FI.kp bI .nil pass0 (pa_cons (pv 1) pa_nil))) pa_nil))
      (pe_one (pe_callB (cr_all rfl) (by rfl) T.all (by decide +kernel) (pa_cons (pe_lc (g := gTup K 2 (gCons (gName 1) (gCons (gName 2) gNil))) (own := [("name", 1), ("after", 2)]) rfl scSet.nd (RZ.pi_zipA (by rfl) TF.zip (pa_cons (pv 0) (pa_cons (pe_slice sl_tupA (pv 0) (po_some pe_int) po_none) pa_nil))) (blkOk_by (N := ["value", "name", "after"]) (sc := defScope sIsSet) (by decide +kernel))
            (fun _ _ _ _ _ => pg_tup rfl (pgs_cons (pg_name (i := 1) scSet.nd rfl (Or.inl rfl)) (pgs_cons (pg_name (i := 2) scSet.nd rfl (Or.inl rfl)) pgs_nil))) (fun _ _ _ _ _ => pts_nil) (fun _ _ _ _ _ => pe_cmpR op_lt_str (pv 1) (pv 2) (nomark _))) pa_nil)))))), ?_⟩
    cases ht : isTupD d with
    | false =>
      have e : setD d = false := by cases d <;> first | rfl | cases ht
      refine isi_te (x := v) rfl hd.tyx ((kit_tup d).trans (congrArg some ht)) ⟨_, rfl, iteF ?_⟩
      have z := q H (Same.refl _)
      rw [e] at z
      exact z
    | true =>
      cases d with
      | tuple ds =>
        obtain ⟨a, xs, rfl, ea, hl, hx⟩ := hd.tup_of
        have sa : smlAll ds = true := by
          unfold smlD at sm
          exact sm
        have xl := hx.length
        refine isi_te (x := .ref a) rfl (.base (.tup ea)) (kit_tup (.tuple ds)) ⟨_, rfl, iteT ?_⟩
        refine ⟨_, rfl, a, rfl, ⟨xs, SqT.of ea⟩, fun Dl hD => lc_tup (PvM H Dl (ds.map isNameD)) (PvM.zero hD) (fun i H' _ p => SqT.of (p.1 _ _ ea)) (fun i x H3 hi p => ?_) (fun H5 p => ?_)⟩
        · obtain ⟨e, he, hde⟩ := hx.get hi
          exact ⟨rfl, _, rfl, S, x, e, rfl, hde.mv (fun _ z => z) (fun b o _ eb => p.1 b o eb), sml_get sa he, fun H4 s4 => p.step hD (by rw [List.length_map]; omega) (by rw [List.getElem?_map, he]; rfl) s4⟩
        · obtain ⟨s5, e5⟩ := p.all (by rw [List.length_map]; exact xl)
          refine ⟨Dl, _, rfl, SqL.of e5, _, rfl, ite2 (fun h1 => ?_) (fun h1 => ?_)⟩
          · rw [all_map_id] at h1
            have exs := dt_names hx h1
            have ll : (ds.map strD).length = ds.length := List.length_map _
            have q' : ∀ H', Same H5 H' → Q (.bl ((List.zipWith ltS (ds.map strD) (ds.map strD).tail).all id)) H' := fun H' s' => by
              have z := q H' (s5.trans s')
              rw [show setD (.tuple ds) = (ds.all isNameD && (List.zipWith ltS (ds.map strD) (ds.map strD).tail).all id) from rfl, h1, Bool.true_and] at z
              exact z
            generalize ds.map strD = ls at exs ll q'
            have ea5 := s5 _ _ ea
            subst exs
            cases ls with
            | nil =>
              refine ⟨_, rfl, _, rfl, 1, rfl, a, _, rfl, SqT.of ea5, fun hw => ?_, fun hn => absurd (And.intro rfl rfl) hn⟩
              refine ⟨a, a, [], [], rfl, .inr ⟨SqT.of ea5, SqT.of ea5, fun D2 hD2 => lc_zipS (Nat.le_refl _) (PvM H5 D2 []) (PvM.zero hD2) (fun i H' p => ⟨SqT.of (p.1 _ _ ea5), SqT.of (p.1 _ _ ea5)⟩) (fun i x y T H3 hi _ _ _ => by simp at hi) (fun H6 p => ?_)⟩⟩
              exact ⟨D2, [], rfl, SqL.of p.2, q' _ p.1⟩
            | cons z0 r =>
              refine ⟨_, rfl, _, rfl, 1, rfl, a, _, rfl, SqT.of ea5, fun hw => absurd hw cut_part, fun _ pc hpc => ?_⟩
              rw [show cutV ((z0 :: r).map V.str) (some 1) none = r.map V.str from cut_tail]
              have sc := same_upd (o := .tup (r.map V.str)) hpc
              refine ⟨a, pc, (z0 :: r).map V.str, r.map V.str, rfl, .inr ⟨SqT.of (sc _ _ ea5), SqT.of upd_same, fun D2 hD2 => lc_zipS (by simp) (PvM _ D2 (List.zipWith ltS (z0 :: r) r)) (PvM.zero hD2) (fun i H' p => ⟨SqT.of (p.1 _ _ (sc _ _ ea5)), SqT.of (p.1 _ _ upd_same)⟩) (fun i x y T H3 hi hj p hT => ?_) (fun H6 p => ?_)⟩⟩
              · rw [List.getElem?_map] at hi hj
                obtain ⟨s1, g1, rfl⟩ := Option.map_eq_some_iff.mp hi
                obtain ⟨s2, g2, rfl⟩ := Option.map_eq_some_iff.mp hj
                refine ⟨T, _, rfl, SqT.of upd_same, rfl, _, _, rfl, _, _, rfl, rfl, rfl, _, rfl, _, rfl, s1, s2, rfl, rfl, ?_⟩
                refine p.step (b := ltS s1 s2) hD2 ?_ (zipWith_idx g1 g2) (same_upd hT)
                rw [List.length_zipWith]
                simp only [List.length_map, List.length_cons] at hl xl ⊢
                omega
              · obtain ⟨s7, e7⟩ := p.all (by rw [List.length_zipWith]; simp)
                exact ⟨D2, _, rfl, SqL.of e7, q' _ (sc.trans s7)⟩
          · have z := q _ s5
            rw [all_map_id] at h1
            have e0 : ds.all isNameD = false := by
              cases y : ds.all isNameD with
              | false => rfl
              | true => exact absurd y h1
            rw [show setD (.tuple ds) = (ds.all isNameD && (List.zipWith ltS (ds.map strD) (ds.map strD).tail).all id) from rfl, e0, Bool.false_and] at z
            exact z
      | _ => cases ht
theorem scKp : FnScope ["value"] ["value"] (defScope sKept) := ⟨rfl, rfl, rfl, by decide +kernel, rfl, by decide +kernel, by decide +kernel⟩
theorem ok_kept (F : Fun K "is_kept" "is_kept" sKept f fd) (T : TxtN K mg) (TF : TxtF K w mg) (gI : mg "is_name" = some (.ref fI)) (FI : Fun K "is_name" "is_name" sIsName fI dI) (bI : Binds K dI ["value"] []) (gS : mg "is_set" = some (.ref fS)) (FS : Fun K "is_set" "is_set" sIsSet fS dS) (bS : Binds K dS ["value"] []) (gM : ∃ t, mg "MAX_KEPT" = some (.int 4 t)) :
    FnOk P w K mg base CX0 3 f fd ["value"] spKept := by
  have GS : FnOk P w K mg base CX0 2 fS dS ["value"] spSet := ok_isset FS T TF gI FI bI
  obtain ⟨t, g4⟩ := gM
  refine F.ok scKp (fun vs H Q E h => ?_) (fun cdv A outer s H vs Q E hr h => ?_)
  · obtain ⟨S, v, d, rfl, _⟩ := h
    rfl
  · obtain ⟨S, v, d, rfl, hd, sm, q⟩ := h
    refine ⟨_, pss_one (ps_ret (pe_and (pe_call GS hr (by rfl) gS FS.kp bS .nil pass0 (pa_cons (pv 0) pa_nil)) (pe_one (pe_cmpR op_le (pe_callB call_len_seq (by rfl) T.len PySem.boot_len (pa_cons (pv 0) pa_nil)) (pe_glob (v := .int 4) (by rfl) g4 ⟨t, rfl⟩) (nomark _))))), ?_⟩
    refine ⟨_, rfl, S, v, d, rfl, hd, sm, fun H1 s1 => ⟨_, rfl, ?_⟩⟩
    cases hs : setD d with
    | false =>
      have e : keptD d = false := by
        cases d with
        | tuple ds =>
          show (setD (.tuple ds) && _) = false
          rw [hs, Bool.false_and]
        | _ => rfl
      have z := q _ s1
      rw [e] at z
      exact iteF z
    | true =>
      cases d with
      | tuple ds =>
        obtain ⟨a, xs, rfl, ea, hl, hx⟩ := hd.tup_of
        have e : keptD (.tuple ds) = decide ((xs.length : Int) ≤ 4) := by
          show (setD (.tuple ds) && decide (ds.length ≤ 4)) = _
          rw [hs, Bool.true_and, hx.length]
          exact decide_eq_decide.mpr (by omega)
        have z := q _ s1
        rw [e] at z
        exact iteT ⟨_, rfl, a, xs, rfl, .inr (SqT.of (s1 _ _ ea)), _, _, rfl, rfl, z⟩
      | _ => cases hs
end
end OM

namespace OM
open PySem PySem.Spec PyProof.Rows L2
/-- a statement within a class -/
abbrev inStK (i j : Nat) : Stmt := (match top i with
  | .ClassDef (body := b) .. => b
  | _ => []).getD j (.Pass ⟨0, 0, 0, 0⟩)
abbrev sMI : Stmt := inStK 2 0
abbrev sSI : Stmt := inStK 38 0
/-- an object that is being made: nothing stands in it yet -/
def Raw (K : PySem.W.Frag) (B : String) (fs : List Str) (a C : Addr) (H : Hp) : Prop := ∃ tail : List Value, OexB K C tail ∧ tail.contains (.type B) = true ∧ H a = some (exo a C none) ∧ ∀ f ∈ fs, PySem.W.findIn K (.ref C) f = some none
/-- __init__ of a class without fields -/
def spI0 (K : PySem.W.Frag) (B : String) : Sp := fun vs H Q _ => ∃ (a C : Addr) (x : V), vs = [.ref a, x] ∧ Raw K B [] a C H ∧ Q .non H
/-- a built-in class's name and its __init__ -/
structure BIn (K : PySem.W.Frag) (mg : Str → Option Value) (x : Str) (B initId : String) : Prop where
  mg : mg x = none
  v : PySem.W.findCls K (.type B) (.type "type") "__init__" = some (.val (.builtin initId))
/-- a class of the package, as it is made -/
structure KCls (K : PySem.W.Frag) (C fI : Addr) (B : String) (fs : List Str) : Prop where
  made : ∃ tail, MkB K C fI tail ∧ tail.contains (.type B) = true
  no : ∀ f ∈ fs, PySem.W.findIn K (.ref C) f = some none
theorem KCls.raw {K : PySem.W.Frag} {C fI a : Addr} {B : String} {fs : List Str} {H : Hp} (k : KCls K C fI B fs) (e : H a = some (exo a C none)) : Raw K B fs a C H := by
  obtain ⟨tail, M, hB⟩ := k.made
  exact ⟨tail, M.T, hB, e, k.no⟩
/-- what is let out -/
def OutN (E : XK) (C : Addr) (H : Hp) : Prop := ∀ H', Same H H' → E (.ref C) none H'
theorem same_del {H : Hp} {a : Addr} {o : HO} (h : H a = none) : Same H (del (upd H a o) a) := fun b u e => by
  have nb := ne_of_none e h
  rw [del_ne nb, upd_ne nb]
  exact e
theorem mk0 {K : PySem.W.Frag} {E : XK} {H : Hp} {C fI : Addr} {x : V} (k : KCls K C fI "ValueError" []) (q : OutN E C H) : [x].length ≤ 1000 ∧ ∀ a, H a = none → spI0 K "ValueError" (.ref a :: ([x] ++ [])) (upd H a (exo a C none)) (fun v H2 => v = .non ∧ MkR C H E a H2) E0 :=
  ⟨(by show 1 ≤ 1000; decide), fun a h => ⟨a, C, x, rfl, k.raw upd_same, rfl, .inl ⟨upd_same, q _ (same_del h)⟩⟩⟩
/-- the bounds of a stretch -/
def bndD (ds : List PyData) : Bool := decide ((flatN 3 ds).length ≤ 24) && (decide ((firsts [] ((flatN 3 ds).flatMap (namesD "cell"))).length ≤ 4) && (decide (mostN 3 "letter" ds ≤ 6) && (decide (mostN 3 "set" ds ≤ 6) && decide (mostN 3 "if" ds ≤ 3))))
def itemsD : PyData → List PyData
  | .tuple ds => ds
  | _ => []
/-- what Stretch takes -/
def okD (c k : PyData) : Bool := codeD 3 c && (bndD (itemsD c) && keptD k)
def spBnd : Sp := fun vs H Q _ => ∃ (S : Addr → Prop) (v : V) (ds : List PyData), vs = [v] ∧ Dt S H v (.tuple ds) ∧ ds.all (rowD (cdOf 3)) = true ∧ (flatN 3 ds).length ≤ 400 ∧ ∀ H', Same H H' → Q (.bl (bndD ds)) H'
section
variable {P : Program} {w : World} {K : PySem.W.Frag} {mg : Str → Option Value} {base : Heap} {f fF fC fO fM fA fK fN : Addr} {fd dF dC dO dM dA dK dN : FuncData}
theorem scMI : FnScope ["self", "why"] ["self", "why"] (defScope sMI) := ⟨rfl, rfl, rfl, by decide +kernel, rfl, by decide +kernel, by decide +kernel⟩
theorem ok_iM {dvs : List V} (F : FunD K "__init__" "MoveError.__init__" (defArgs sMI) (defBody sMI) (defScope sMI) dvs [] f fd) (b : BIn K mg "ValueError" "ValueError" "ValueError.__init__") : FnOk P w K mg base CX0 1 f fd ["self", "why"] (spI0 K "ValueError") := by
  refine F.ok scMI (fun vs H Q E h => ?_) (fun cdv A outer s H vs Q E hr h => ?_)
  · obtain ⟨a, C, x, rfl, _⟩ := h
    rfl
  · obtain ⟨a, C, x, rfl, ⟨tail, T, hB, ea, _⟩, q⟩ := h
    refine ⟨_, pss_one (ps_expr (pe_binit base_VE (by rfl) b.mg (by decide +kernel) b.v (by decide +kernel) (pa_cons (pv 0) (pa_cons (pv 1) pa_nil)))), ?_⟩
    exact ⟨_, rfl, _, rfl, a, C, tail, [x], rfl, (by show 1 ≤ 1000; decide), T, hB, ea, q⟩
/-- most_on_path and the two below it -/
structure MostF (K : PySem.W.Frag) (mg : Str → Option Value) (fM fA fK : Addr) (dM dA dK : FuncData) : Prop where
  FM : Fun K "most_on_path" "most_on_path" sMost fM dM
  FA : Fun K "_most_at" "_most_at" sMostAt fA dA
  FK : Fun K "_path_kind" "_path_kind" sKind fK dK
  gM : mg "most_on_path" = some (.ref fM)
  gA : mg "_most_at" = some (.ref fA)
  gK : mg "_path_kind" = some (.ref fK)
  bM : Binds K dM ["code", "kind"] []
  bA : Binds K dA ["statement", "kind"] []
  bK : Binds K dK ["statement"] []
theorem ok_most (M : MostF K mg fM fA fK dM dA dK) (C : FlatF K mg fF fC fO dF dC dO) (TS : TxtS mg) : ∀ n, FnOk P w K mg base CX0 (2 * n + 1) fM dM ["code", "kind"] (spMost n)
  | 0 => ⟨fun _ _ _ _ h => h.elim, fun _ _ _ _ _ _ _ _ _ _ _ _ _ h => h.elim⟩
  | n + 1 => most_step M.FM TS M.gA M.FA.kp M.bA (mostat_ok (j := 2 * n) M.FA TS M.gM M.FM.kp M.bM (ok_most M C TS n) C.FC C.gC C.bC M.FK M.gK M.bK)
/-- the bounds, as the module tells them -/
structure TxtB (mg : Str → Option Value) : Prop where
  st : ∃ t, mg "MAX_STATEMENTS" = some (.int 24 t)
  ce : ∃ t, mg "MAX_CELLS" = some (.int 4 t)
  le : ∃ t, mg "MAX_LETTERS_SENT" = some (.int 6 t)
  se : ∃ t, mg "MAX_SETS" = some (.int 6 t)
  te : ∃ t, mg "MAX_TESTS" = some (.int 3 t)
theorem scBd : FnScope ["code"] ["code"] (defScope sBounded) := ⟨rfl, rfl, rfl, by decide +kernel, rfl, by decide +kernel, by decide +kernel⟩
theorem dec_3 {a : Nat} : decide ((a : Int) ≤ 3) = decide (a ≤ 3) := decide_eq_decide.mpr (by omega)
theorem dec_4 {a : Nat} : decide ((a : Int) ≤ 4) = decide (a ≤ 4) := decide_eq_decide.mpr (by omega)
theorem dec_6 {a : Nat} : decide ((a : Int) ≤ 6) = decide (a ≤ 6) := decide_eq_decide.mpr (by omega)
theorem dec_24 {a : Nat} : decide ((a : Int) ≤ 24) = decide (a ≤ 24) := decide_eq_decide.mpr (by omega)
theorem ok_bounded (F : Fun K "is_bounded" "is_bounded" sBounded f fd) (TF : TxtF K w mg) (TS : TxtS mg) (TB : TxtB mg) (C : FlatF K mg fF fC fO dF dC dO) (M : MostF K mg fM fA fK dM dA dK) (gN : mg "names_in" = some (.ref fN)) (FN : Fun K "names_in" "names_in" sNamesIn fN dN) (bN : Binds K dN ["code", "role"] []) :
    FnOk P w K mg base CX0 10 f fd ["code"] spBnd := by
  have GF : FnOk P w K mg base CX0 5 fF dF ["code"] (spFlatAt 4) := ok_flat C 4
  have GN : FnOk P w K mg base CX0 6 fN dN ["code", "role"] spNamesIn := ok_namesin FN TF TS C
  have GM : FnOk P w K mg base CX0 9 fM dM ["code", "kind"] (spMost 4) := ok_most M C TS 4
  obtain ⟨t1, g1⟩ := TB.st
  obtain ⟨t2, g2⟩ := TB.ce
  obtain ⟨t3, g3⟩ := TB.le
  obtain ⟨t4, g4⟩ := TB.se
  obtain ⟨t5, g5⟩ := TB.te
  refine F.ok scBd (fun vs H Q E h => ?_) (fun cdv A outer s H vs Q E hr h => ?_)
  · obtain ⟨S, v, ds, rfl, _⟩ := h
    rfl
  · obtain ⟨S, v, ds, rfl, hd, rows, size, q⟩ := h
    refine ⟨_, pss_one (ps_ret (pe_and (pe_cmpR op_le (pe_callB call_len_seq (by rfl) TS.len PySem.boot_len (pa_cons (pe_call GF (hr.mono (by decide)) (by rfl) C.gF C.FF.kp C.bF .nil pass0 (pa_cons (pv 0) pa_nil)) pa_nil)) (pe_glob (v := .int 24) (by rfl) g1 ⟨t1, rfl⟩) (nomark _))
      (pe_and (pe_cmpR op_le (pe_callB call_len_seq (by rfl) TS.len PySem.boot_len (pa_cons (pe_call GN (hr.mono (by decide)) (by rfl) gN FN.kp bN .nil pass0 (pa_cons (pv 0) (pa_cons pe_str pa_nil))) pa_nil)) (pe_glob (v := .int 4) (by rfl) g2 ⟨t2, rfl⟩) (nomark _))
      (pe_and (pe_cmpR op_le (pe_call GM hr (by rfl) M.gM M.FM.kp M.bM .nil pass0 (pa_cons (pv 0) (pa_cons pe_str pa_nil))) (pe_glob (v := .int 6) (by rfl) g3 ⟨t3, rfl⟩) (nomark _))
      (pe_and (pe_cmpR op_le (pe_call GM hr (by rfl) M.gM M.FM.kp M.bM .nil pass0 (pa_cons (pv 0) (pa_cons pe_str pa_nil))) (pe_glob (v := .int 6) (by rfl) g4 ⟨t4, rfl⟩) (nomark _))
      (pe_one (pe_cmpR op_le (pe_call GM hr (by rfl) M.gM M.FM.kp M.bM .nil pass0 (pa_cons (pv 0) (pa_cons pe_str pa_nil))) (pe_glob (v := .int 3) (by rfl) g5 ⟨t5, rfl⟩) (nomark _)))))))), ?_⟩
    have live : ∀ b, (S b ∧ H b ≠ none) → H b ≠ none := fun b z => z.2
    have hd := hd.live
    unfold bndD at q
    refine ⟨_, rfl, _, v, ds, rfl, hd, rows, Nat.le_trans size (by decide), fun H1 p1 xs1 s1 hp1 e1 d1 => ⟨p1, _, rfl, .inl (SqL.of e1), _, _, rfl, rfl, _, rfl, ?_⟩⟩
    rw [d1.length, dec_24]
    refine ite2 (fun k1 => ?_) (fun k1 => ?_)
    · rw [k1, Bool.true_and] at q
      refine ⟨_, rfl, _, v, ds, "cell", rfl, by decide +kernel, hd.base live (Same.refl H) s1, rows, size, fun H2 p2 ys s2 hp2 e2 pm so => ⟨p2, _, rfl, .inr (SqT.of e2), _, _, rfl, rfl, _, rfl, ?_⟩⟩
      rw [List.length_map, pm.length_eq, dec_4]
      have s12 := s1.trans s2
      refine ite2 (fun k2 => ?_) (fun k2 => ?_)
      · rw [k2, Bool.true_and] at q
        refine ⟨_, rfl, _, v, ds, "letter", rfl, hd.base live (Same.refl H) s12, rows, fun H3 s3 => ⟨_, _, rfl, rfl, _, rfl, ?_⟩⟩
        rw [dec_6]
        have s13 := s12.trans s3
        refine ite2 (fun k3 => ?_) (fun k3 => ?_)
        · rw [k3, Bool.true_and] at q
          refine ⟨_, rfl, _, v, ds, "set", rfl, hd.base live (Same.refl H) s13, rows, fun H4 s4 => ⟨_, _, rfl, rfl, _, rfl, ?_⟩⟩
          rw [dec_6]
          have s14 := s13.trans s4
          refine ite2 (fun k4 => ?_) (fun k4 => ?_)
          · rw [k4, Bool.true_and] at q
            refine ⟨_, rfl, _, v, ds, "if", rfl, hd.base live (Same.refl H) s14, rows, fun H5 s5 => ⟨_, _, rfl, rfl, ?_⟩⟩
            show Q (.bl (decide (((mostN 3 "if" ds : Nat) : Int) ≤ 3))) H5
            rw [dec_3]
            exact q _ (s14.trans s5)
          · rw [Bool.eq_false_iff.mpr k4, Bool.false_and] at q
            exact q _ s14
        · rw [Bool.eq_false_iff.mpr k3, Bool.false_and] at q
          exact q _ s13
      · rw [Bool.eq_false_iff.mpr k2, Bool.false_and] at q
        exact q _ s12
    · rw [Bool.eq_false_iff.mpr k1, Bool.false_and] at q
      exact q _ s1
/-- the class Stretch, as it is made -/
structure StrT (K : PySem.W.Frag) (mg : Str → Option Value) (C : Addr) : Prop where
  cl : Cls K C
  nc : NoAttr K C "_code"
  nk : NoAttr K C "_keeps"
/-- Stretch(code, keeps): its fields, or InvalidStretch -/
def spSI (C cS : Addr) : Sp := fun vs H Q E => ∃ (S : Addr → Prop) (p dx : Addr) (c k : V) (dc dk : PyData), vs = [.ref p, c, k] ∧ H p = some (.ins C dx []) ∧ Dt S H c dc ∧ Dt S H k dk ∧ nsD dc = true ∧ smlD dc = true ∧ smlD dk = true ∧ (codeD 3 dc = true → (flatN 3 (itemsD dc)).length ≤ 400) ∧
  (okD dc dk = true → ∀ H', But p H H' → H' p = some (.ins C dx [("_code", c), ("_keeps", k)]) → Q .non H') ∧ (okD dc dk = false → OutN E cS H)
theorem scSI : FnScope ["self", "code", "keeps"] ["self", "code", "keeps"] (defScope sSI) := ⟨rfl, rfl, rfl, by decide +kernel, rfl, by decide +kernel, by decide +kernel⟩
theorem ok_sinit {dvs : List V} {C cS fI fIC fB fKp : Addr} {dI dIC dB dKp : FuncData} (F : FunD K "__init__" "Stretch.__init__" (defArgs sSI) (defBody sSI) (defScope sSI) dvs [] f fd) (T : StrT K mg C) (kS : KCls K cS fI "ValueError" []) (gcS : mg "InvalidStretch" = some (.ref cS))
    (GI : FnOk P w K mg base CX0 1 fI dI ["self", "why"] (spI0 K "ValueError")) (bI : Binds K dI ["self", "why"] []) (gIC : mg "is_code" = some (.ref fIC)) (kIC : PySem.W.keepIn K (.ref fIC) = true) (bIC : Binds K dIC ["value"] []) (GIC : FnOk P w K mg base CX0 14 fIC dIC ["value"] spIsCode)
    (gB : mg "is_bounded" = some (.ref fB)) (kB : PySem.W.keepIn K (.ref fB) = true) (bB : Binds K dB ["code"] []) (GB : FnOk P w K mg base CX0 10 fB dB ["code"] spBnd) (gKp : mg "is_kept" = some (.ref fKp)) (kKp : PySem.W.keepIn K (.ref fKp) = true) (bKp : Binds K dKp ["value"] []) (GKp : FnOk P w K mg base CX0 3 fKp dKp ["value"] spKept) :
    FnOk P w K mg base (L2.CX P w) 15 f fd ["self", "code", "keeps"] (spSI C cS) := by
  refine F.ok scSI (fun vs H Q E h => ?_) (fun cdv A outer s H vs Q E hr h => ?_)
  · obtain ⟨S, p, dx, c, k, dc, dk, rfl, _⟩ := h
    rfl
  · obtain ⟨S, p, dx, c, k, dc, dk, rfl, hp, hc, hk, ns, sc, sk, size, q, e⟩ := h
    refine ⟨_, pss_cons (ps_if (pt_not (pt_val (pe_call GIC hr (by rfl) gIC kIC bIC .nil pass0 (pa_cons (pv 1) pa_nil)))) (pss_one (ps_raise rfl (takes_of rfl rfl rfl rfl) (pmk_B (Classical.choose_spec kS.made).1 GI (hr.mono (by decide)) (by rfl) gcS bI .nil pass0 (pa_cons pe_str pa_nil)))) pss_nil)
      (pss_cons (ps_if (pt_not (pt_val (pe_call GB (hr.mono (by decide)) (by rfl) gB kB bB .nil pass0 (pa_cons (pv 1) pa_nil)))) (pss_one (ps_raise rfl (takes_of rfl rfl rfl rfl) (pmk_B (Classical.choose_spec kS.made).1 GI (hr.mono (by decide)) (by rfl) gcS bI .nil pass0 (pa_cons pe_str pa_nil)))) pss_nil)
      (pss_cons (ps_if (pt_not (pt_val (pe_call GKp (hr.mono (by decide)) (by rfl) gKp kKp bKp .nil pass0 (pa_cons (pv 2) pa_nil)))) (pss_one (ps_raise rfl (takes_of rfl rfl rfl rfl) (pmk_B (Classical.choose_spec kS.made).1 GI (hr.mono (by decide)) (by rfl) gcS bI .nil pass0 (pa_cons pe_str pa_nil)))) pss_nil)
      (pss_cons (ps_fld (pv 0) (pv 1) rfl) (pss_one (ps_fld (pv 0) (pv 2) rfl))))), ?_⟩
    have out : ∀ {H1 : Hp}, Same H H1 → okD dc dk = false → OutN E cS H1 := fun s1 z H' s' => e z H' (s1.trans s')
    refine ⟨_, rfl, S, c, dc, rfl, ns, hc, sc, fun H1 s1 => ⟨_, rfl, ?_⟩⟩
    cases h1 : codeD 3 dc with
    | false =>
      have z : okD dc dk = false := by
        unfold okD
        rw [h1, Bool.false_and]
      exact iteT (mk0 kS (out s1 z))
    | true =>
      refine iteF ?_
      obtain ⟨ds, rfl, rows⟩ := code_tup h1
      refine ⟨_, rfl, S, c, ds, rfl, hc.mv (fun _ z => z) (fun b o _ z => s1 b o z), rows, size h1, fun H2 s2 => ⟨_, rfl, ?_⟩⟩
      have s12 := s1.trans s2
      cases h2 : bndD ds with
      | false =>
        have z : okD (.tuple ds) dk = false := by
          unfold okD itemsD
          rw [h2, Bool.false_and, Bool.and_false]
        exact iteT (mk0 kS (out s12 z))
      | true =>
        refine iteF ⟨_, rfl, S, k, dk, rfl, hk.mv (fun _ z => z) (fun b o _ z => s12 b o z), sk, fun H3 s3 => ⟨_, rfl, ?_⟩⟩
        have s13 := s12.trans s3
        cases h3 : keptD dk with
        | false =>
          have z : okD (.tuple ds) dk = false := by
            unfold okD
            rw [h3, Bool.and_false, Bool.and_false]
          exact iteT (mk0 kS (out s13 z))
        | true =>
          have z : okD (.tuple ds) dk = true := by
            unfold okD itemsD
            rw [h1, h2, h3]
            rfl
          refine iteF ⟨_, rfl, _, rfl, p, C, dx, [], rfl, s13 _ _ hp, T.cl, T.nc, (by show 0 < 1000; decide), _, rfl, _, rfl, p, C, dx, _, rfl, upd_same, T.cl, T.nk, (by show 1 < 1000; decide), ?_⟩
          refine q z _ (fun b o hb eb => ?_) upd_same
          rw [upd_ne hb, upd_ne hb]
          exact s13 b o eb
end
end OM

namespace OM
open PySem PySem.Spec PyProof.Rows L2
/-! ### weights of tuples, taken over all of a datum -/
mutual
def tot (φ : List PyData → Nat) : PyData → Nat
  | .tuple ds => φ ds + totL φ ds
  | _ => 0
def totL (φ : List PyData → Nat) : List PyData → Nat
  | [] => 0
  | d :: r => tot φ d + totL φ r
end
theorem totL_app (φ : List PyData → Nat) : ∀ (a b : List PyData), totL φ (a ++ b) = totL φ a + totL φ b
  | [], b => by
    show totL φ b = totL φ [] + totL φ b
    unfold totL
    omega
  | d :: r, b => by
    show tot φ d + totL φ (r ++ b) = _
    rw [totL_app φ r b]
    show _ = tot φ d + totL φ r + totL φ b
    omega
theorem totL_cons (φ : List PyData → Nat) (d : PyData) (r : List PyData) : totL φ (d :: r) = tot φ d + totL φ r := rfl
theorem tot_tup (φ : List PyData → Nat) (ds : List PyData) : tot φ (.tuple ds) = φ ds + totL φ ds := by
  unfold tot
  rfl
def wsum (ψ : PyData → Nat) (l : List PyData) : Nat := (l.map ψ).sum
theorem wsum_app (ψ : PyData → Nat) (a b : List PyData) : wsum ψ (a ++ b) = wsum ψ a + wsum ψ b := by
  unfold wsum
  rw [List.map_append, List.sum_append]
theorem wsum_cons (ψ : PyData → Nat) (d : PyData) (b : List PyData) : wsum ψ (d :: b) = ψ d + wsum ψ b := rfl
/-- the statements of code lie apart in it -/
def tupW (φ : List PyData → Nat) : PyData → Nat
  | .tuple ds => φ ds
  | _ => 0
theorem flat_tot (φ : List PyData → Nat) : ∀ n : Nat, (∀ d, wsum (tupW φ) (flatS n d) ≤ tot φ d) ∧ ∀ ds, wsum (tupW φ) (flatN n ds) ≤ totL φ ds := by
  have lift : ∀ n, (∀ d, wsum (tupW φ) (flatS n d) ≤ tot φ d) → ∀ ds, wsum (tupW φ) (flatN n ds) ≤ totL φ ds := fun n h ds => by
    induction ds with
    | nil => exact Nat.zero_le _
    | cons d r ih =>
      have e : flatN n (d :: r) = flatS n d ++ flatN n r := List.flatMap_cons
      rw [e, wsum_app, totL_cons]
      have := h d
      omega
  have one : ∀ d, tupW φ d ≤ tot φ d := fun d => by
    cases d with
    | tuple ds =>
      rw [tot_tup]
      exact Nat.le_add_right _ _
    | _ => exact Nat.zero_le _
  intro n
  induction n with
  | zero =>
    have h : ∀ d, wsum (tupW φ) (flatS 0 d) ≤ tot φ d := fun d => one d
    exact ⟨h, lift 0 h⟩
  | succ n ih =>
    have h : ∀ d, wsum (tupW φ) (flatS (n + 1) d) ≤ tot φ d := fun d => by
      show wsum _ (d :: (inner2 d).flatMap (flatN n)) ≤ _
      rw [wsum_cons]
      unfold inner2
      split
      · rename_i w p r ys ns
        rw [tot_tup]
        by_cases hw : w = "if"
        · rw [if_pos hw, List.flatMap_cons, List.flatMap_cons, List.flatMap_nil, List.append_nil, wsum_app]
          have h1 := ih.2 ys
          have h2 := ih.2 ns
          rw [totL_cons, totL_cons, totL_cons, totL_cons, totL_cons, tot_tup, tot_tup]
          show φ [.str w, p, r, .tuple ys, .tuple ns] + _ ≤ _
          omega
        · rw [if_neg hw]
          exact Nat.le_add_right _ _
      · exact Nat.le_trans (Nat.le_of_eq (Nat.add_zero _)) (one d)
    exact ⟨h, lift (n + 1) h⟩
theorem most_sum (k : Str) : ∀ n : Nat, (∀ d, mostS n k d ≤ wsum (ownD k) (flatS n d)) ∧ ∀ ds, mostN n k ds ≤ wsum (ownD k) (flatN n ds) := by
  have lift : ∀ n, (∀ d, mostS n k d ≤ wsum (ownD k) (flatS n d)) → ∀ ds, mostN n k ds ≤ wsum (ownD k) (flatN n ds) := fun n h ds => by
    induction ds with
    | nil => exact Nat.zero_le _
    | cons d r ih =>
      have e : flatN n (d :: r) = flatS n d ++ flatN n r := List.flatMap_cons
      rw [e, wsum_app]
      have := h d
      show mostS n k d + mostN n k r ≤ _
      omega
  intro n
  induction n with
  | zero =>
    have h : ∀ d, mostS 0 k d ≤ wsum (ownD k) (flatS 0 d) := fun d => Nat.le_refl _
    exact ⟨h, lift 0 h⟩
  | succ n ih =>
    have mx : ∀ l : List (List PyData), maxL (l.map fun c => (c.map (mostS n k)).sum) ≤ wsum (ownD k) (l.flatMap (flatN n)) := fun l => by
      induction l with
      | nil => exact Nat.zero_le _
      | cons c r ihl =>
        rw [List.flatMap_cons, wsum_app]
        show max _ (maxL (r.map _)) ≤ _
        have h1 : (c.map (mostS n k)).sum ≤ wsum (ownD k) (flatN n c) := ih.2 c
        exact Nat.max_le.mpr ⟨Nat.le_trans h1 (Nat.le_add_right _ _), Nat.le_trans ihl (Nat.le_add_left _ _)⟩
    have h : ∀ d, mostS (n + 1) k d ≤ wsum (ownD k) (flatS (n + 1) d) := fun d => by
      show ownD k d + _ ≤ wsum _ (d :: (inner2 d).flatMap (flatN n))
      rw [wsum_cons]
      have := mx (inner2 d)
      omega
    exact ⟨h, lift (n + 1) h⟩
theorem wsum_le {ψ χ : PyData → Nat} {l : List PyData} (h : ∀ e ∈ l, ψ e ≤ χ e) : wsum ψ l ≤ wsum χ l := by
  induction l with
  | nil => exact Nat.le_refl _
  | cons d r ih =>
    rw [wsum_cons, wsum_cons]
    have h1 := h d List.mem_cons_self
    have h2 := ih fun e he => h e (List.mem_cons_of_mem _ he)
    omega
/-! ### spoils -/
def odds : List PyData := [.none, .int 0, .bool true, .str "", .str "A", .str "if", .str "get", .str "read", .str "show", .tuple [], .list [], .dict [], .tuple [.str "a"], .str "abcdefghi", .str "a", .tuple [.str "show", .str "a"]]
inductive SpR : PyData → PyData → Prop where
  | odd {d o : PyData} (h : o ∈ odds) : SpR d o
  | del {ds : List PyData} (i : Nat) : SpR (.tuple ds) (.tuple (ds.take i ++ ds.drop (i + 1)))
  | ins {ds : List PyData} {o : PyData} (i : Nat) (h : o ∈ odds) : SpR (.tuple ds) (.tuple (ds.take i ++ o :: ds.drop i))
  | lst {ds : List PyData} : SpR (.tuple ds) (.list ds)
  | sub {ds : List PyData} {d d' : PyData} (i : Nat) (hi : ds[i]? = some d) (h : SpR d d') : SpR (.tuple ds) (.tuple (ds.take i ++ d' :: ds.drop (i + 1)))
/-- a weight that one spoil moves by one at most -/
structure Lip (φ : List PyData → Nat) : Prop where
  nil : φ [] ≤ 1
  odd : ∀ o ∈ odds, tot φ o ≤ 1
  oddL : ∀ o ∈ odds, totL φ (itemsD o) ≤ 1
  del : ∀ (a b : List PyData) (d : PyData), φ (a ++ b) ≤ φ (a ++ d :: b) + 1
  ins : ∀ (a b : List PyData), ∀ o ∈ odds, φ (a ++ o :: b) + tot φ o ≤ φ (a ++ b) + 1
  tup : ∀ (a b : List PyData) (xs ys : List PyData), φ (a ++ .tuple ys :: b) ≤ φ (a ++ .tuple xs :: b)
  put : ∀ (a b : List PyData) (d : PyData), ∀ o ∈ odds, φ (a ++ o :: b) + tot φ o ≤ φ (a ++ d :: b) + 1
  lst : ∀ (a b : List PyData) (xs ys : List PyData), φ (a ++ .list ys :: b) ≤ φ (a ++ .tuple xs :: b) + 1
theorem cut_at {ds : List PyData} {i : Nat} {d : PyData} (h : ds[i]? = some d) : ds = ds.take i ++ d :: ds.drop (i + 1) := by
  obtain ⟨hl, e⟩ := List.getElem?_eq_some_iff.mp h
  rw [← e, ← List.drop_eq_getElem_cons hl, List.take_append_drop]
theorem drop_case (ds : List PyData) (i : Nat) : (∃ d, ds = ds.take i ++ d :: ds.drop (i + 1)) ∨ ds.take i ++ ds.drop (i + 1) = ds := by
  rcases Nat.lt_or_ge i ds.length with h | h
  · exact .inl ⟨ds[i], cut_at (List.getElem?_eq_getElem h)⟩
  · right
    rw [List.take_of_length_le h, List.drop_of_length_le (by omega), List.append_nil]
theorem SpR.tot {φ : List PyData → Nat} (L : Lip φ) : ∀ {d d' : PyData}, SpR d d' → OM.tot φ d' ≤ OM.tot φ d + 1 ∧ totL φ (itemsD d') ≤ totL φ (itemsD d) + 1
  | _, _, .odd h => ⟨Nat.le_trans (L.odd _ h) (Nat.le_add_left _ _), Nat.le_trans (L.oddL _ h) (Nat.le_add_left _ _)⟩
  | _, _, .del (ds := ds) i => by
    rcases drop_case ds i with ⟨d, e⟩ | e
    · have h1 := L.del (ds.take i) (ds.drop (i + 1)) d
      rw [← e] at h1
      have h2 : totL φ ds = totL φ (ds.take i) + (OM.tot φ d + totL φ (ds.drop (i + 1))) := by
        conv => lhs; rw [e, totL_app, totL_cons]
      rw [tot_tup, tot_tup]
      show _ ∧ totL φ (ds.take i ++ ds.drop (i + 1)) ≤ totL φ ds + 1
      rw [totL_app]
      omega
    · rw [e]
      exact ⟨Nat.le_succ _, Nat.le_succ _⟩
  | _, _, .ins (ds := ds) (o := o) i h => by
    have h1 := L.ins (ds.take i) (ds.drop i) o h
    have h3 := L.odd o h
    rw [List.take_append_drop] at h1
    have h2 : totL φ ds = totL φ (ds.take i) + totL φ (ds.drop i) := by
      conv => lhs; rw [← List.take_append_drop i ds, totL_app]
    rw [tot_tup, tot_tup]
    show _ ∧ totL φ (ds.take i ++ o :: ds.drop i) ≤ totL φ ds + 1
    rw [totL_app, totL_cons]
    omega
  | _, _, .lst => ⟨Nat.zero_le _, Nat.zero_le _⟩
  | _, _, .sub (ds := ds) (d := d) (d' := d') i hi h => by
    have e := cut_at hi
    have ih := SpR.tot L h
    have h2 : totL φ ds = totL φ (ds.take i) + (OM.tot φ d + totL φ (ds.drop (i + 1))) := by
      conv => lhs; rw [e, totL_app, totL_cons]
    have key : φ (ds.take i ++ d' :: ds.drop (i + 1)) + OM.tot φ d' ≤ φ ds + OM.tot φ d + 1 := by
      cases h with
      | odd ho =>
        have := L.put (ds.take i) (ds.drop (i + 1)) d d' ho
        rw [← e] at this
        omega
      | @del xs j =>
        have := L.tup (ds.take i) (ds.drop (i + 1)) xs (xs.take j ++ xs.drop (j + 1))
        rw [← e] at this
        have := ih.1
        omega
      | @ins xs o j ho =>
        have := L.tup (ds.take i) (ds.drop (i + 1)) xs (xs.take j ++ o :: xs.drop j)
        rw [← e] at this
        have := ih.1
        omega
      | @lst xs =>
        have := L.lst (ds.take i) (ds.drop (i + 1)) xs xs
        rw [← e] at this
        show _ + 0 ≤ _
        omega
      | @sub xs y y' j hj hy =>
        have := L.tup (ds.take i) (ds.drop (i + 1)) xs (xs.take j ++ y' :: xs.drop (j + 1))
        rw [← e] at this
        have := ih.1
        omega
    rw [tot_tup, tot_tup]
    show _ ∧ totL φ (ds.take i ++ d' :: ds.drop (i + 1)) ≤ totL φ ds + 1
    rw [totL_app, totL_cons]
    have := ih.1
    omega
/-! ### the four weights -/
def headW (P : Str → Bool) : List PyData → Nat
  | .str w :: _ => if P w = true then 1 else 0
  | _ => 0
theorem headW_le (P : Str → Bool) (ds : List PyData) : headW P ds ≤ 1 := by
  unfold headW
  split
  · split
    · exact Nat.le_refl _
    · exact Nat.zero_le _
  · exact Nat.zero_le _
theorem odds_all {p : PyData → Prop} (h0 : p .none) (h1 : p (.int 0)) (h2 : p (.bool true)) (hs : ∀ x, p (.str x)) (ht : p (.tuple [])) (hl : p (.list [])) (hd : p (.dict [])) (ha : p (.tuple [.str "a"])) (hw : p (.tuple [.str "show", .str "a"])) : ∀ o ∈ odds, p o := by
  intro o ho
  unfold odds at ho
  simp only [List.mem_cons, List.not_mem_nil, or_false] at ho
  rcases ho with rfl | rfl | rfl | rfl | rfl | rfl | rfl | rfl | rfl | rfl | rfl | rfl | rfl | rfl | rfl | rfl <;> first | assumption | exact hs _
theorem lip_head (P : Str → Bool) (ha : P "a" = false) (hs : P "show" = false) : Lip (headW P) := by
  have z : ∀ o ∈ odds, tot (headW P) o = 0 := odds_all rfl rfl rfl (fun _ => rfl) rfl rfl rfl (by
    rw [tot_tup]
    show (if P "a" = true then 1 else 0) + _ = 0
    rw [ha]
    rfl) (by
    rw [tot_tup]
    show (if P "show" = true then 1 else 0) + _ = 0
    rw [hs]
    rfl)
  have zl : ∀ o ∈ odds, totL (headW P) (itemsD o) = 0 := odds_all rfl rfl rfl (fun _ => rfl) rfl rfl rfl rfl rfl
  have le := headW_le P
  refine ⟨le _, fun o h => by rw [z o h]; exact Nat.zero_le _, fun o h => by rw [zl o h]; exact Nat.zero_le _, fun a b d => ?_, fun a b o h => ?_, fun a b xs ys => ?_, fun a b d o h => ?_, fun a b xs ys => ?_⟩
  · have := le (a ++ b)
    omega
  · have := le (a ++ o :: b)
    rw [z o h]
    omega
  · cases a with
    | nil => exact Nat.zero_le _
    | cons x r => cases x <;> exact Nat.le_refl _
  · have := le (a ++ o :: b)
    rw [z o h]
    omega
  · have := le (a ++ .list ys :: b)
    omega
theorem lip_one : Lip fun _ => 1 := by
  have z : ∀ o ∈ odds, tot (fun _ => 1) o ≤ 1 := odds_all (Nat.zero_le _) (Nat.zero_le _) (Nat.zero_le _) (fun _ => Nat.zero_le _) (Nat.le_refl _) (Nat.zero_le _) (Nat.zero_le _) (Nat.le_refl _) (Nat.le_refl _)
  have zl : ∀ o ∈ odds, totL (fun _ => 1) (itemsD o) = 0 := odds_all rfl rfl rfl (fun _ => rfl) rfl rfl rfl rfl rfl
  refine ⟨Nat.le_refl _, z, fun o h => by rw [zl o h]; exact Nat.zero_le _, fun a b d => (by omega), fun a b o h => ?_, fun a b xs ys => Nat.le_refl _, fun a b d o h => ?_, fun a b xs ys => (by omega)⟩
  · have := z o h
    omega
  · have := z o h
    omega
def isIfD : PyData → Bool
  | .str w => w == "if"
  | _ => false
/-- how near a tuple is to an if -/
def ifW (ds : List PyData) : Nat := min (min 2 (ds.countP isTupD) + min 1 (ds.countP isIfD) - 1) (min 2 (ds.length - 3))
theorem one_tup (d : PyData) : ((if isTupD d = true then 1 else 0) + (if isIfD d = true then 1 else 0) : Nat) ≤ 1 := by
  cases d with
  | str w =>
    show 0 + _ ≤ 1
    split <;> omega
  | tuple ds => exact Nat.le_refl 1
  | _ => exact Nat.zero_le _
theorem lip_if : Lip ifW := by
  have z : ∀ o ∈ odds, tot ifW o = 0 := odds_all rfl rfl rfl (fun _ => rfl) rfl rfl rfl rfl rfl
  have zl : ∀ o ∈ odds, totL ifW (itemsD o) = 0 := odds_all rfl rfl rfl (fun _ => rfl) rfl rfl rfl rfl rfl
  refine ⟨Nat.zero_le _, fun o h => by rw [z o h]; exact Nat.zero_le _, fun o h => by rw [zl o h]; exact Nat.zero_le _, fun a b d => ?_, fun a b o h => ?_, fun a b xs ys => ?_, fun a b d o h => ?_, fun a b xs ys => ?_⟩
  · unfold ifW
    rw [List.countP_append, List.countP_append, List.countP_append, List.countP_append, List.countP_cons, List.countP_cons, List.length_append, List.length_append, List.length_cons]
    have := one_tup d
    omega
  · rw [z o h]
    unfold ifW
    rw [List.countP_append, List.countP_append, List.countP_append, List.countP_append, List.countP_cons, List.countP_cons, List.length_append, List.length_append, List.length_cons]
    have := one_tup o
    omega
  · unfold ifW
    rw [List.countP_append, List.countP_append, List.countP_append, List.countP_append, List.countP_cons, List.countP_cons, List.countP_cons, List.countP_cons, List.length_append, List.length_append, List.length_cons, List.length_cons]
    exact Nat.le_refl _
  · rw [z o h]
    unfold ifW
    rw [List.countP_append, List.countP_append, List.countP_append, List.countP_append, List.countP_cons, List.countP_cons, List.countP_cons, List.countP_cons, List.length_append, List.length_append, List.length_cons, List.length_cons]
    have h1 := one_tup o
    have h2 := one_tup d
    omega
  · unfold ifW
    rw [List.countP_append, List.countP_append, List.countP_append, List.countP_append, List.countP_cons, List.countP_cons, List.countP_cons, List.countP_cons, List.length_append, List.length_append, List.length_cons, List.length_cons]
    show min (min 2 (_ + (_ + 0)) + min 1 (_ + (_ + 0)) - 1) _ ≤ min (min 2 (_ + (_ + 1)) + min 1 (_ + (_ + 0)) - 1) _ + 1
    omega
def isLet (w : Str) : Bool := decide (w = "get" ∨ w = "put")
def isSet (w : Str) : Bool := decide (w = "set")
end OM

namespace OM
open PySem PySem.Spec PyProof.Rows L2
theorem totL_strs (φ : List PyData → Nat) : ∀ l : List Str, totL φ (l.map PyData.str) = 0
  | [] => rfl
  | x :: r => by
    show 0 + totL φ (r.map PyData.str) = 0
    rw [totL_strs φ r]
theorem regs_plain : ∀ a ∈ regs4, isLet a = false ∧ isSet a = false ∧ (a == "if") = false := by decide +kernel
theorem cells_plain : ∀ a ∈ cells3, isLet a = false ∧ isSet a = false ∧ (a == "if") = false := by decide +kernel
theorem ifW_short {ds : List PyData} (h : ds.length ≤ 3) : ifW ds = 0 := by
  unfold ifW
  have : ds.length - 3 = 0 := by omega
  rw [this]
  simp
theorem head_regs {P : Str → Bool} {as : List Str} (h : ∀ a ∈ as, P a = false) : headW P (as.map PyData.str) = 0 := by
  cases as with
  | nil => rfl
  | cons a r =>
    show (if P a = true then 1 else 0) = 0
    rw [h a List.mem_cons_self]
    rfl
theorem head_no {P : Str → Bool} {w : Str} {r : List PyData} (h : P w = false) : headW P (.str w :: r) = 0 := by
  show (if P w = true then 1 else 0) = 0
  rw [h]
  rfl
theorem CoD.head {n : Nat} {ds : List PyData} {l s t z : Nat} (h : CoD n ds l s t z) (P : Str → Bool) : headW P ds = 0 := by
  cases h with
  | nil => rfl
  | cons h r => cases h <;> rfl
def Bd (d : PyData) (l s t z : Nat) : Prop := tot (headW isLet) d ≤ l ∧ tot (headW isSet) d ≤ s ∧ tot (fun _ => 1) d ≤ z + 2 * t + s ∧ tot ifW d ≤ 2 * t ∧ z ≤ 1 + 4 * t
def BdL (ds : List PyData) (l s t z : Nat) : Prop := totL (headW isLet) ds ≤ l ∧ totL (headW isSet) ds ≤ s ∧ totL (fun _ => 1) ds ≤ z + 2 * t + s ∧ totL ifW ds ≤ 2 * t ∧ z ≤ ds.length + 4 * t
mutual
theorem StD.w : ∀ {n : Nat} {d : PyData} {l s t z : Nat}, StD n d l s t z → Bd d l s t z
  | _, _, _, _, _, _, .read (r := r) (x := x) hr hx => by
    refine ⟨?_, ?_, ?_, ?_, by omega⟩ <;> rw [tot_tup]
    · rw [head_no (by decide +kernel)]
      exact Nat.le_refl 0
    · rw [head_no (by decide +kernel)]
      exact Nat.le_refl 0
    · exact Nat.le_refl 1
    · rw [ifW_short (by show 3 ≤ 3; decide)]
      exact Nat.le_refl 0
  | _, _, _, _, _, _, .write (r := r) (x := x) hx hr => by
    refine ⟨?_, ?_, ?_, ?_, by omega⟩ <;> rw [tot_tup]
    · rw [head_no (by decide +kernel)]
      exact Nat.le_refl 0
    · rw [head_no (by decide +kernel)]
      exact Nat.le_refl 0
    · exact Nat.le_refl 1
    · rw [ifW_short (by show 3 ≤ 3; decide)]
      exact Nat.le_refl 0
  | _, _, _, _, _, _, .copy (r := r) (a := a) hr ha => by
    refine ⟨?_, ?_, ?_, ?_, by omega⟩ <;> rw [tot_tup]
    · rw [head_no (by decide +kernel)]
      exact Nat.le_refl 0
    · rw [head_no (by decide +kernel)]
      exact Nat.le_refl 0
    · exact Nat.le_refl 1
    · rw [ifW_short (by show 3 ≤ 3; decide)]
      exact Nat.le_refl 0
  | _, _, _, _, _, _, .letter (w := w) (r := r) hw hr => by
    refine ⟨?_, ?_, ?_, ?_, by omega⟩ <;> rw [tot_tup]
    · have := headW_le isLet [.str w, .str r]
      show _ + 0 ≤ 1
      omega
    · rw [head_no (by rcases hw with rfl | rfl <;> decide +kernel)]
      exact Nat.le_refl 0
    · exact Nat.le_refl 1
    · rw [ifW_short (by show 2 ≤ 3; decide)]
      exact Nat.le_refl 0
  | _, _, _, _, _, _, .set (r := r) (f := f) (as := as) hr hf ha hl => by
    have e : ∀ φ : List PyData → Nat, tot φ (.tuple [.str "set", .str r, .str f, .tuple (as.map PyData.str)]) = φ [.str "set", .str r, .str f, .tuple (as.map PyData.str)] + φ (as.map PyData.str) := fun φ => by
      rw [tot_tup]
      show _ + (0 + (0 + (0 + (tot φ (.tuple (as.map PyData.str)) + 0)))) = _
      rw [tot_tup, totL_strs]
      omega
    refine ⟨?_, ?_, ?_, ?_, by omega⟩ <;> rw [e]
    · rw [head_no (by decide +kernel), head_regs fun a h => (regs_plain a (ha a h)).1]
      exact Nat.le_refl 0
    · have := headW_le isSet [.str "set", .str r, .str f, .tuple (as.map PyData.str)]
      rw [head_regs fun a h => (regs_plain a (ha a h)).2.1]
      exact this
    · exact Nat.le_refl 2
    · rw [ifW_short (ds := as.map PyData.str) (by rw [List.length_map]; omega)]
      have h1 := (regs_plain r hr).2.2
      have h2 : (f == "if") = false := by rcases hf with rfl | rfl <;> decide +kernel
      have h3 : ("set" == ("if" : Str)) = false := by decide +kernel
      have c1 : [PyData.str "set", .str r, .str f, .tuple (as.map PyData.str)].countP isIfD = 0 := by
        simp [List.countP_cons, isIfD, h1, h2, h3]
      have c2 : [PyData.str "set", .str r, .str f, .tuple (as.map PyData.str)].countP isTupD = 1 := by
        simp [List.countP_cons, isTupD]
      unfold ifW
      rw [c1, c2]
      exact Nat.le_of_eq (by simp)
  | _, _, _, _, _, _, .iff (p := p) (r := r) (ys := ys) (ns := ns) hp hr hy hyl hn hnl => by
    have e : ∀ φ : List PyData → Nat, tot φ (.tuple [.str "if", .str p, .str r, .tuple ys, .tuple ns]) = φ [.str "if", .str p, .str r, .tuple ys, .tuple ns] + ((φ ys + totL φ ys) + (φ ns + totL φ ns)) := fun φ => by
      rw [tot_tup]
      show _ + (0 + (0 + (0 + (tot φ (.tuple ys) + (tot φ (.tuple ns) + 0))))) = _
      rw [tot_tup, tot_tup]
      omega
    obtain ⟨a1, a2, a3, a4, a5⟩ := CoD.w hy
    obtain ⟨b1, b2, b3, b4, b5⟩ := CoD.w hn
    refine ⟨?_, ?_, ?_, ?_, by omega⟩
    · rw [e, head_no (by decide +kernel), hy.head, hn.head]
      omega
    · rw [e, head_no (by decide +kernel), hy.head, hn.head]
      omega
    · rw [e]
      show 1 + ((1 + totL (fun _ => 1) ys) + (1 + totL (fun _ => 1) ns)) ≤ _
      omega
    · rw [e, ifW_short (ds := ys) (by omega), ifW_short (ds := ns) (by omega)]
      have : ifW [.str "if", .str p, .str r, .tuple ys, .tuple ns] ≤ 2 := by
        unfold ifW
        exact Nat.le_trans (Nat.min_le_right _ _) (Nat.min_le_left _ _)
      omega
theorem CoD.w : ∀ {n : Nat} {ds : List PyData} {l s t z : Nat}, CoD n ds l s t z → BdL ds l s t z
  | _, _, _, _, _, _, .nil => ⟨Nat.le_refl 0, Nat.le_refl 0, Nat.le_refl 0, Nat.le_refl 0, Nat.le_refl 0⟩
  | _, _, _, _, _, _, .cons h r => by
    obtain ⟨a1, a2, a3, a4, a5⟩ := StD.w h
    obtain ⟨b1, b2, b3, b4, b5⟩ := CoD.w r
    refine ⟨?_, ?_, ?_, ?_, ?_⟩
    · rw [totL_cons]; omega
    · rw [totL_cons]; omega
    · rw [totL_cons]; omega
    · rw [totL_cons]; omega
    · rw [List.length_cons]; omega
end
/-- drawn code, and what comes of it by one spoil or two -/
inductive Rch (c : PyData) : PyData → Prop where
  | zero : Rch c c
  | one {d : PyData} (h : SpR c d) : Rch c d
  | two {m d : PyData} (h : SpR c m) (k : SpR m d) : Rch c d
theorem Rch.le {φ : List PyData → Nat} (L : Lip φ) {c d : PyData} (r : Rch c d) : totL φ (itemsD d) ≤ totL φ (itemsD c) + 2 := by
  cases r with
  | zero => omega
  | one h =>
    have := (h.tot L).2
    omega
  | two h k =>
    have h1 := (h.tot L).2
    have h2 := (k.tot L).2
    omega
def kindW (w : Str) (rest : List PyData) : Str := if w = "get" ∨ w = "put" then "letter" else if w = "set" then (match rest with | [_, _, .tuple []] => "constant" | _ => "set") else w
theorem row_own {n : Nat} {e : PyData} (row : rowD (cdOf n) e = true) : ownD "letter" e ≤ tupW (headW isLet) e ∧ ownD "set" e ≤ tupW (headW isSet) e ∧ 2 * ownD "if" e ≤ tupW ifW e ∧ 1 ≤ tupW (fun _ => 1) e := by
  obtain ⟨w, rest, rs, rfl, hf, hlen, fits⟩ := rowD_shape row
  have kd : kindD (.tuple (.str w :: rest)) = kindW w rest := rfl
  refine ⟨?_, ?_, ?_, Nat.le_refl 1⟩
  · unfold ownD
    split
    · rename_i h
      rw [kd] at h
      unfold kindW at h
      split at h
      · rename_i g
        show 1 ≤ (if isLet w = true then 1 else 0)
        rw [if_pos (show isLet w = true from decide_eq_true g)]
        exact Nat.le_refl 1
      · split at h
        · split at h <;> exact absurd h (by decide +kernel)
        · rw [h, show formOf "letter" = none by decide +kernel] at hf
          cases hf
    · exact Nat.zero_le _
  · unfold ownD
    split
    · rename_i h
      rw [kd] at h
      unfold kindW at h
      split at h
      · exact absurd h (by decide +kernel)
      · split at h
        · rename_i g
          show 1 ≤ (if isSet w = true then 1 else 0)
          rw [if_pos (show isSet w = true from decide_eq_true g)]
          exact Nat.le_refl 1
        · rename_i g
          exact absurd h g
    · exact Nat.zero_le _
  · unfold ownD
    split
    · rename_i h
      rw [kd] at h
      unfold kindW at h
      split at h
      · exact absurd h (by decide +kernel)
      · split at h
        · split at h <;> exact absurd h (by decide +kernel)
        · subst h
          rcases row_iff row with ⟨m, p, r, ys, ns, _, e, _⟩ | ⟨w', rest', e, ne, _⟩
          · rw [e]
            show 2 * 1 ≤ ifW [.str "if", p, r, .tuple ys, .tuple ns]
            unfold ifW
            have c1 : 1 ≤ [PyData.str "if", p, r, .tuple ys, .tuple ns].countP isIfD := by
              rw [List.countP_cons]
              have : isIfD (.str "if") = true := by decide +kernel
              rw [this]
              simp
            have c2 : 2 ≤ [PyData.str "if", p, r, .tuple ys, .tuple ns].countP isTupD := by
              rw [List.countP_cons, List.countP_cons, List.countP_cons, List.countP_cons, List.countP_cons]
              have : ∀ zs, isTupD (.tuple zs) = true := fun _ => rfl
              rw [this, this]
              simp
              omega
            show 2 ≤ min (_ - 1) (min 2 (5 - 3))
            omega
          · have : w' = "if" := by
              injection e with e
              injection e with e _
              injection e with e
              exact e.symm
            exact absurd this ne
    · exact Nat.zero_le _
theorem wsum_two (ψ : PyData → Nat) (l : List PyData) : wsum (fun e => 2 * ψ e) l = 2 * wsum ψ l := by
  induction l with
  | nil => rfl
  | cons d r ih =>
    rw [wsum_cons, wsum_cons, ih]
    omega
theorem wsum_len (l : List PyData) : wsum (fun _ => 1) l = l.length := by
  induction l with
  | nil => rfl
  | cons d r ih =>
    rw [wsum_cons, ih, List.length_cons]
    omega
/-- code that came of drawn code by two spoils keeps every bound but the cells' -/
theorem reach_ok {ds0 : List PyData} {l s t z : Nat} {d : PyData} (cd : CoD 2 ds0 l s t z) (hlen : ds0.length ≤ 6) (hl : l ≤ 4) (hs : s ≤ 3) (ht : t ≤ 2) (r : Rch (.tuple ds0) d) (h : codeD 3 d = true) :
    (flatN 3 (itemsD d)).length ≤ 24 ∧ mostN 3 "letter" (itemsD d) ≤ 6 ∧ mostN 3 "set" (itemsD d) ≤ 6 ∧ mostN 3 "if" (itemsD d) ≤ 3 := by
  obtain ⟨w1, w2, w3, w4, w5⟩ := cd.w
  have r1 := r.le (lip_head isLet (by decide +kernel) (by decide +kernel))
  have r2 := r.le (lip_head isSet (by decide +kernel) (by decide +kernel))
  have r3 := r.le lip_one
  have r4 := r.le lip_if
  obtain ⟨ds, rfl, rows⟩ := code_tup h
  have good : ∀ e ∈ flatN 3 ds, ∃ m, rowD (cdOf m) e = true := fun e he => by
    obtain ⟨d0, hd0, hm⟩ := List.mem_flatMap.mp he
    exact rows_flatS (List.all_eq_true.mp rows d0 hd0) e hm
  have f1 := (flat_tot (headW isLet) 3).2 ds
  have f2 := (flat_tot (headW isSet) 3).2 ds
  have f3 := (flat_tot (fun _ => 1) 3).2 ds
  have f4 := (flat_tot ifW 3).2 ds
  have m1 := (most_sum "letter" 3).2 ds
  have m2 := (most_sum "set" 3).2 ds
  have m4 := (most_sum "if" 3).2 ds
  have o1 : wsum (ownD "letter") (flatN 3 ds) ≤ wsum (tupW (headW isLet)) (flatN 3 ds) := wsum_le fun e he => by obtain ⟨m, row⟩ := good e he; exact (row_own row).1
  have o2 : wsum (ownD "set") (flatN 3 ds) ≤ wsum (tupW (headW isSet)) (flatN 3 ds) := wsum_le fun e he => by obtain ⟨m, row⟩ := good e he; exact (row_own row).2.1
  have o4 : wsum (fun e => 2 * ownD "if" e) (flatN 3 ds) ≤ wsum (tupW ifW) (flatN 3 ds) := wsum_le fun e he => by obtain ⟨m, row⟩ := good e he; exact (row_own row).2.2.1
  have o3 : wsum (fun _ => 1) (flatN 3 ds) ≤ wsum (tupW fun _ => 1) (flatN 3 ds) := wsum_le fun e he => by obtain ⟨m, row⟩ := good e he; exact (row_own row).2.2.2
  rw [wsum_two] at o4
  rw [wsum_len] at o3
  have i0 : itemsD (.tuple ds0) = ds0 := rfl
  have i1 : itemsD (.tuple ds) = ds := rfl
  rw [i0, i1] at r1 r2 r3 r4
  rw [i1]
  exact ⟨by omega, by omega, by omega, by omega⟩
end OM

namespace OM
open PySem PySem.Spec PyProof.Rows L2
/-! ### weights of code -/
def W (ψ : PyData → Nat) (n : Nat) (ds : List PyData) : Nat := wsum ψ (flatN n ds)
def one : PyData → Nat := fun _ => 1
theorem flatN_ap (n : Nat) (a b : List PyData) : flatN n (a ++ b) = flatN n a ++ flatN n b := by
  unfold flatN
  rw [List.flatMap_append]
theorem flatN_cons (n : Nat) (d : PyData) (r : List PyData) : flatN n (d :: r) = flatS n d ++ flatN n r := rfl
theorem W_ap (ψ : PyData → Nat) (n : Nat) (a b : List PyData) : W ψ n (a ++ b) = W ψ n a + W ψ n b := by
  unfold W
  rw [flatN_ap, wsum_app]
theorem W_cons (ψ : PyData → Nat) (n : Nat) (d : PyData) (r : List PyData) : W ψ n (d :: r) = wsum ψ (flatS n d) + W ψ n r := by
  unfold W
  rw [flatN_cons, wsum_app]
theorem W_one (n : Nat) (ds : List PyData) : W one n ds = (flatN n ds).length := wsum_len _
theorem leafS {n : Nat} {d : PyData} (row : rowD (cdOf n) d = true) (h : inner2 d = []) : flatS n d = [d] := by
  rw [flatS_row row, h]
  rfl
theorem ifS {m : Nat} {p r : PyData} {ys ns : List PyData} (row : rowD (cdOf (m + 1)) (.tuple [.str "if", p, r, .tuple ys, .tuple ns]) = true) : flatS (m + 1) (.tuple [.str "if", p, r, .tuple ys, .tuple ns]) = .tuple [.str "if", p, r, .tuple ys, .tuple ns] :: (flatN m ys ++ flatN m ns) := by
  rw [flatS_row row]
  show _ :: [ys, ns].flatMap (flatN m) = _
  rw [List.flatMap_cons, List.flatMap_cons, List.flatMap_nil, List.append_nil]
theorem W_if {ψ : PyData → Nat} {m : Nat} {p r : PyData} {ys ns : List PyData} (row : rowD (cdOf (m + 1)) (.tuple [.str "if", p, r, .tuple ys, .tuple ns]) = true) : wsum ψ (flatS (m + 1) (.tuple [.str "if", p, r, .tuple ys, .tuple ns])) = ψ (.tuple [.str "if", p, r, .tuple ys, .tuple ns]) + (W ψ m ys + W ψ m ns) := by
  rw [ifS row, wsum_cons, wsum_app]
  rfl
theorem if_row {m : Nat} {p r : PyData} {ys ns : List PyData} (hp : isNameD p = true) (hr : isNameD r = true) (hy : ys.all (rowD (cdOf m)) = true) (hn : ns.all (rowD (cdOf m)) = true) : rowD (cdOf (m + 1)) (.tuple [.str "if", p, r, .tuple ys, .tuple ns]) = true := by
  have cy : cdOf (m + 1) (.tuple ys) = true := (codeD_tup m ys).trans hy
  have cn : cdOf (m + 1) (.tuple ns) = true := (codeD_tup m ns).trans hn
  rw [row_if, hp, hr, cy, cn]
  rfl
theorem leaf_any {n m : Nat} {w : Str} {rest : List PyData} (h : rowD (cdOf n) (.tuple (.str w :: rest)) = true) (ni : w ≠ "if") : rowD (cdOf m) (.tuple (.str w :: rest)) = true := by
  by_cases hs : w = "set"
  · subst hs
    by_cases hl : rest.length = 3
    · match rest, hl with
      | [a, b, c], _ =>
        rw [row_set] at h ⊢
        exact h
    · rw [row_set_len hl] at h
      cases h
  · rw [row_plain ni hs] at h ⊢
    exact h
/-- code stays code at a greater depth, with the same statements -/
theorem row_up : ∀ (n : Nat) {d : PyData}, rowD (cdOf n) d = true → rowD (cdOf (n + 1)) d = true ∧ flatS (n + 1) d = flatS n d := by
  intro n
  induction n with
  | zero =>
    intro d h
    rcases row_iff h with ⟨m, p, r, ys, ns, e, _⟩ | ⟨w, rest, rfl, ni, i0⟩
    · cases e
    · have h1 := leaf_any (m := 1) h ni
      exact ⟨h1, by rw [leafS h i0, leafS h1 i0]⟩
  | succ n ih =>
    intro d h
    rcases row_iff h with ⟨m, p, r, ys, ns, e, rfl, hy, hn, hp, hr⟩ | ⟨w, rest, rfl, ni, i0⟩
    · obtain rfl : m = n := by omega
      have up : ∀ {l : List PyData}, l.all (rowD (cdOf m)) = true → l.all (rowD (cdOf (m + 1))) = true ∧ flatN (m + 1) l = flatN m l := by
        intro l
        induction l with
        | nil => exact fun _ => ⟨rfl, rfl⟩
        | cons x l il =>
          intro hl
          rw [List.all_cons, Bool.and_eq_true] at hl
          obtain ⟨a1, a2⟩ := ih hl.1
          obtain ⟨b1, b2⟩ := il hl.2
          rw [List.all_cons, a1, b1, flatN_cons, flatN_cons, a2, b2]
          exact ⟨rfl, rfl⟩
      have h2 := if_row hp hr (up hy).1 (up hn).1
      exact ⟨h2, by rw [ifS h, ifS h2, (up hy).2, (up hn).2]⟩
    · have h1 := leaf_any (m := n + 2) h ni
      exact ⟨h1, by rw [leafS h i0, leafS h1 i0]⟩
theorem rows_up {n : Nat} : ∀ {l : List PyData}, l.all (rowD (cdOf n)) = true → l.all (rowD (cdOf (n + 1))) = true ∧ flatN (n + 1) l = flatN n l
  | [], _ => ⟨rfl, rfl⟩
  | x :: l, hl => by
    rw [List.all_cons, Bool.and_eq_true] at hl
    obtain ⟨a1, a2⟩ := row_up n hl.1
    obtain ⟨b1, b2⟩ := rows_up hl.2
    rw [List.all_cons, a1, b1, flatN_cons, flatN_cons, a2, b2]
    exact ⟨rfl, rfl⟩
theorem W_up {ψ : PyData → Nat} {n : Nat} {l : List PyData} (h : l.all (rowD (cdOf n)) = true) : W ψ (n + 1) l = W ψ n l := by
  unfold W
  rw [(rows_up h).2]
theorem own_if {p r y x : PyData} : ownD "if" (.tuple [.str "if", p, r, y, x]) = 1 := by
  unfold ownD
  rw [if_pos (by
    unfold kindD
    dsimp only
    rw [if_neg (by decide +kernel), if_neg (by decide +kernel)])]
/-- few ifs: not deep -/
theorem row_down : ∀ (n k : Nat) {d : PyData}, rowD (cdOf n) d = true → wsum (ownD "if") (flatS n d) ≤ k → rowD (cdOf k) d = true ∧ flatS k d = flatS n d := by
  intro n
  induction n with
  | zero =>
    intro k d h _
    rcases row_iff h with ⟨m, p, r, ys, ns, e, _⟩ | ⟨w, rest, rfl, ni, i0⟩
    · cases e
    · have h1 := leaf_any (m := k) h ni
      exact ⟨h1, by rw [leafS h i0, leafS h1 i0]⟩
  | succ n ih =>
    intro k d h hk
    rcases row_iff h with ⟨m, p, r, ys, ns, e, rfl, hy, hn, hp, hr⟩ | ⟨w, rest, rfl, ni, i0⟩
    · obtain rfl : m = n := by omega
      rw [W_if h, own_if] at hk
      obtain ⟨j, rfl⟩ : ∃ j, k = j + 1 := ⟨k - 1, by omega⟩
      have dn : ∀ {l : List PyData}, l.all (rowD (cdOf m)) = true → W (ownD "if") m l ≤ j → l.all (rowD (cdOf j)) = true ∧ flatN j l = flatN m l := by
        intro l
        induction l with
        | nil => exact fun _ _ => ⟨rfl, rfl⟩
        | cons x l il =>
          intro hl hw
          rw [List.all_cons, Bool.and_eq_true] at hl
          rw [W_cons] at hw
          obtain ⟨a1, a2⟩ := ih j hl.1 (by omega)
          obtain ⟨b1, b2⟩ := il hl.2 (by omega)
          rw [List.all_cons, a1, b1, flatN_cons, flatN_cons, a2, b2]
          exact ⟨rfl, rfl⟩
      have h2 := if_row hp hr (dn hy (by omega)).1 (dn hn (by omega)).1
      exact ⟨h2, by rw [ifS h, ifS h2, (dn hy (by omega)).2, (dn hn (by omega)).2]⟩
    · have h1 := leaf_any (m := k) h ni
      exact ⟨h1, by rw [leafS h i0, leafS h1 i0]⟩
theorem rows_down {n k : Nat} : ∀ {l : List PyData}, l.all (rowD (cdOf n)) = true → W (ownD "if") n l ≤ k → l.all (rowD (cdOf k)) = true ∧ flatN k l = flatN n l
  | [], _, _ => ⟨rfl, rfl⟩
  | x :: l, hl, hw => by
    rw [List.all_cons, Bool.and_eq_true] at hl
    rw [W_cons] at hw
    obtain ⟨a1, a2⟩ := row_down n k hl.1 (by omega)
    obtain ⟨b1, b2⟩ := rows_down (k := k) hl.2 (by omega)
    rw [List.all_cons, a1, b1, flatN_cons, flatN_cons, a2, b2]
    exact ⟨rfl, rfl⟩
/-! ### what a change does -/
/-- no statement with `show` -/
def ShW : PyData → Prop
  | .tuple (.str w :: _) => w ≠ "show"
  | _ => True
def cellOk (x : PyData) : Prop := (∀ c ∈ namesD "cell" x, c ∈ cells3) ∧ ShW x
def cellsOk (n : Nat) (ds : List PyData) : Prop := ∀ x ∈ flatN n ds, cellOk x
structure Gain (n : Nat) (ds e : List PyData) : Prop where
  rows : e.all (rowD (cdOf n)) = true
  lt : W (ownD "letter") n e ≤ W (ownD "letter") n ds
  st : W (ownD "set") n e ≤ W (ownD "set") n ds
  cel : cellsOk n ds → cellsOk n e
  g : (W one n e ≤ W one n ds + 2 ∧ W (ownD "if") n ds + 1 ≤ W (ownD "if") n e) ∨ (W one n e ≤ W one n ds + 1 ∧ W (ownD "if") n ds ≤ W (ownD "if") n e) ∨ W one n e ≤ W one n ds
theorem cells_ap {n : Nat} {a b : List PyData} : cellsOk n (a ++ b) ↔ cellsOk n a ∧ cellsOk n b := by
  unfold cellsOk
  rw [flatN_ap]
  constructor
  · exact fun h => ⟨fun x hx => h x (List.mem_append_left _ hx), fun x hx => h x (List.mem_append_right _ hx)⟩
  · rintro ⟨h1, h2⟩ x hx
    rcases List.mem_append.mp hx with z | z
    · exact h1 x z
    · exact h2 x z
theorem all_ap {p : PyData → Bool} {a b : List PyData} : (a ++ b).all p = true ↔ a.all p = true ∧ b.all p = true := by
  rw [List.all_append, Bool.and_eq_true]
theorem Gain.ctx {n : Nat} {a b m m' : List PyData} (h : Gain n m m') (ha : a.all (rowD (cdOf n)) = true) (hb : b.all (rowD (cdOf n)) = true) : Gain n (a ++ m ++ b) (a ++ m' ++ b) := by
  obtain ⟨h1, h2, h3, h4, h5⟩ := h
  refine ⟨all_ap.mpr ⟨all_ap.mpr ⟨ha, h1⟩, hb⟩, ?_, ?_, ?_, ?_⟩
  · simp only [W_ap]
    omega
  · simp only [W_ap]
    omega
  · simp only [cells_ap]
    exact fun ⟨⟨x, y⟩, z⟩ => ⟨⟨x, h4 y⟩, z⟩
  · simp only [W_ap]
    omega
theorem Gain.inY {m : Nat} {p r : PyData} {ys ys' ns : List PyData} (h : Gain m ys ys') (hp : isNameD p = true) (hr : isNameD r = true) (hy : ys.all (rowD (cdOf m)) = true) (hn : ns.all (rowD (cdOf m)) = true) : Gain (m + 1) [.tuple [.str "if", p, r, .tuple ys, .tuple ns]] [.tuple [.str "if", p, r, .tuple ys', .tuple ns]] := by
  obtain ⟨h1, h2, h3, h4, h5⟩ := h
  have r1 := if_row hp hr hy hn
  have r2 := if_row hp hr h1 hn
  have k : ∀ (k : Str) (y x : PyData), ownD k (.tuple [.str "if", p, r, y, x]) = ownD k (.tuple [.str "if", .none, .none, .none, .none]) := fun k y x => by
    unfold ownD kindD
    rfl
  have w : ∀ ψ : PyData → Nat, W ψ (m + 1) [] = 0 := fun _ => rfl
  refine ⟨by rw [List.all_cons, r2]; rfl, ?_, ?_, ?_, ?_⟩
  · rw [W_cons, W_cons, W_if r1, W_if r2, k, k "letter" (.tuple ys), w]
    omega
  · rw [W_cons, W_cons, W_if r1, W_if r2, k, k "set" (.tuple ys), w]
    omega
  · unfold cellsOk at h4 ⊢
    rw [flatN_cons, flatN_cons, ifS r1, ifS r2]
    intro h x hx
    have hx' : x ∈ PyData.tuple [.str "if", p, r, .tuple ys', .tuple ns] :: (flatN m ys' ++ flatN m ns) := by simpa [flatN] using hx
    rcases List.mem_cons.mp hx' with rfl | hx'
    · have := h (.tuple [.str "if", p, r, .tuple ys, .tuple ns]) (by simp)
      exact ⟨fun c hc => this.1 c hc, by show ("if" : Str) ≠ "show"; decide +kernel⟩
    · rcases List.mem_append.mp hx' with z | z
      · exact h4 (fun y hy => h y (by simp [hy])) x z
      · exact h x (by simp [z])
  · rw [W_cons, W_cons, W_cons, W_cons, W_if r1, W_if r2, W_if r1, W_if r2, own_if, own_if, w, w]
    show (1 + _ + 0 ≤ 1 + _ + 0 + 2 ∧ _) ∨ (1 + _ + 0 ≤ 1 + _ + 0 + 1 ∧ _) ∨ 1 + _ + 0 ≤ 1 + _ + 0
    omega
end OM

namespace OM
open PySem PySem.Spec PyProof.Rows L2
theorem W_perm {ψ : PyData → Nat} {n : Nat} {a b : List PyData} (h : a.Perm b) : W ψ n a = W ψ n b := by
  induction h with
  | nil => rfl
  | cons x _ ih => rw [W_cons, W_cons, ih]
  | swap x y l =>
    rw [W_cons, W_cons, W_cons, W_cons]
    omega
  | trans _ _ h1 h2 => exact h1.trans h2
theorem Gain.perm {n : Nat} {ds e : List PyData} (h : ds.Perm e) (rows : ds.all (rowD (cdOf n)) = true) : Gain n ds e := by
  refine ⟨?_, Nat.le_of_eq (W_perm h).symm, Nat.le_of_eq (W_perm h).symm, fun c x hx => ?_, .inr (.inr (Nat.le_of_eq (W_perm h).symm))⟩
  · rw [List.all_eq_true] at rows ⊢
    exact fun x hx => rows x (h.mem_iff.mpr hx)
  · unfold flatN at hx
    obtain ⟨y, hy, hx⟩ := List.mem_flatMap.mp hx
    exact c x (List.mem_flatMap.mpr ⟨y, h.mem_iff.mpr hy, hx⟩)
theorem Gain.drop {n : Nat} {a b : List PyData} {r : PyData} (rows : (a ++ [r] ++ b).all (rowD (cdOf n)) = true) : Gain n (a ++ [r] ++ b) (a ++ b) := by
  obtain ⟨h1, h2⟩ := all_ap.mp rows
  obtain ⟨h3, h4⟩ := all_ap.mp h1
  refine ⟨all_ap.mpr ⟨h3, h2⟩, ?_, ?_, ?_, .inr (.inr ?_)⟩
  · simp only [W_ap]
    omega
  · simp only [W_ap]
    omega
  · simp only [cells_ap]
    exact fun ⟨⟨x, y⟩, z⟩ => ⟨x, z⟩
  · simp only [W_ap]
    omega
/-- a plain statement: no letter, no set, no if -/
structure Leaf (e : PyData) : Prop where
  row : ∀ n, rowD (cdOf n) e = true
  inn : inner2 e = []
  l0 : ownD "letter" e = 0
  s0 : ownD "set" e = 0
  i0 : ownD "if" e = 0
theorem Leaf.s {e : PyData} (h : Leaf e) (n : Nat) : flatS n e = [e] := leafS (h.row n) h.inn
theorem Leaf.w {e : PyData} (h : Leaf e) (n : Nat) (ψ : PyData → Nat) : W ψ n [e] = ψ e := by
  rw [W_cons, h.s n]
  show ψ e + 0 + 0 = _
  omega
theorem leaf_of {n : Nat} {w : Str} {rest : List PyData} (row : rowD (cdOf n) (.tuple (.str w :: rest)) = true) (h1 : w ≠ "if") (h2 : w ≠ "get") (h3 : w ≠ "put") (h4 : w ≠ "set") : Leaf (.tuple (.str w :: rest)) := by
  have k : kindD (.tuple (.str w :: rest)) = w := by
    unfold kindD
    dsimp only
    rw [if_neg (fun z => z.elim h2 h3), if_neg h4]
  have hw : formOf w ≠ none := by
    intro z
    rw [rowD_no z] at row
    cases row
  have wl : w ≠ "letter" := fun z => hw (by rw [z]; decide +kernel)
  refine ⟨fun m => leaf_any row h1, ?_, ?_, ?_, ?_⟩
  · rcases row_iff row with ⟨m, p, r, ys, ns, e, ed, _⟩ | ⟨w', rest', ed, ni, i0⟩
    · injection ed with ed
      injection ed with e1 _
      injection e1 with e1
      exact absurd e1 h1
    · exact i0
  · unfold ownD
    rw [k, if_neg wl]
  · unfold ownD
    rw [k, if_neg h4]
  · unfold ownD
    rw [k, if_neg h1]
theorem leaf_std {e : PyData} {l s t z : Nat} (h : StD 0 e l s t z) (hl : l ≤ 0) (hs : s ≤ 0) : Leaf e ∧ cellOk e := by
  have key : (∀ r ∈ regs4, ∀ x ∈ cells3, rowD (cdOf 0) (.tuple [.str "read", .str r, .str x]) = true ∧ rowD (cdOf 0) (.tuple [.str "write", .str x, .str r]) = true ∧ (∀ c ∈ namesD "cell" (.tuple [.str "read", .str r, .str x]), c ∈ cells3) ∧ (∀ c ∈ namesD "cell" (.tuple [.str "write", .str x, .str r]), c ∈ cells3)) := by decide +kernel
  have key2 : (∀ r ∈ regs4, ∀ x ∈ regs4, rowD (cdOf 0) (.tuple [.str "copy", .str r, .str x]) = true ∧ (∀ c ∈ namesD "cell" (.tuple [.str "copy", .str r, .str x]), c ∈ cells3)) := by decide +kernel
  cases h with
  | read hr hx => exact ⟨leaf_of (key _ hr _ hx).1 (by decide +kernel) (by decide +kernel) (by decide +kernel) (by decide +kernel), (key _ hr _ hx).2.2.1, by show ("read" : Str) ≠ "show"; decide +kernel⟩
  | write hx hr => exact ⟨leaf_of (key _ hr _ hx).2.1 (by decide +kernel) (by decide +kernel) (by decide +kernel) (by decide +kernel), (key _ hr _ hx).2.2.2, by show ("write" : Str) ≠ "show"; decide +kernel⟩
  | copy hr ha => exact ⟨leaf_of (key2 _ hr _ ha).1 (by decide +kernel) (by decide +kernel) (by decide +kernel) (by decide +kernel), (key2 _ hr _ ha).2, by show ("copy" : Str) ≠ "show"; decide +kernel⟩
  | letter hw hr => omega
  | set hr hf ha hl => omega
theorem Gain.add {n : Nat} {a b : List PyData} {e : PyData} (rows : (a ++ b).all (rowD (cdOf n)) = true) (L : Leaf e) (c : cellsOk n (a ++ b) → cellOk e) : Gain n (a ++ b) (a ++ [e] ++ b) := by
  obtain ⟨h1, h2⟩ := all_ap.mp rows
  refine ⟨all_ap.mpr ⟨all_ap.mpr ⟨h1, by rw [List.all_cons, L.row n]; rfl⟩, h2⟩, ?_, ?_, fun z => ?_, .inr (.inl ?_)⟩
  · simp only [W_ap, L.w, L.l0]
    omega
  · simp only [W_ap, L.w, L.s0]
    omega
  · have ce := c z
    simp only [cells_ap] at z ⊢
    refine ⟨⟨z.1, fun x hx => ?_⟩, z.2⟩
    rw [flatN_cons, L.s n] at hx
    have : x = e := by simpa [flatN] using hx
    rw [this]
    exact ce
  · simp only [W_ap, L.w, L.i0]
    show _ + 1 + _ ≤ _ ∧ _
    omega
theorem Gain.wrap {n : Nat} {a b : List PyData} {e p r : PyData} (rows : (a ++ [e] ++ b).all (rowD (cdOf (n + 1))) = true) (L : Leaf e) (hp : isNameD p = true) (hr : isNameD r = true) : Gain (n + 1) (a ++ [e] ++ b) (a ++ [.tuple [.str "if", p, r, .tuple [e], .tuple [e]]] ++ b) := by
  obtain ⟨h1, h2⟩ := all_ap.mp rows
  obtain ⟨h3, h4⟩ := all_ap.mp h1
  have re : [e].all (rowD (cdOf n)) = true := by
    rw [List.all_cons, L.row n]
    rfl
  have ri := if_row hp hr re re
  have k : ∀ k : Str, k ≠ "if" → ownD k (.tuple [.str "if", p, r, .tuple [e], .tuple [e]]) = 0 := fun k hk => by
    unfold ownD
    rw [if_neg (by
      unfold kindD
      dsimp only
      rw [if_neg (by decide +kernel), if_neg (by decide +kernel)]
      exact fun z => hk z.symm)]
  have w : ∀ ψ : PyData → Nat, W ψ (n + 1) [.tuple [.str "if", p, r, .tuple [e], .tuple [e]]] = ψ (.tuple [.str "if", p, r, .tuple [e], .tuple [e]]) + (ψ e + ψ e) := fun ψ => by
    rw [W_cons, W_if ri, L.w]
    rfl
  refine ⟨all_ap.mpr ⟨all_ap.mpr ⟨h3, by rw [List.all_cons, ri]; rfl⟩, h2⟩, ?_, ?_, fun z => ?_, .inl ?_⟩
  · simp only [W_ap, L.w, w, L.l0, k "letter" (by decide +kernel)]
    omega
  · simp only [W_ap, L.w, w, L.s0, k "set" (by decide +kernel)]
    omega
  · simp only [cells_ap] at z ⊢
    refine ⟨⟨z.1.1, fun x hx => ?_⟩, z.2⟩
    have ze : cellOk e := z.1.2 e (by rw [flatN_cons, L.s]; simp)
    rw [flatN_cons, ifS ri, flatN_cons, L.s] at hx
    have hx' : x = .tuple [.str "if", p, r, .tuple [e], .tuple [e]] ∨ x = e := by simpa [flatN] using hx
    rcases hx' with rfl | rfl
    · refine ⟨fun c hc => ?_, by show ("if" : Str) ≠ "show"; decide +kernel⟩
      have e4 : formOf "if" = some (["test", "register", "code", "code"] : List Str) := by decide +kernel
      have : namesD "cell" (.tuple [.str "if", p, r, .tuple [e], .tuple [e]]) = [] := by
        show (match formOf "if" with | some rs => (List.zipWith (nmD "cell") [p, r, .tuple [e], .tuple [e]] rs).flatten | none => []) = _
        rw [e4]
        show (nmD "cell" p "test" ++ (nmD "cell" r "register" ++ (nmD "cell" (.tuple [e]) "code" ++ (nmD "cell" (.tuple [e]) "code" ++ [])))) = []
        unfold nmD
        rw [if_neg (by decide +kernel), if_neg (by decide +kernel), if_neg (by decide +kernel), if_neg (by decide +kernel), if_neg (by decide +kernel), if_neg (by decide +kernel)]
        rfl
      rw [this] at hc
      cases hc
    · exact ze
  · simp only [W_ap, L.w, w, L.i0, own_if]
    show _ + (1 + (1 + 1)) + _ ≤ _ + 1 + _ + 2 ∧ _
    omega
theorem Gain.inN {m : Nat} {p r : PyData} {ys ns ns' : List PyData} (h : Gain m ns ns') (hp : isNameD p = true) (hr : isNameD r = true) (hy : ys.all (rowD (cdOf m)) = true) (hn : ns.all (rowD (cdOf m)) = true) : Gain (m + 1) [.tuple [.str "if", p, r, .tuple ys, .tuple ns]] [.tuple [.str "if", p, r, .tuple ys, .tuple ns']] := by
  obtain ⟨h1, h2, h3, h4, h5⟩ := h
  have r1 := if_row hp hr hy hn
  have r2 := if_row hp hr hy h1
  have k : ∀ (k : Str) (y x : PyData), ownD k (.tuple [.str "if", p, r, y, x]) = ownD k (.tuple [.str "if", .none, .none, .none, .none]) := fun k y x => by
    unfold ownD kindD
    rfl
  have w : ∀ ψ : PyData → Nat, W ψ (m + 1) [] = 0 := fun _ => rfl
  refine ⟨by rw [List.all_cons, r2]; rfl, ?_, ?_, ?_, ?_⟩
  · rw [W_cons, W_cons, W_if r1, W_if r2, k, k "letter" _ (.tuple ns), w]
    omega
  · rw [W_cons, W_cons, W_if r1, W_if r2, k, k "set" _ (.tuple ns), w]
    omega
  · unfold cellsOk at h4 ⊢
    rw [flatN_cons, flatN_cons, ifS r1, ifS r2]
    intro h x hx
    have hx' : x ∈ PyData.tuple [.str "if", p, r, .tuple ys, .tuple ns'] :: (flatN m ys ++ flatN m ns') := by simpa [flatN] using hx
    rcases List.mem_cons.mp hx' with rfl | hx'
    · have := h (.tuple [.str "if", p, r, .tuple ys, .tuple ns]) (by simp)
      exact ⟨fun c hc => this.1 c hc, by show ("if" : Str) ≠ "show"; decide +kernel⟩
    · rcases List.mem_append.mp hx' with z | z
      · exact h x (by simp [z])
      · exact h4 (fun y hy => h y (by simp [hy])) x z
  · rw [W_cons, W_cons, W_cons, W_cons, W_if r1, W_if r2, W_if r1, W_if r2, own_if, own_if, w, w]
    show (1 + _ + 0 ≤ 1 + _ + 0 + 2 ∧ _) ∨ (1 + _ + 0 ≤ 1 + _ + 0 + 1 ∧ _) ∨ 1 + _ + 0 ≤ 1 + _ + 0
    omega
theorem Gain.up {n : Nat} {ds e : List PyData} (h : Gain n ds e) (rows : ds.all (rowD (cdOf n)) = true) : Gain (n + 1) ds e := by
  obtain ⟨h1, h2, h3, h4, h5⟩ := h
  have u := rows_up rows
  have v := rows_up h1
  refine ⟨v.1, ?_, ?_, ?_, ?_⟩
  · rw [W_up rows, W_up h1]
    exact h2
  · rw [W_up rows, W_up h1]
    exact h3
  · unfold cellsOk at h4 ⊢
    rw [u.2, v.2]
    exact h4
  · rw [W_up rows, W_up h1, W_up rows, W_up h1]
    exact h5
end OM

namespace OM
open PySem PySem.Spec PyProof.Rows L2
/-- t[lo:hi], as one way -/
theorem sl_one {K : PySem.W.Frag} {a : Addr} {xs : List V} {lo hi : Option Int} {H : Hp} {Q : VK} (ea : H a = some (.tup xs)) (q : ∀ c H', Same H H' → (c = a ∨ H c = none) → H' c = some (.tup (cutV xs lo hi)) → Q (.ref c) H') : rSlA K (.ref a) lo hi H Q := by
  refine ⟨a, xs, rfl, SqT.of ea, fun hw => ?_, fun _ p hp => q p _ (same_upd hp) (.inr hp) upd_same⟩
  have e : cutV xs lo hi = xs := by
    unfold cutV
    rw [hw.1, hw.2, List.drop_zero, Nat.sub_zero, List.take_length]
  exact q a H (Same.refl H) (.inl rfl) (by rw [e]; exact ea)
/-- t + u, as one way -/
theorem cat_one {K : PySem.W.Frag} {a b : Addr} {xs ys : List V} {H : Hp} {Q : VK} (ea : H a = some (.tup xs)) (eb : H b = some (.tup ys)) (sz : xs.length + ys.length ≤ sizeLine) (q : ∀ c H', Same H H' → (c = a ∨ c = b ∨ H c = none) → H' c = some (.tup (xs ++ ys)) → Q (.ref c) H') : rCatA K (.ref a) (.ref b) H Q := by
  refine ⟨a, b, xs, ys, rfl, rfl, SqT.of ea, SqT.of eb, sz, fun e => q b H (Same.refl H) (.inr (.inl rfl)) (by rw [e]; exact eb), fun _ e => q a H (Same.refl H) (.inl rfl) (by rw [e, List.append_nil]; exact ea), fun _ _ p hp => q p _ (same_upd hp) (.inr (.inr hp)) upd_same⟩
theorem cut_take (xs : List V) {i : Nat} (h : i ≤ xs.length) : cutV xs none (some (i : Int)) = xs.take i := by
  unfold cutV
  rw [HT.sIx_nat, HT.sIx_none, List.drop_zero, Nat.sub_zero, Nat.min_eq_left h]
theorem cut_drop (xs : List V) {i : Nat} (h : i ≤ xs.length) : cutV xs (some (i : Int)) none = xs.drop i := by
  unfold cutV
  rw [HT.sIx_nat, HT.sIx_none, Nat.min_eq_left h, ← List.length_drop, List.take_length]
mutual
/-- the longest list or tuple in a datum -/
def widN : PyData → Nat
  | .list xs => max xs.length (widL xs)
  | .tuple xs => max xs.length (widL xs)
  | _ => 0
def widL : List PyData → Nat
  | [] => 0
  | x :: r => max (widN x) (widL r)
end
theorem depthAll_cons (x : PyData) (r : List PyData) : PyData.depthAll (x :: r) = max x.depth (PyData.depthAll r) := by rw [PyData.depthAll]
theorem smlAll_cons (x : PyData) (r : List PyData) : smlAll (x :: r) = (smlD x && smlAll r) := by rw [smlAll]
theorem widL_cons (x : PyData) (r : List PyData) : widL (x :: r) = max (widN x) (widL r) := by rw [widL]
theorem widL_app : ∀ (a b : List PyData), widL (a ++ b) = max (widL a) (widL b)
  | [], b => (Nat.zero_max _).symm
  | x :: r, b => by
    show max (widN x) (widL (r ++ b)) = max (max (widN x) (widL r)) (widL b)
    rw [widL_app r b, Nat.max_assoc]
theorem wid_tup (ds : List PyData) : widN (.tuple ds) = max ds.length (widL ds) := by unfold widN; rfl
theorem wid_lst (ds : List PyData) : widN (.list ds) = max ds.length (widL ds) := by unfold widN; rfl
theorem depthAll_app : ∀ (a b : List PyData), PyData.depthAll (a ++ b) = max (PyData.depthAll a) (PyData.depthAll b)
  | [], b => (Nat.zero_max _).symm
  | x :: r, b => by
    show PyData.depthAll (x :: (r ++ b)) = max (PyData.depthAll (x :: r)) (PyData.depthAll b)
    rw [depthAll_cons, depthAll_cons, depthAll_app r b, Nat.max_assoc]
theorem dep_tup (ds : List PyData) : PyData.depth (.tuple ds) = PyData.depthAll ds + 1 := by unfold PyData.depth; first | rfl | omega
theorem dep_lst (ds : List PyData) : PyData.depth (.list ds) = PyData.depthAll ds + 1 := by unfold PyData.depth; first | rfl | omega
theorem smlAll_app : ∀ (a b : List PyData), smlAll (a ++ b) = (smlAll a && smlAll b)
  | [], b => rfl
  | x :: r, b => by
    show smlAll (x :: (r ++ b)) = (smlAll (x :: r) && smlAll b)
    rw [smlAll_cons, smlAll_cons, smlAll_app r b, Bool.and_assoc]
theorem sml_tup (ds : List PyData) : smlD (.tuple ds) = smlAll ds := by unfold smlD; rfl
theorem sml_lst (ds : List PyData) : smlD (.list ds) = smlAll ds := by unfold smlD; rfl
theorem odds_small : ∀ o ∈ odds, widN o ≤ 2 ∧ o.depth ≤ 1 ∧ smlD o = true := by
  intro o ho
  unfold odds at ho
  simp only [List.mem_cons, List.not_mem_nil, or_false] at ho
  rcases ho with rfl | rfl | rfl | rfl | rfl | rfl | rfl | rfl | rfl | rfl | rfl | rfl | rfl | rfl | rfl | rfl <;> decide +kernel
/-- a spoil leaves things about as small -/
theorem SpR.small : ∀ {d d' : PyData}, SpR d d' → widN d' ≤ widN d + 2 ∧ d'.depth ≤ d.depth + 2 ∧ (smlD d = true → smlD d' = true)
  | _, _, .odd h => by
    obtain ⟨h1, h2, h3⟩ := odds_small _ h
    exact ⟨by omega, by omega, fun _ => h3⟩
  | _, _, .del (ds := ds) i => by
    rcases drop_case ds i with ⟨d, e⟩ | e
    · have w : widL ds = max (widL (ds.take i)) (max (widN d) (widL (ds.drop (i + 1)))) := by
        conv => lhs; rw [e, widL_app, widL_cons]
      have p : PyData.depthAll ds = max (PyData.depthAll (ds.take i)) (max d.depth (PyData.depthAll (ds.drop (i + 1)))) := by
        conv => lhs; rw [e, depthAll_app, depthAll_cons]
      have l : ds.length = (ds.take i).length + ((ds.drop (i + 1)).length + 1) := by
        conv => lhs; rw [e, List.length_append, List.length_cons]
      have m : smlAll ds = (smlAll (ds.take i) && (smlD d && smlAll (ds.drop (i + 1)))) := by
        conv => lhs; rw [e, smlAll_app, smlAll_cons]
      rw [wid_tup, wid_tup, dep_tup, dep_tup, sml_tup, sml_tup, widL_app, depthAll_app, smlAll_app, List.length_append, m]
      refine ⟨by omega, by omega, fun h => ?_⟩
      simp only [Bool.and_eq_true] at h ⊢
      exact ⟨h.1, h.2.2⟩
    · rw [e]
      exact ⟨by omega, by omega, id⟩
  | _, _, .ins (ds := ds) (o := o) i h => by
    obtain ⟨h1, h2, h3⟩ := odds_small _ h
    have w : widL ds = max (widL (ds.take i)) (widL (ds.drop i)) := by conv => lhs; rw [← List.take_append_drop i ds, widL_app]
    have p : PyData.depthAll ds = max (PyData.depthAll (ds.take i)) (PyData.depthAll (ds.drop i)) := by conv => lhs; rw [← List.take_append_drop i ds, depthAll_app]
    have l : ds.length = (ds.take i).length + (ds.drop i).length := by conv => lhs; rw [← List.take_append_drop i ds, List.length_append]
    have m : smlAll ds = (smlAll (ds.take i) && smlAll (ds.drop i)) := by conv => lhs; rw [← List.take_append_drop i ds, smlAll_app]
    rw [wid_tup, wid_tup, dep_tup, dep_tup, sml_tup, sml_tup, widL_app, depthAll_app, smlAll_app, widL_cons, depthAll_cons, smlAll_cons, List.length_append, List.length_cons, m, h3]
    refine ⟨by omega, by omega, fun h => ?_⟩
    simpa using h
  | _, _, .lst (ds := ds) => by
    rw [wid_tup, wid_lst, dep_tup, dep_lst, sml_tup, sml_lst]
    exact ⟨by omega, by omega, id⟩
  | _, _, .sub (ds := ds) (d := d) (d' := d') i hi h => by
    have e := cut_at hi
    obtain ⟨h1, h2, h3⟩ := SpR.small h
    have w : widL ds = max (widL (ds.take i)) (max (widN d) (widL (ds.drop (i + 1)))) := by
      conv => lhs; rw [e, widL_app, widL_cons]
    have p : PyData.depthAll ds = max (PyData.depthAll (ds.take i)) (max d.depth (PyData.depthAll (ds.drop (i + 1)))) := by
      conv => lhs; rw [e, depthAll_app, depthAll_cons]
    have l : ds.length = (ds.take i).length + ((ds.drop (i + 1)).length + 1) := by
      conv => lhs; rw [e, List.length_append, List.length_cons]
    have m : smlAll ds = (smlAll (ds.take i) && (smlD d && smlAll (ds.drop (i + 1)))) := by
      conv => lhs; rw [e, smlAll_app, smlAll_cons]
    rw [wid_tup, wid_tup, dep_tup, dep_tup, sml_tup, sml_tup, widL_app, depthAll_app, smlAll_app, widL_cons, depthAll_cons, smlAll_cons, List.length_append, List.length_cons, m]
    refine ⟨by omega, by omega, fun h => ?_⟩
    simp only [Bool.and_eq_true] at h ⊢
    exact ⟨h.1, h3 h.2.1, h.2.2⟩
def spSpoilt : Nat → Sp
  | 0 => fun _ _ _ _ => False
  | n + 1 => fun vs H Q _ => ∃ (S : Addr → Prop) (d : Addr) (v : V) (e : PyData), vs = [.ref d, v] ∧ Dice H d ∧ Dt S H v e ∧ (∀ b, S b → b ≠ d) ∧ e.depth ≤ n ∧ widN e ≤ 900 ∧ ∀ H' v' e', But d H H' → Dice H' d → SpR e e' → Dt (fun b => S b ∨ H b = none) H' v' e' → Q v' H'
end OM

namespace OM
open PySem PySem.Spec PyProof.Rows L2
theorem sl_two {K : PySem.W.Frag} {a : Addr} {xs : List V} {lo : Option Int} {H : Hp} {Q : VK} {σ : L2.St} (ea : H a = some (.tup xs)) (q : ∀ c H', Same H H' → (c = a ∨ H c = none) → H' c = some (.tup (cutV xs lo none)) → Q (.ref c) H') : tNoPart σ H fun u H3 => rSlA K (.ref a) lo u H3 Q := sl_one ea q
theorem Dice.mv {H H' : Hp} {d : Addr} (s : Same H H') (h : Dice H d) : Dice H' d := by
  obtain ⟨a1, a2, a3, e⟩ := h
  exact ⟨a1, a2, a3, s _ _ e⟩
theorem But.tr {d : Addr} {H H1 H2 : Hp} (x : But d H H1) (y : But d H1 H2) : But d H H2 := fun b o hb e => y b o hb (x b o hb e)
theorem s_bt {d : Addr} {H H1 : Hp} (x : Same H H1) : But d H H1 := fun b o _ e => x b o e
/-- what was free stays free behind -/
theorem But.free {d : Addr} {H H1 : Hp} (x : But d H H1) (dn : H1 d ≠ none) {b : Addr} (h : H1 b = none) : H b = none := by
  cases y : H b with
  | none => rfl
  | some o =>
    by_cases e : b = d
    · rw [e] at h
      exact absurd h dn
    · rw [x b o e y] at h
      cases h
theorem dta_take {S : Addr → Prop} {H : Hp} : ∀ {xs : List V} {ds : List PyData} (i : Nat), DtAll S H xs ds → DtAll S H (xs.take i) (ds.take i)
  | _, _, 0, _ => .nil
  | _, _, i + 1, .nil => .nil
  | _, _, i + 1, .cons h r => .cons h (dta_take i r)
theorem dta_drop {S : Addr → Prop} {H : Hp} : ∀ {xs : List V} {ds : List PyData} (i : Nat), DtAll S H xs ds → DtAll S H (xs.drop i) (ds.drop i)
  | _, _, 0, h => h
  | _, _, i + 1, .nil => .nil
  | _, _, i + 1, .cons h r => dta_drop i r
section
variable {P : Program} {w : World} {K : PySem.W.Frag} {mg : Str → Option Value} {base : Heap} {f fR fO : Addr} {fd fdR fdO : FuncData}
end
end OM

namespace OM
open PySem PySem.Spec PyProof.Rows L2
theorem key_reads {h : Heap} {k : Key} {u : Value} (e : keyIs k u = true) : Reads h u (kD k) [] := by
  rcases keyIs_shape e with ⟨i, t, rfl, rfl⟩ | ⟨x, t, rfl, rfl⟩
  · exact .int i t
  · exact .str x t
theorem At.reads {h : Heap} {v : V} {u : Value} {d : PyData} (a : At v d) (r : RelV v u) : Reads h u d [] := by
  cases a with
  | non =>
    obtain rfl : u = Value.none := r
    exact .none
  | bl b =>
    obtain rfl : u = Value.bool b := r
    exact .bool b
  | int i =>
    obtain ⟨t, rfl⟩ : ∃ t, u = Value.int i t := r
    exact .int i t
  | str x =>
    obtain ⟨t, rfl⟩ : ∃ t, u = Value.str x t := r
    exact .str x t
section
variable {P : Program} {w : World} {H : Hp} {h : Heap} {S : Addr → Prop}
mutual
theorem Dt.reads (hok : HOk P w H h) : ∀ {v : V} {d : PyData} {u : Value}, Dt S H v d → RelV v u → ∃ as, Reads h u d as ∧ ∀ b ∈ as, H b ≠ none
  | _, _, _, .at a, r => ⟨[], a.reads r, fun _ z => nomatch z⟩
  | _, _, u, @Dt.lst _ _ a xs ds s e hl hx, r => by
    obtain rfl : u = Value.ref a := r
    obtain ⟨_, its, n, rv, eo⟩ := (show ObjOk P w H h a (.lst xs) from hok a _ e)
    obtain ⟨as, ra, na⟩ := DtAll.reads hok hx rv
    refine ⟨a :: as, .list eo rfl rfl (by simpa using ra), fun b hb => ?_⟩
    rcases List.mem_cons.mp hb with rfl | hb
    · rw [e]
      exact fun z => nomatch z
    · exact na b hb
  | _, _, u, @Dt.tup _ _ a xs ds s e hl hx, r => by
    obtain rfl : u = Value.ref a := r
    obtain ⟨_, its, rv, o, eo, ec, n, ed⟩ := (show ObjOk P w H h a (.tup xs) from hok a _ e)
    obtain ⟨as, ra, na⟩ := DtAll.reads hok hx rv
    exact ⟨as, .tuple eo ec ed (by simpa using ra), na⟩
  | _, _, u, @Dt.dic0 _ _ a s e, r => by
    obtain rfl : u = Value.ref a := r
    obtain ⟨_, _, vs, kv, o, es, ep, eo, ex, ed, ks, ps, _⟩ := (show ObjOk P w H h a (.dK []) from hok a _ e)
    cases kv
    have hes : es.toList = [] := by
      have := ps.length
      simpa using this
    refine ⟨a :: [] ++ [], .dict (kvs := []) eo ex.1 ed (by rw [hes]; exact .nil) (by rw [hes]; exact .nil), fun b hb => ?_⟩
    obtain rfl : b = a := by simpa using hb
    rw [e]
    exact fun z => nomatch z
  | _, _, u, @Dt.dic1 _ _ a k v d s e hd, r => by
    obtain rfl : u = Value.ref a := r
    obtain ⟨_, _, vs, kv, o, es, ep, eo, ex, ed, ks, ps, _⟩ := (show ObjOk P w H h a (.dK [(k, v)]) from hok a _ e)
    cases kv with
    | @cons _ q _ _ hq tl =>
      cases tl
      obtain ⟨ek, rv⟩ := hq
      have key : ∀ l, Pairs (mixKind P w) l [q] → ∃ e1, l = [e1] ∧ (mixKind P w).is q.1 e1.key = true ∧ e1.val = q.2 := fun l p => by
        cases p with
        | cons a b c =>
          cases c
          exact ⟨_, rfl, a, b⟩
      obtain ⟨e1, hes, hk, hv⟩ := key _ ps
      have ek' : k = q.1 := ek
      have hk' : keyIs k e1.key = true := by rw [ek']; exact hk
      have rv' : RelV v e1.val := by rw [hv]; exact rv
      refine ⟨a :: ([] ++ []) ++ ([] ++ []), .dict (kvs := [(kD k, d)]) eo ex.1 ed (by rw [hes]; exact .cons (key_reads hk') .nil) (by rw [hes]; exact .cons (hd.reads rv') .nil), fun b hb => ?_⟩
      obtain rfl : b = a := by simpa using hb
      rw [e]
      exact fun z => nomatch z
theorem DtAll.reads (hok : HOk P w H h) : ∀ {vs : List V} {ds : List PyData} {us : List Value}, DtAll S H vs ds → Vals vs us → ∃ as, ReadsAll h us ds as ∧ ∀ b ∈ as, H b ≠ none
  | _, _, _, .nil, .nil => ⟨[], .nil, fun _ z => nomatch z⟩
  | _, _, _, .cons hd tl, .cons r rs => by
    obtain ⟨as, ra, na⟩ := Dt.reads hok hd r
    obtain ⟨bs, rb, nb⟩ := DtAll.reads hok tl rs
    refine ⟨as ++ bs, .cons ra rb, fun b hb => ?_⟩
    rcases List.mem_append.mp hb with hb | hb
    · exact na b hb
    · exact nb b hb
end
end
/-- repr(x) of a datum -/
def rRep : List V → Hp → VK → Prop := fun xs H Q => ∃ (x : V) (d : PyData) (S : Addr → Prop), xs = [x] ∧ Dt S H x d ∧ d.showable = true ∧ d.depth ≤ 20 ∧ d.shown.length ≤ sizeLine ∧ Q (.str d.shown) H
theorem call_rep {X : Cx} (hg : X.A.guards = some []) (hu : X.A.units + 25 < cLine) (hs : ∃ o, X.base.get? sysModules = some o) : CallR X (.builtin "repr") rRep := by
  intro pins s σ H xs us Q I r h
  obtain ⟨x, d, S, rfl, hd, sh, dep, hz, q⟩ := h
  obtain ⟨u, rfl, ru⟩ := vals1 r
  obtain ⟨hp, g, dr, tk, os⟩ := s
  obtain ⟨as, rd, na⟩ := hd.reads I.hok ru
  obtain ⟨om, hom⟩ := hs
  have hns : sysModules ∉ as := fun z => na _ z (I.bs _ _ hom).2
  have big : ∀ {a : Addr}, u = Value.ref a → wpAny (model X.prog X.w) X.A (call (.builtin "repr") [u]) (EP X pins σ Q) X.xe ⟨hp, g, dr, tk, os⟩ := fun {a} e => by
    subst e
    exact repr_of_reads' rd sh (fun _ => hns) hg (by omega) (fun _ _ z => z) (fun h' u tk2 hk => ⟨.str d.shown, H, I.kept (t' := tk2) hk, ⟨_, rfl⟩, q⟩) hz
  cases hd with
  | «at» h =>
    cases h with
    | non =>
      obtain rfl : u = Value.none := ru
      exact PySem.P.repr_of_none ⟨.str _, H, I.tok _, ⟨_, rfl⟩, q⟩
    | bl b =>
      obtain rfl : u = Value.bool b := ru
      cases b with
      | true => exact PySem.P.repr_of_bool ⟨.str _, H, I.tok _, ⟨_, rfl⟩, q⟩
      | false => exact PySem.P.repr_of_bool ⟨.str _, H, I.tok _, ⟨_, rfl⟩, q⟩
    | int i =>
      obtain ⟨t, rfl⟩ : ∃ t, u = Value.int i t := ru
      have sh' : i.natAbs.log2 < 1920 := by
        unfold PyData.showable at sh
        exact of_decide_eq_true sh
      exact PySem.P.repr_of_int sh' ⟨.str _, H, I.tok _, ⟨_, rfl⟩, q⟩
    | str y =>
      obtain ⟨t, rfl⟩ : ∃ t, u = Value.str y t := ru
      exact PySem.P.repr_of_str ⟨.str _, H, I.tok _, ⟨_, rfl⟩, q⟩ hz
  | lst s e hl h => exact big ru
  | tup s e hl h => exact big ru
  | dic0 s e => exact big ru
  | dic1 s e h => exact big ru
end OM

namespace OM
open PySem PySem.Spec PyProof.Rows L2
/-- a function's promise, wherever no text is being shown around it -/
structure GFn (P : Program) (w : World) (K : PySem.W.Frag) (mg : Str → Option Value) (base : Heap) (n : Nat) (g : Addr) (gd : FuncData) (names : List Str) (sp : Sp) : Prop where
  cnt : ∀ xs H Q E, sp xs H Q E → xs.length = names.length
  go : ∀ (B : Around) (out : List Env) (z : Shared) (H : Hp) (ar : Args) (ws : List Value) (xs : List V) (Q : VK) (E : XK), B.guards = some [] → Room n B → Env0 P w K mg base B out z H → BindsTo z gd ar (names.zip ws) → Vals xs ws → sp xs H Q E →
    codeAny (model P w) B (.call (.ref g) ar) (CR CX0 out P w H z Q E) z
section
variable {P : Program} {w : World} {K : PySem.W.Frag} {mg : Str → Option Value} {base : Heap}
theorem gfn_of {x qual : Str} {st : Stmt} {g : Addr} {gd : FuncData} {N names : List Str} {n : Nat} {sp : Sp} (F : Fun K x qual st g gd) (S : FnScope N names (defScope st)) (cnt : ∀ xs H Q E, sp xs H Q E → xs.length = names.length)
    (bd : ∀ (cv : Value) (B : Around) (out : List Env) (z : Shared) (H : Hp) (xs : List V) (Q : VK) (E : XK), B.guards = some [] → Room n (B.deeper (envOfC qual (defScope st) z.heap.objs.size g cv)) → sp xs H Q E →
      ∃ t, PSs (cxOf CX0 P w K mg base N qual (defScope st) g cv B out z H E).nox (defBody st) t ∧ t { nx := fun _ H' => Q .non H', rt := Q } (start N xs) H) : GFn P w K mg base (n + 1) g gd names sp := by
  obtain ⟨oc, od, kV, doc, pm, an, cv, ct, osl, rfl, lk, hcd⟩ := F.ex
  refine ⟨cnt, fun B out z H ar ws xs Q E hg hr e0 hb rv hs => ?_⟩
  have kz : ∀ b o, base.get? b = some o → z.heap.get? b = some o := fun b o e => (e0.bs b o e).1
  have Kz : K.In z.heap := e0.mod.kin.keeps kz
  have hkinds : ∀ y ∈ names.zip ws, (defScope st).names.lookup y.1 = some .local ∨ ((defScope st).names.lookup y.1 = some .cell ∧ ((cellsFrom (z.heap.objs.size + 1) (defScope st).names []).lookup y.1).isSome = true) := by
    rintro ⟨m, v⟩ hy
    refine (S.par m (List.of_mem_zip hy).1).imp id fun c => ⟨c, PySem.W.cellsFrom_some _ _ _ (.inl c)⟩
  refine codeAny_call_function hr.depth (Kz _ _ lk) rfl S.co S.gen rfl (PySem.W.codeRec_of Kz hcd) (hb _ _ _ _ ?_)
  refine wpAny_newFunctionEnv_cells S.kind hkinds fun ev hev z1 ic => ?_
  subst hev
  refine ⟨(e0.mod.nolimit.keeps kz).keeps ic.toInCall.keep, codeAny_func ?_⟩
  obtain ⟨t, ht, hq⟩ := bd cv B out z H xs Q E hg (hr.deeper _) hs
  refine wpAny_mono (ht.nox.run [] z1 (start N xs) H _ (inv_start (CX := CX0) (E := E) S hr.hd e0 (cnt _ _ _ _ hs) rv ic) hq) (fun fl z2 h2 => ?_) fun _ _ h2 => h2
  cases fl with
  | ret u =>
    obtain ⟨v, σ2, H2, J, r2, q2⟩ := h2
    exact ⟨v, H2, J.os, J.bare, J.base, J.hok, r2, q2⟩
  | next =>
    obtain ⟨σ2, H2, J, q2⟩ := h2
    exact ⟨V.non, H2, J.os, J.bare, J.base, J.hok, (show RelV V.non Value.none from rfl), q2⟩
  | brk =>
    obtain ⟨_, _, _, q2⟩ := h2
    cases q2
  | cont =>
    obtain ⟨_, _, _, q2⟩ := h2
    cases q2
end
section
variable {X : Cx} {n : Nat} {g : Addr} {gd : FuncData} {names : List Str} {sp : Sp} {x : Str} {p pos : Pos} {e : Expr} {es : List Expr} {t : TA}
theorem pe_callG (G : GFn X.prog X.w X.K X.mg X.base n g gd names sp) (hgd : X.A.guards = some []) (hr : Room n X.A) (hg : Gl X x) (hm : X.mg x = some (.ref g)) (hk : PySem.W.keepIn X.K (.ref g) = true) (hb : Binds X.K gd names [])
    (ha : PA X (e :: es) t) (hdb : (x == ("__debug__" : Str)) = false := by decide) (h1 : starEach (e :: es) X.env = (false, eval e X.env) :: starEach es X.env := by rfl) (h2 : (backTo pos (starEach es X.env)).any (·.1) = false := by rfl) :
    PE X (.Call (.Name x p) (e :: es) [] pos) (tCall sp [] E0 t) := by
  refine ⟨fun pins s σ H Q I h => ?_⟩
  refine wpAny_Call_Name_kw (ld_glob I hg hm ?_ hdb)
  refine PySem.W.callWith_K (h₀ := X.base) I.ok.mod.kin hk (thn (ha.run pos pins s σ H _ I h) fun us z ⟨vs, H1, I1, r, q⟩ => ⟨I1.kIn, ?_⟩) h1 h2
  have q0 : sp (vs ++ []) H1 Q E0 := q
  rw [List.append_nil] at q0
  have hl : (us ++ []).length = names.length := by
    rw [List.append_nil, ← r.length]
    exact G.cnt _ _ _ _ q0
  have hbt := hb z us I1.kIn hl
  rw [List.append_nil] at hbt
  show wpAny (model X.prog X.w) X.A (call (.ref g) us) _ _ _
  refine wpAny_call (codeAny_mono (G.go X.A X.stack z H1 ⟨us, []⟩ us vs Q E0 hgd hr I1.env0 hbt r q0) fun res z' hq => ?_)
  match res, hq with
  | .ok (.ret u), hq => exact I1.after hq
  | .error er, hq => exact hq.elim
end
/-- the script is known, or held as it is; nothing else is -/
def Scr (K : PySem.W.Frag) (a : Addr) (H : Hp) : Prop := ∀ b u, H b = some u → b = a ∧ K.lookup a = none ∧ ∃ ob xs, u = HO.frz ob (.lst xs)
theorem run_law {P : Program} {w : World} {K : PySem.W.Frag} {mg mb : Str → Option Value} {n : Nat} {fa a : Addr} {gd : FuncData} {x : Str} {sp : Sp} {z : Shared} {vs : List Value} {H : Hp} (Kz : K.In z.heap) (ng : z.heap.Ns mainGlobals mg) (nb : z.heap.Ns builtinsNs mb)
    (bb : ∀ y : Str, y ≠ "__name__" → mb y = bootBuiltins y) (lim : z.heap.NoLimit) (sm : ∃ mm, z.heap.Ns sysModules mm) (hg : z.gens = #[]) (ha : z.heap.get? a = some { cls := .type "list", data := .seq vs.toArray }) (hr : Room n callerA)
    (F : ∀ base : Heap, K.In base → base.Ns mainGlobals mg → (∃ o, base.get? sysModules = some o) → GFn P w K mg base n fa gd [x] sp) (hbind : ∀ (s : Shared) (u : Value), BindsTo s gd ⟨[u], []⟩ [(x, u)])
    (hS : Scr K a H) (hok : HOk P w H z.heap) (hsp : sp [.ref a] H (fun v _ => v = .bl true) E0) :
    codeAny (model P w) callerA (.call (.ref fa) ⟨[.ref a], []⟩) (fun r z' => r = .ok (.ret (.bool true)) ∧ OldK z.heap z'.heap ∧ z'.os = z.os ∧ AllBare z'.gens) z := by
  have toB : ∀ {b : Addr} {m : Str → Option Value}, z.heap.Ns b m → (hidT z.heap H).Ns b m := by
    rintro b m ⟨o, es, ep, e, d, r⟩
    refine ⟨o, es, ep, hidT_get e ?_, d, r⟩
    cases q : H b with
    | none => rfl
    | some u =>
      obtain ⟨rfl, _⟩ := hS _ _ q
      rw [ha] at e
      cases e
      cases (show Data.seq vs.toArray _ = Data.dict es ep from d)
  have Kb : K.In (hidT z.heap H) := fun b o e => hidT_get (Kz b o e) (by
    cases q : H b with
    | none => rfl
    | some u =>
      obtain ⟨rfl, z0, _⟩ := hS _ _ q
      rw [z0] at e
      cases e)
  have M : Mod K mg (hidT z.heap H) := ⟨Kb, toB ng, ⟨mb, toB nb, bb⟩, by
    obtain ⟨mc, h1, h2⟩ := lim
    exact ⟨mc, toB h1, h2⟩⟩
  have hs : ∃ o, (hidT z.heap H).get? sysModules = some o := by
    obtain ⟨mm, q⟩ := sm
    obtain ⟨o, _, _, e, _⟩ := toB q
    exact ⟨o, e⟩
  have e0 : Env0 P w K mg (hidT z.heap H) callerA [] z H := ⟨rfl, M, fun b o e => of_hidT e, Nat.le_of_eq (hidT_size _ _), trivial, (fun b hb => by cases (show b ∈ ([] : List Addr) from hb)), hok, .of_eq hg⟩
  refine codeAny_mono ((F _ Kb (toB ng) hs).go callerA [] z H ⟨[.ref a], []⟩ [.ref a] [.ref a] _ _ rfl hr e0 (hbind z (.ref a)) (.cons rfl .nil) hsp) fun res z' q => ?_
  match res, q with
  | .error e, q => exact q.elim
  | .ok (.ret u), q =>
    obtain ⟨v, H', os, bare, un, hok', r', q'⟩ := q
    subst q'
    obtain rfl : u = Value.bool true := r'
    refine ⟨rfl, OldK.of_keep fun b o e => ?_, os, bare⟩
    cases y : H b with
    | none => exact un.keep b o e y (fun k => by cases (show b ∈ ([] : List Addr) from k)) (fun k => by cases (show b ∈ ([] : List Addr) from k))
    | some u =>
      obtain ⟨rfl, _, ob, xs, rfl⟩ := hS _ _ y
      have h1 := (hok b _ y).1
      have h2 := (hok' b _ (un.frzs b ob _ y)).1
      rw [e] at h1
      cases h1
      exact h2
theorem walkG {l : PySem.W.OpenLaw} {n k : Nat} {q : Program} {loose : List Str} {XP : (Str → Option Value) → Heap → Prop} {YP : World → Heap → Prop} {d : DefRec} {K : Params → PySem.W.Frag} {sp : PySem.W.Frag → Sp} {x : Str} (hn : l.most = some n) (hn2 : n ≤ sizeLine)
    (hdf : d.params.defaults = []) (hi : importsNone q = true) (hr : Room k callerA) (hY : ∀ (w : World) (h : Heap), YP w h → (K w.params).In h)
    (F : ∀ (w : World) (mg : Str → Option Value) (fa : Addr) (h : Heap), (K w.params).In h → h.Ns mainGlobals mg → mg d.name = some (.ref fa) → ∃ gd : FuncData, (∀ (s : Shared) (u : Value), BindsTo s gd ⟨[u], []⟩ [(x, u)]) ∧
      ∀ base : Heap, (K w.params).In base → base.Ns mainGlobals mg → (∃ o, base.get? sysModules = some o) → GFn l.prog w (K w.params) mg base k fa gd [x] (sp (K w.params)))
    (hsp : ∀ (K : PySem.W.Frag) (H : Hp) (a : Addr) (ns : List Int), ns.length ≤ n → SqL K H a (ns.map V.int) → sp K [.ref a] H (fun v _ => v = .bl true) E0) : PySem.W.WalkO q loose XP YP l.row.toRowW d [] (fun f vs => PySem.call f vs) := by
  refine Att.attach_call hn hdf fun w s₀ z mg mb fa o pm cd doc a vs ns G Y ho hd hcd hmg hobj hints hlen hg => ?_
  have Kz := hY w _ Y
  obtain ⟨gd, hb, hF⟩ := F w mg fa _ Kz G.T.g hmg
  have sm : ∃ mm, z.heap.Ns sysModules mm := by
    obtain ⟨mm, h1, _⟩ := (G.T.seer hi).mods
    exact ⟨mm, h1⟩
  have rv := vals_ints hints
  have hl : (ns.map V.int).length ≤ sizeLine := by
    rw [List.length_map]
    omega
  cases hk : (K w.params).lookup a with
  | some o1 =>
    have e := Kz a o1 hk
    rw [hobj] at e
    cases e
    exact run_law (H := fun _ => none) Kz G.T.g G.T.b G.T.builtins G.T.nolimit sm hg hobj hr hF hb (fun b u y => by cases y) (fun b u y => by cases y)
      (hsp _ _ a ns hlen (.inr ⟨_, vs.toArray, _, hk, rfl, rfl, rfl, by rw [List.size_toArray, ← rv.length]; exact hl, by simpa using rv⟩))
  | none =>
    refine run_law (H := fun b => if b = a then some (.frz { cls := .type "list", data := .seq vs.toArray } (.lst (ns.map V.int))) else none) Kz G.T.g G.T.b G.T.builtins G.T.nolimit sm hg hobj hr hF hb (fun b u y => ?_) (fun b u y => ?_)
      (hsp _ _ a ns hlen (.inl (.inr ⟨{ cls := .type "list", data := .seq vs.toArray }, if_pos rfl⟩)))
    · have y1 : (if b = a then some (HO.frz { cls := .type "list", data := .seq vs.toArray } (.lst (ns.map V.int))) else none) = some u := y
      by_cases hb : b = a
      · rw [if_pos hb] at y1
        cases y1
        subst hb
        exact ⟨rfl, hk, _, _, rfl⟩
      · rw [if_neg hb] at y1
        cases y1
    · have y1 : (if b = a then some (HO.frz { cls := .type "list", data := .seq vs.toArray } (.lst (ns.map V.int))) else none) = some u := y
      by_cases hb : b = a
      · rw [if_pos hb] at y1
        cases y1
        subst hb
        exact ⟨hobj, hl, vs, _, rv, hobj⟩
      · rw [if_neg hb] at y1
        cases y1
end OM

namespace OM
open PySem PySem.Spec PyProof.Rows L2 LamX
/-- what stays as objects are laid -/
structure Stays (R : L2.St → Hp → Prop) : Prop where
  st : ∀ σ H H', Same H H' → R σ H → R σ H'
/-- an expression that stands for the datum d, built anew -/
def tLit (R : L2.St → Hp → Prop) (d : PyData) : TE := fun σ H Q => R σ H ∧ ∀ v H', Same H H' → Dt (fun _ => True) H' v d → Q v H'
def tLits (R : L2.St → Hp → Prop) (ds : List PyData) : TA := fun σ H Q => R σ H ∧ ∀ vs H', Same H H' → DtAll (fun _ => True) H' vs ds → Q vs H'
def tYes (R : L2.St → Hp → Prop) (b : Bool) : TE := fun σ H Q => R σ H ∧ ∀ H', Same H H' → Q (.bl b) H'
def tYess (R : L2.St → Hp → Prop) (bs : List Bool) : TA := fun σ H Q => R σ H ∧ ∀ H', Same H H' → Q (bs.map V.bl) H'
def tBls (R : L2.St → Hp → Prop) (bs : List Bool) : TE := fun σ H Q => R σ H ∧ ∀ p H', Same H H' → H' p = some (.lst (bs.map V.bl)) → Q (.ref p) H'
section
variable {X : Cx} {R : L2.St → Hp → Prop} {e : Expr} {es : List Expr} {j k : Nat} {pos p : Pos} {x : Str}
theorem PE.imp {t t' : TE} (h : PE X e t) (f : ∀ σ H Q, t' σ H Q → t σ H Q) : PE X e t' := ⟨fun pins s σ H Q I q => h.run pins s σ H Q I (f σ H Q q)⟩
theorem PA.imp {t t' : TA} (h : PA X es t) (f : ∀ σ H Q, t' σ H Q → t σ H Q) : PA X es t' := ⟨fun pos pins s σ H Q I q => h.run pos pins s σ H Q I (f σ H Q q)⟩
theorem pe_ls : PE X (.Constant (.str x) j pos) (tLit R (.str x)) := PE.imp pe_str fun σ H Q q => q.2 _ H (Same.refl H) (.at (.str x))
theorem pa_ln : PA X [] (tLits R []) := PA.imp pa_nil fun σ H Q q => q.2 _ H (Same.refl H) .nil
theorem pa_lc (S : Stays R) {d : PyData} {ds : List PyData} (h : PE X e (tLit R d)) (r : PA X es (tLits R ds)) (he : starEach (e :: es) X.env = (false, eval e X.env) :: starEach es X.env := by rfl) : PA X (e :: es) (tLits R (d :: ds)) :=
  PA.imp (pa_cons h r he) fun σ H Q q => ⟨q.1, fun v H1 s1 d1 => ⟨S.st _ _ _ s1 q.1, fun vs H2 s2 d2 => q.2 _ H2 (s1.trans s2) (.cons (d1.mv (fun _ z => z) fun b o _ z => s2 b o z) d2)⟩⟩
theorem pe_lt {ds : List PyData} (h : PA X es (tLits R ds)) (hl : ds.length ≤ 1000 := by decide) : PE X (.Tuple es k pos) (tLit R (.tuple ds)) :=
  PE.imp (pe_tup h) fun σ H Q q => ⟨q.1, fun vs H1 s1 d1 => by
    have l := d1.length
    have : (1000 : Nat) < sizeLine := by decide
    refine ⟨by omega, fun p hp => q.2 _ _ (s1.trans (same_upd hp)) (.tup trivial upd_same (by omega) (d1.mv (fun _ z => z) fun b o _ z => same_upd hp b o z))⟩⟩
theorem pa_yn : PA X [] (tYess R []) := PA.imp pa_nil fun σ H Q q => q.2 H (Same.refl H)
theorem pa_yc (S : Stays R) {b : Bool} {bs : List Bool} (h : PE X e (tYes R b)) (r : PA X es (tYess R bs)) (he : starEach (e :: es) X.env = (false, eval e X.env) :: starEach es X.env := by rfl) : PA X (e :: es) (tYess R (b :: bs)) :=
  PA.imp (pa_cons h r he) fun σ H Q q => ⟨q.1, fun H1 s1 => ⟨S.st _ _ _ s1 q.1, fun H2 s2 => q.2 H2 (s1.trans s2)⟩⟩
theorem pe_bs {bs : List Bool} (h : PA X es (tYess R bs)) (hl : bs.length ≤ 1000 := by decide) : PE X (.List es pos) (tBls R bs) :=
  PE.imp (pe_lst h) fun σ H Q q => ⟨q.1, fun H1 s1 => by
    have : (1000 : Nat) < sizeLine := by decide
    refine ⟨by rw [List.length_map]; omega, fun p hp => q.2 p _ (s1.trans (same_upd hp)) upd_same⟩⟩
theorem pe_yb {b : Bool} : PE X (.Constant (.bool b) j pos) (tYes R b) := PE.imp pe_bl fun σ H Q q => q.2 H (Same.refl H)
/-- a variable that holds the datum d -/
def RV (i : Nat) (d : PyData) : L2.St → Hp → Prop := fun σ H => ∃ v, σ[i]? = some (some v) ∧ Dt (fun _ => True) H v d
theorem rv_st {i : Nat} {d : PyData} : Stays (RV i d) := ⟨fun σ H H' s ⟨v, e, h⟩ => ⟨v, e, h.mv (fun _ z => z) fun b o _ z => s b o z⟩⟩
theorem true_st : Stays (fun _ _ => True) := ⟨fun _ _ _ _ _ => trivial⟩
theorem pe_lv (i : Nat) {d : PyData} (hN : X.N[i]? = some x := by rfl) (hv : Vis X.env.scope x := by first | exact Or.inl rfl | exact Or.inr (Or.inl rfl) | exact Or.inr (Or.inr rfl)) (hd : (x == ("__debug__" : Str)) = false := by decide)
    (hcd : (x == ("__classdict__" : Str)) = false := by decide) : PE X (.Name x pos) (tLit (RV i d) d) := PE.imp (pv i hN hv hd hcd) fun σ H Q q => by
  obtain ⟨⟨v, e, h⟩, q⟩ := q
  exact ⟨v, e, q v H (Same.refl H) h⟩
end
/-- three ifs, one in another -/
def threeD : PyData := .tuple [.tuple [.str "if", .str "p", .str "a", .tuple [.tuple [.str "if", .str "p", .str "a", .tuple [], .tuple [.tuple [.str "if", .str "q", .str "b", .tuple [.tuple [.str "put", .str "a"]], .tuple []]]]], .tuple []]]
end OM

namespace OM
open PySem PySem.Spec PyProof.Rows L2
theorem DtAll.get' {S : Addr → Prop} {H : Hp} : ∀ {vs : List V} {ds : List PyData} {i : Nat} {d : PyData}, DtAll S H vs ds → ds[i]? = some d → ∃ v, vs[i]? = some v ∧ Dt S H v d
  | _, _, _, _, .nil, e => by simp at e
  | _, _, 0, _, .cons h _, e => by
    simp at e
    subst e
    exact ⟨_, rfl, h⟩
  | _, _, i + 1, _, .cons _ r, e => DtAll.get' (i := i) r (by simpa using e)
/-! ### expressions that stand for data, by what the variables hold -/
theorem pe_ex2 {X : Cx} {e : Expr} {α : Type} {t : α → TE} (h : ∀ c, PE X e (t c)) : PE X e (fun σ H Q => ∃ c, t c σ H Q) := ⟨fun pins s σ H Q I ⟨c, q⟩ => (h c).run pins s σ H Q I q⟩
/-- a number, from the variables -/
def tIn (R : L2.St → Hp → Prop) (k : Nat) : TE := fun σ H Q => R σ H ∧ Q (.int (k : Int)) H
section
variable {X : Cx} {R : L2.St → Hp → Prop} {a b c e : Expr} {pos p p2 : Pos} {x : Str}
theorem pe_ii (i : Nat) {k : Nat} (hR : ∀ σ H, R σ H → σ[i]? = some (some (.int (k : Int)))) (hN : X.N[i]? = some x := by rfl) (hv : Vis X.env.scope x := by first | exact Or.inl rfl | exact Or.inr (Or.inl rfl) | exact Or.inr (Or.inr rfl)) (hd : (x == ("__debug__" : Str)) = false := by decide)
    (hcd : (x == ("__classdict__" : Str)) = false := by decide) : PE X (.Name x pos) (tIn R k) := PE.imp (pv i hN hv hd hcd) fun σ H Q q => ⟨_, hR _ _ q.1, q.2⟩
theorem pe_ip {k m : Nat} {j : Nat} {p3 : Pos} (h : PE X a (tIn R k)) : PE X (.BinOp a .Add (.Constant (.int (m : Int)) j p3) pos) (tIn R (k + m)) := PE.imp (pe_op op_add h pe_int) fun σ H Q q => ⟨q.1, _, _, rfl, rfl, q.2⟩
theorem pe_ct (S : Stays R) {xs ys : List PyData} (ha : PE X a (tLit R (.tuple xs))) (hb : PE X b (tLit R (.tuple ys))) (hl : ∀ σ H, R σ H → xs.length + ys.length ≤ 1000) : PE X (.BinOp a .Add b pos) (tLit R (.tuple (xs ++ ys))) :=
  PE.imp (pe_op op_catA ha hb) fun σ H Q q => ⟨q.1, fun v H1 s1 d1 => ⟨S.st _ _ _ s1 q.1, fun u H2 s2 d2 => by
    obtain ⟨l, ls, rfl, el, lx, dx⟩ := d1.tup_of
    obtain ⟨m, ms, rfl, em, ly, dy⟩ := d2.tup_of
    have := hl _ _ q.1
    have l1 := dx.length
    have l2 := dy.length
    have line : (8200000 : Nat) < sizeLine := by decide
    refine cat_one (K := X.K) (s2 _ _ el) em (by omega) fun c H3 s3 _ ec => q.2 _ _ ((s1.trans s2).trans s3) (.tup trivial ec (by rw [List.length_append]; omega) (((dx.mv (fun _ z => z) fun b o _ z => s2 b o z).app dy).mv (fun _ z => z) fun b o _ z => s3 b o z))⟩⟩
theorem pe_slT {ds : List PyData} {k : Nat} (h : PE X a (tLit R (.tuple ds))) (S : Stays R) (hb : PE X b (tIn R k)) (h0 : ∀ σ H, R σ H → k ≤ ds.length) : PE X (.Subscript a (.Slice none (some b) none p2) pos) (tLit R (.tuple (ds.take k))) :=
  PE.imp (pe_slice sl_tupA h po_none (po_some hb)) fun σ H Q q => ⟨q.1, fun v H1 s1 d1 => ⟨S.st _ _ _ s1 q.1, k, rfl, by
    obtain ⟨l, ls, rfl, el, lx, dx⟩ := d1.tup_of
    have := h0 _ _ q.1
    have l1 := dx.length
    refine sl_one (K := X.K) el fun c H3 s3 _ ec => q.2 _ _ (s1.trans s3) ?_
    rw [cut_take ls (by omega)] at ec
    exact .tup trivial ec (by rw [List.length_take]; omega) ((dta_take k dx).mv (fun _ z => z) fun b o _ z => s3 b o z)⟩⟩
theorem cut_dropG (xs : List V) (i : Nat) : cutV xs (some (i : Int)) none = xs.drop i := by
  rcases Nat.le_total i xs.length with z | z
  · exact cut_drop xs z
  · unfold cutV
    rw [HT.sIx_nat, HT.sIx_none, show min i xs.length = xs.length by omega, List.drop_of_length_le z, List.drop_of_length_le (Nat.le_refl _), List.take_nil]
theorem pe_slDG {ds : List PyData} {k : Nat} (h : PE X a (tLit R (.tuple ds))) (S : Stays R) (hb : PE X b (tIn R k)) : PE X (.Subscript a (.Slice (some b) none none p2) pos) (tLit R (.tuple (ds.drop k))) :=
  PE.imp (pe_slice sl_tupA h (po_some hb) po_none) fun σ H Q q => ⟨q.1, fun v H1 s1 d1 => ⟨S.st _ _ _ s1 q.1, k, rfl, by
    obtain ⟨l, ls, rfl, el, lx, dx⟩ := d1.tup_of
    have l1 := dx.length
    refine sl_two (K := X.K) el fun c H3 s3 _ ec => q.2 _ _ (s1.trans s3) ?_
    rw [cut_dropG] at ec
    exact .tup trivial ec (by rw [List.length_drop]; omega) ((dta_drop k dx).mv (fun _ z => z) fun b o _ z => s3 b o z)⟩⟩
theorem pe_slD {ds : List PyData} {k : Nat} (h : PE X a (tLit R (.tuple ds))) (S : Stays R) (hb : PE X b (tIn R k)) (h0 : ∀ σ H, R σ H → k ≤ ds.length) : PE X (.Subscript a (.Slice (some b) none none p2) pos) (tLit R (.tuple (ds.drop k))) :=
  PE.imp (pe_slice sl_tupA h (po_some hb) po_none) fun σ H Q q => ⟨q.1, fun v H1 s1 d1 => ⟨S.st _ _ _ s1 q.1, k, rfl, by
    obtain ⟨l, ls, rfl, el, lx, dx⟩ := d1.tup_of
    have := h0 _ _ q.1
    have l1 := dx.length
    refine sl_two (K := X.K) el fun c H3 s3 _ ec => q.2 _ _ (s1.trans s3) ?_
    rw [cut_drop ls (by omega)] at ec
    exact .tup trivial ec (by rw [List.length_drop]; omega) ((dta_drop k dx).mv (fun _ z => z) fun b o _ z => s3 b o z)⟩⟩
theorem cut_mid (xs : List V) {i j : Nat} (h : i ≤ xs.length) (hj : i ≤ j) : cutV xs (some (i : Int)) (some (j : Int)) = (xs.drop i).take (j - i) := by
  unfold cutV
  rw [HT.sIx_nat, HT.sIx_nat]
  have e1 : min i xs.length = i := by omega
  rw [e1]
  rcases Nat.le_total j xs.length with z | z
  · rw [show min j xs.length = j by omega]
  · rw [show min j xs.length = xs.length by omega, List.take_of_length_le (by rw [List.length_drop]; omega), List.take_of_length_le (by rw [List.length_drop]; omega)]
theorem pe_slM {ds : List PyData} {k m : Nat} (h : PE X a (tLit R (.tuple ds))) (S : Stays R) (hb : PE X b (tIn R k)) (hc : PE X c (tIn R m)) (h0 : ∀ σ H, R σ H → k ≤ ds.length ∧ k ≤ m) : PE X (.Subscript a (.Slice (some b) (some c) none p2) pos) (tLit R (.tuple ((ds.drop k).take (m - k)))) :=
  PE.imp (pe_slice sl_tupA h (po_some hb) (po_some hc)) fun σ H Q q => ⟨q.1, fun v H1 s1 d1 => ⟨S.st _ _ _ s1 q.1, k, rfl, S.st _ _ _ s1 q.1, m, rfl, by
    obtain ⟨l, ls, rfl, el, lx, dx⟩ := d1.tup_of
    have := h0 _ _ q.1
    have l1 := dx.length
    refine sl_one (K := X.K) el fun c H3 s3 _ ec => q.2 _ _ (s1.trans s3) ?_
    rw [cut_mid ls (by omega) this.2] at ec
    exact .tup trivial ec (by rw [List.length_take, List.length_drop]; omega) ((dta_take _ (dta_drop k dx)).mv (fun _ z => z) fun b o _ z => s3 b o z)⟩⟩
theorem pe_lp (i : Nat) {d : PyData} (hR : ∀ σ H, R σ H → RV i d σ H) (hN : X.N[i]? = some x := by rfl) (hv : Vis X.env.scope x := by first | exact Or.inl rfl | exact Or.inr (Or.inl rfl) | exact Or.inr (Or.inr rfl)) (hd : (x == ("__debug__" : Str)) = false := by decide)
    (hcd : (x == ("__classdict__" : Str)) = false := by decide) : PE X (.Name x pos) (tLit R d) := PE.imp (pv i hN hv hd hcd) fun σ H Q q => by
  obtain ⟨v, e, h⟩ := hR _ _ q.1
  exact ⟨v, e, q.2 v H (Same.refl H) h⟩
/-- t[k], a literal place -/
theorem pe_it {ds : List PyData} {d : PyData} {k : Nat} {j : Nat} {p3 : Pos} (h : PE X a (tLit R (.tuple ds))) (hk : ds[k]? = some d) : PE X (.Subscript a (.Constant (.int (k : Int)) j p3) pos) (tLit R d) :=
  PE.imp (pe_ix ix_tup h pe_int (fun _ _ => rfl)) fun σ H Q q => ⟨q.1, fun v H1 s1 d1 => by
    obtain ⟨l, ls, rfl, el, lx, dx⟩ := d1.tup_of
    obtain ⟨x, hx, hd⟩ := dx.get' hk
    exact ⟨l, ls, (k : Int), x, rfl, rfl, SqT.of el, atI_nat hx, q.2 _ _ s1 hd⟩⟩
end
end OM

namespace OM
open PySem PySem.Spec PyProof.Rows L2
mutual
/-- texts and tuples alone -/
def pureD : PyData → Bool
  | .str _ => true
  | .tuple xs => pureAll xs
  | _ => false
def pureAll : List PyData → Bool
  | [] => true
  | x :: r => pureD x && pureAll r
end
mutual
theorem lay_pure : ∀ d : PyData, pureD d = true → smlD d = true → PyData.canLay0 d = true
  | .str x, _, h => by
    unfold smlD at h
    rw [Bool.and_eq_true] at h
    unfold PyData.canLay0
    exact h.2
  | .tuple xs, h1, h2 => by
    unfold pureD at h1
    rw [sml_tup] at h2
    unfold PyData.canLay0
    exact lay_pureAll xs h1 h2
  | .none, h, _ => by unfold pureD at h; cases h
  | .bool _, h, _ => by unfold pureD at h; cases h
  | .int _, h, _ => by unfold pureD at h; cases h
  | .list _, h, _ => by unfold pureD at h; cases h
  | .dict _, h, _ => by unfold pureD at h; cases h
theorem lay_pureAll : ∀ xs : List PyData, pureAll xs = true → smlAll xs = true → PyData.canLayAll0 xs = true
  | [], _, _ => rfl
  | x :: r, h1, h2 => by
    unfold pureAll at h1
    rw [Bool.and_eq_true] at h1
    rw [smlAll_cons, Bool.and_eq_true] at h2
    show (PyData.canLay0 x && PyData.canLayAll0 r) = true
    rw [lay_pure x h1.1 h2.1, lay_pureAll r h1.2 h2.2]
    rfl
end
section
variable {S : Addr → Prop} {H : Hp} {K : PySem.W.Frag}
mutual
theorem Dt.dp : ∀ {v : V} {d : PyData}, pureD d = true → Dt S H v d → Dp K H v d
  | _, _, p, .at h => by
    cases h with
    | str x => exact .str x
    | _ => unfold pureD at p; cases p
  | _, _, p, .tup s e hl h => .tup (SqT.of e) (DtAll.dp (by unfold pureD at p; exact p) h)
  | _, _, p, .lst s e hl h => by unfold pureD at p; cases p
  | _, _, p, .dic0 s e => by unfold pureD at p; cases p
  | _, _, p, .dic1 s e h => by unfold pureD at p; cases p
theorem DtAll.dp : ∀ {vs : List V} {ds : List PyData}, pureAll ds = true → DtAll S H vs ds → DpAll K H vs ds
  | _, _, _, .nil => .nil
  | _, _, p, .cons h r => by
    unfold pureAll at p
    rw [Bool.and_eq_true] at p
    exact .cons (Dt.dp p.1 h) (DtAll.dp p.2 r)
end
end
theorem name_pure {d : PyData} (h : isNameD d = true) : pureD d = true ∧ d.depth = 0 := by
  cases d with
  | str x => exact ⟨by unfold pureD; rfl, rfl⟩
  | _ => cases h
theorem names_pure : ∀ {ds : List PyData}, ds.all isNameD = true → pureAll ds = true ∧ PyData.depthAll ds = 0
  | [], _ => ⟨rfl, rfl⟩
  | d :: r, h => by
    rw [List.all_cons, Bool.and_eq_true] at h
    obtain ⟨a, b⟩ := name_pure h.1
    obtain ⟨c, e⟩ := names_pure h.2
    unfold pureAll
    rw [depthAll_cons, a, b, c, e]
    exact ⟨rfl, rfl⟩
theorem pure_tup {ds : List PyData} (h : pureAll ds = true) : pureD (.tuple ds) = true := by
  unfold pureD
  exact h
theorem zip_all {p : PyData → Prop} {g : PyData → Str → Bool} (hg : ∀ d r, g d r = true → p d) : ∀ {ds : List PyData} {rs : List Str}, ds.length = rs.length → (List.zipWith g ds rs).all id = true → ∀ d ∈ ds, p d
  | [], _, _, _ => fun d h => by cases h
  | _ :: _, [], h, _ => by cases h
  | d :: ds, r :: rs, h, z => by
    rw [List.zipWith_cons_cons, List.all_cons, Bool.and_eq_true] at z
    intro e he
    rcases List.mem_cons.mp he with rfl | he
    · exact hg _ _ z.1
    · exact zip_all hg (by simpa using h) z.2 e he
theorem all_pure {m : Nat} : ∀ {ds : List PyData}, (∀ d ∈ ds, pureD d = true ∧ d.depth ≤ m) → pureAll ds = true ∧ PyData.depthAll ds ≤ m
  | [], _ => ⟨rfl, Nat.zero_le _⟩
  | d :: r, h => by
    obtain ⟨a, b⟩ := h d (by simp)
    obtain ⟨c, e⟩ := all_pure (ds := r) fun x hx => h x (List.mem_cons_of_mem _ hx)
    unfold pureAll
    rw [depthAll_cons, a, c]
    exact ⟨rfl, by omega⟩
/-- code is made of texts and tuples, not deep -/
theorem row_pure : ∀ (n : Nat) (d : PyData), rowD (cdOf n) d = true → pureD d = true ∧ d.depth ≤ 2 * n + 2 := by
  intro n
  induction n with
  | zero =>
    intro d h
    obtain ⟨w, rest, rs, rfl, hf, hlen, fits⟩ := rowD_shape h
    have hp : ∀ x ∈ rest, pureD x = true ∧ x.depth ≤ 1 := zip_all (fun x r hx => by
      unfold fitD at hx
      split at hx
      · cases hx
      · split at hx
        · unfold argsD at hx
          split at hx
          · rw [Bool.and_eq_true] at hx
            obtain ⟨a, b⟩ := names_pure hx.2
            exact ⟨pure_tup a, by rw [dep_tup, b]; exact Nat.le_refl _⟩
          · cases hx
        · obtain ⟨a, b⟩ := name_pure hx
          exact ⟨a, by omega⟩) hlen fits
    obtain ⟨a, b⟩ := all_pure hp
    refine ⟨pure_tup (by unfold pureAll; rw [a]; unfold pureD; rfl), ?_⟩
    rw [dep_tup, depthAll_cons]
    have : (PyData.str w).depth = 0 := rfl
    omega
  | succ m ih =>
    intro d h
    obtain ⟨w, rest, rs, rfl, hf, hlen, fits⟩ := rowD_shape h
    have hp : ∀ x ∈ rest, pureD x = true ∧ x.depth ≤ 2 * m + 3 := zip_all (fun x r hx => by
      unfold fitD at hx
      split at hx
      · obtain ⟨ys, rfl, rows⟩ := code_tup (n := m) (show codeD m x = true from hx)
        obtain ⟨a, b⟩ := all_pure (ds := ys) fun y hy => ih y (List.all_eq_true.mp rows y hy)
        exact ⟨pure_tup a, by rw [dep_tup]; omega⟩
      · split at hx
        · unfold argsD at hx
          split at hx
          · rw [Bool.and_eq_true] at hx
            obtain ⟨a, b⟩ := names_pure hx.2
            exact ⟨pure_tup a, by rw [dep_tup, b]; omega⟩
          · cases hx
        · obtain ⟨a, b⟩ := name_pure hx
          exact ⟨a, by omega⟩) hlen fits
    obtain ⟨a, b⟩ := all_pure hp
    refine ⟨pure_tup (by unfold pureAll; rw [a]; unfold pureD; rfl), ?_⟩
    rw [dep_tup, depthAll_cons]
    have : (PyData.str w).depth = 0 := rfl
    omega
theorem code_pure {ds : List PyData} (h : ds.all (rowD (cdOf 3)) = true) : pureAll ds = true ∧ PyData.depthAll ds ≤ 8 := all_pure fun d hd => row_pure 3 d (List.all_eq_true.mp h d hd)
theorem code_shaped {ds : List PyData} (h : ds.all (rowD (cdOf 3)) = true) (s : smlAll ds = true) : SeqAt.shaped (.tuple ds) = true := by
  obtain ⟨a, b⟩ := code_pure h
  have c := lay_pure (.tuple ds) (pure_tup a) (by rw [sml_tup]; exact s)
  show (PyData.canLay0 (.tuple ds) && decide ((PyData.tuple ds).depth ≤ 64)) = true
  rw [c, decide_eq_true (show (PyData.tuple ds).depth ≤ 64 by rw [dep_tup]; omega)]
  rfl
mutual
theorem eqv_pure : ∀ d : PyData, pureD d = true → PyData.eqv d d = true
  | .str x, _ => by unfold PyData.eqv; simp
  | .tuple xs, h => by
    unfold pureD at h
    unfold PyData.eqv
    exact eqv_pureAll xs h
  | .none, h => by unfold pureD at h; cases h
  | .bool _, h => by unfold pureD at h; cases h
  | .int _, h => by unfold pureD at h; cases h
  | .list _, h => by unfold pureD at h; cases h
  | .dict _, h => by unfold pureD at h; cases h
theorem eqv_pureAll : ∀ xs : List PyData, pureAll xs = true → PyData.eqvAll xs xs = true
  | [], _ => by unfold PyData.eqvAll; rfl
  | x :: r, h => by
    unfold pureAll at h
    rw [Bool.and_eq_true] at h
    unfold PyData.eqvAll
    rw [eqv_pure x h.1, eqv_pureAll r h.2]
    rfl
end
section
variable {S : Addr → Prop} {H H' : Hp} {d : Addr} {acc : List V}
mutual
/-- data of texts and tuples outlive what happens to a list -/
theorem Dt.butL (e : H d = some (.lst acc)) (b : But d H H') : ∀ {v : V} {x : PyData}, pureD x = true → Dt S H v x → Dt S H' v x
  | _, _, _, .at h => .at h
  | _, _, p, .tup (a := a) s y hl h => .tup s (b _ _ (fun z => by
      rw [z, e] at y
      cases y) y) hl (DtAll.butL e b (by unfold pureD at p; exact p) h)
  | _, _, p, .lst s y hl h => by unfold pureD at p; cases p
  | _, _, p, .dic0 s y => by unfold pureD at p; cases p
  | _, _, p, .dic1 s y h => by unfold pureD at p; cases p
theorem DtAll.butL (e : H d = some (.lst acc)) (b : But d H H') : ∀ {vs : List V} {xs : List PyData}, pureAll xs = true → DtAll S H vs xs → DtAll S H' vs xs
  | _, _, _, .nil => .nil
  | _, _, p, .cons h r => by
    unfold pureAll at p
    rw [Bool.and_eq_true] at p
    exact .cons (Dt.butL e b p.1 h) (DtAll.butL e b p.2 r)
end
theorem Dt.butD (e : Dice H d) (b : But d H H') {v : V} {x : PyData} (p : pureD x = true) (h : Dt S H v x) : Dt S H' v x := by
  obtain ⟨_, _, _, e⟩ := e
  exact h.butL e b p
end
theorem rows_pure {n : Nat} {ds : List PyData} (h : ds.all (rowD (cdOf n)) = true) : pureD (.tuple ds) = true := pure_tup (all_pure (m := 2 * n + 2) fun d hd => row_pure n d (List.all_eq_true.mp h d hd)).1
end OM

namespace OM
open PySem PySem.Spec PyProof.Rows L2
abbrev sChg : Stmt := top 68
def spChgAt : Nat → Sp
  | 0 => fun _ _ _ _ => False
  | n + 1 => fun vs H Q _ => ∃ (d : Addr) (v : V) (ds : List PyData), vs = [.ref d, v] ∧ Dice H d ∧ Dt (fun _ => True) H v (.tuple ds) ∧ ds.all (rowD (cdOf n)) = true ∧ W one n ds ≤ 300 ∧
    ∀ H' v' e, But d H H' → Dice H' d → Gain (n + 1) ds e → Dt (fun _ => True) H' v' (.tuple e) → Q v' H'
theorem len_W {n : Nat} : ∀ {ds : List PyData}, ds.all (rowD (cdOf n)) = true → ds.length ≤ W one n ds
  | [], _ => Nat.zero_le _
  | d :: r, h => by
    rw [List.all_cons, Bool.and_eq_true] at h
    have := len_W h.2
    have e : 1 ≤ wsum one (flatS n d) := by
      rw [flatS_row h.1, wsum_cons]
      show 1 ≤ 1 + _
      omega
    rw [W_cons, List.length_cons]
    omega
theorem cutA3 {ds : List PyData} {i : Nat} {x : PyData} (h : ds[i]? = some x) : ds = ds.take i ++ [x] ++ ds.drop (i + 1) := by
  obtain ⟨hi, e⟩ := List.getElem?_eq_some_iff.mp h
  conv => lhs; rw [← List.take_append_drop i ds, List.drop_eq_getElem_cons hi, e]
  simp
theorem cutH {A : Prop} {P R : Hp → Prop} (f : (∀ G, P G → R G) → A) (b : ∀ G, P G → R G) : A := f b
/-! what the variables hold, for each expression -/
def R2 (p : List PyData × Nat) : L2.St → Hp → Prop := fun σ H => RV 1 (.tuple p.1) σ H ∧ σ[2]? = some (some (.int (p.2 : Int))) ∧ p.2 < p.1.length ∧ p.1.length ≤ 300
theorem r2_st (p : List PyData × Nat) : Stays (R2 p) := ⟨fun σ H H' s h => ⟨rv_st.st _ _ _ s h.1, h.2⟩⟩
def R4 (p : List PyData × Nat × PyData) : L2.St → Hp → Prop := fun σ H => RV 1 (.tuple p.1) σ H ∧ σ[2]? = some (some (.int (p.2.1 : Int))) ∧ RV 6 p.2.2 σ H ∧ p.2.1 < p.1.length ∧ p.1.length ≤ 300
theorem r4_st (p : List PyData × Nat × PyData) : Stays (R4 p) := ⟨fun σ H H' s h => ⟨rv_st.st _ _ _ s h.1, h.2.1, rv_st.st _ _ _ s h.2.2.1, h.2.2.2⟩⟩
def R5 (p : List PyData × Nat × PyData) : L2.St → Hp → Prop := fun σ H => RV 5 (.tuple p.1) σ H ∧ σ[7]? = some (some (.int (p.2.1 : Int))) ∧ RV 4 p.2.2 σ H ∧ p.2.1 ≤ p.1.length ∧ p.1.length ≤ 300
theorem r5_st (p : List PyData × Nat × PyData) : Stays (R5 p) := ⟨fun σ H H' s h => ⟨rv_st.st _ _ _ s h.1, h.2.1, rv_st.st _ _ _ s h.2.2.1, h.2.2.2⟩⟩
def R7 (p : List PyData × Nat × PyData) : L2.St → Hp → Prop := fun σ H => RV 1 (.tuple p.1) σ H ∧ σ[2]? = some (some (.int (p.2.1 : Int))) ∧ RV 4 p.2.2 σ H ∧ p.2.1 < p.1.length ∧ p.1.length ≤ 300
theorem r7_st (p : List PyData × Nat × PyData) : Stays (R7 p) := ⟨fun σ H H' s h => ⟨rv_st.st _ _ _ s h.1, h.2.1, rv_st.st _ _ _ s h.2.2.1, h.2.2.2⟩⟩
abbrev nChg : List Str := ["_law_dice_here", "_law_code_here", "_law_at", "_law_way", "_law_row", "_law_rest", "_law_turned", "_law_spot"]
theorem scCh : FnScope nChg ["_law_dice_here", "_law_code_here"] (defScope sChg) := ⟨rfl, rfl, rfl, by decide +kernel, rfl, by decide +kernel, by decide +kernel⟩
section
variable {P : Program} {w : World} {K : PySem.W.Frag} {mg : Str → Option Value} {base : Heap} {f fR fO fS : Addr} {fd fdR fdO dS : FuncData}
theorem chg_step {n j : Nat} (F : Fun K "_law_changed" "_law_changed" sChg f fd) (D : DiceF K mg fR fO fdR fdO) (gS : mg "_law_statement" = some (.ref fS)) (kS : PySem.W.keepIn K (.ref fS) = true) (bS : Binds K dS ["_law_dice_here", "_law_room", "_law_deep"] []) (GS : FnOk P w K mg base CX0 3 fS dS ["_law_dice_here", "_law_room", "_law_deep"] (spState 0))
    (gF : mg "_law_changed" = some (.ref f)) (bF : Binds K fd ["_law_dice_here", "_law_code_here"] []) (G : FnOk P w K mg base CX0 (j + 3) f fd ["_law_dice_here", "_law_code_here"] (spChgAt n)) : FnOk P w K mg base CX0 (j + 4) f fd ["_law_dice_here", "_law_code_here"] (spChgAt (n + 1)) := by
  have GR : FnOk P w K mg base CX0 1 fR fdR ["_law_dice_here", "_law_total"] spRoll := ok_roll D.FR D.T
  have GO : FnOk P w K mg base CX0 2 fO fdO ["_law_dice_here", "_law_items"] (spOneOf K) := ok_oneof D.FO D.T D.FR D.gR D.bR
  refine F.ok scCh (fun vs H Q E h => ?_) (fun cdv A outer s H vs Q E hr h => ?_)
  · obtain ⟨d, v, ds, rfl, _⟩ := h
    rfl
  obtain ⟨d, v, ds, rfl, hd, hv, rows, sz, q⟩ := h
  have hu : (A.deeper (envOfC "_law_changed" (defScope sChg) s.heap.objs.size f cdv)).units < cLine := by
    have := hr.un
    omega
  refine ⟨_, pss_cons (ps_if (pt_cmpR (op_eqT0 hu) (pv 1) (pe_tup pa_nil) (by rfl)) (pss_one (ps_ret (pe_tup (pa_cons (pe_call GS (hr.mono (by omega)) (by rfl) gS kS bS .nil pass0 (pa_cons (pv 0) (pa_cons (pe_lst (pa_cons pe_int (pa_cons pe_int (pa_cons pe_int pa_nil)))) (pa_cons pe_int pa_nil)))) pa_nil)))) pss_nil)
    (pss_cons (ps_par (i := 2) (j := 3) rfl scCh.nd rfl rfl (by decide) (by rfl) (by rfl) (pa_cons (pe_call GR (hr.mono (by omega)) (by rfl) D.gR D.FR.kp D.bR .nil pass0 (pa_cons (pv 0) (pa_cons (pe_callB call_len_seq (by rfl) D.T.len PySem.boot_len (pa_cons (pv 1) pa_nil)) pa_nil)))
        (pa_cons (pe_call GR (hr.mono (by omega)) (by rfl) D.gR D.FR.kp D.bR .nil pass0 (pa_cons (pv 0) (pa_cons pe_int pa_nil))) pa_nil)) (by rfl))
    (pss_cons (ps_par (i := 4) (j := 5) rfl scCh.nd rfl rfl (by decide) (by rfl) (by rfl) (pa_cons (pe_ix ix_tup (pv 1) (pv 2) (fun _ _ => rfl))
        (pa_cons (pe_ex2 fun p : List PyData × Nat => pe_ct (r2_st p) (pe_slT (k := p.2) (pe_lp 1 (fun _ _ h => h.1)) (r2_st p) (pe_ii 2 (fun _ _ h => h.2.1)) (fun _ _ h => Nat.le_of_lt h.2.2.1)) (pe_slD (k := p.2 + 1) (pe_lp 1 (fun _ _ h => h.1)) (r2_st p) (pe_ip (m := 1) (pe_ii 2 (fun _ _ h => h.2.1))) (fun _ _ h => h.2.2.1))
          (fun _ _ h => by
            have h1 := h.2.2.2
            rw [List.length_take, List.length_drop]
            omega)) pa_nil)) (by rfl))
    (pss_cons (ps_if (PW.pt (pw_and (pt_cmpR op_eq (pe_ix ix_tup (pv 4) pe_int (fun _ _ => rfl)) pe_str (nomark _)) (pw_and1 (pt_cmpR op_lt (pv 3) pe_int (nomark _)))))
        (pss_cons (ps_if (pt_cmpR op_eq (pe_call GR (hr.mono (by omega)) (by rfl) D.gR D.FR.kp D.bR .nil pass0 (pa_cons (pv 0) (pa_cons pe_int pa_nil))) pe_int (nomark _))
            (pss_one (ps_set (i := 6) scCh.nd rfl (Or.inl rfl) (pe_op op_catA (pe_slice sl_tupA (pv 4) po_none (po_some pe_int)) (pe_tup (pa_cons (pe_call G hr (by rfl) gF F.kp bF .nil pass0 (pa_cons (pv 0) (pa_cons (pe_ix ix_tup (pv 4) pe_int (fun _ _ => rfl)) pa_nil))) (pa_cons (pe_ix ix_tup (pv 4) pe_int (fun _ _ => rfl)) pa_nil))))))
            (pss_one (ps_set (i := 6) scCh.nd rfl (Or.inl rfl) (pe_op op_catA (pe_slice sl_tupA (pv 4) po_none (po_some pe_int)) (pe_tup (pa_cons (pe_call G hr (by rfl) gF F.kp bF .nil pass0 (pa_cons (pv 0) (pa_cons (pe_ix ix_tup (pv 4) pe_int (fun _ _ => rfl)) pa_nil))) pa_nil))))))
        (pss_one (ps_ret (pe_ex2 fun p : List PyData × Nat × PyData => pe_ct (r4_st p) (pe_ct (r4_st p) (pe_slT (k := p.2.1) (pe_lp 1 (fun _ _ h => h.1)) (r4_st p) (pe_ii 2 (fun _ _ h => h.2.1)) (fun _ _ h => Nat.le_of_lt h.2.2.2.1)) (pe_lt (pa_lc (r4_st p) (pe_lp 6 (fun _ _ h => h.2.2.1)) pa_ln) (by show 1 ≤ 1000; decide)) (fun _ _ h => by
              have h1 := h.2.2.2.2
              rw [List.length_take]
              show _ + 1 ≤ 1000
              omega))
            (pe_slD (k := p.2.1 + 1) (pe_lp 1 (fun _ _ h => h.1)) (r4_st p) (pe_ip (m := 1) (pe_ii 2 (fun _ _ h => h.2.1))) (fun _ _ h => h.2.2.2.1)) (fun _ _ h => by
              have h1 := h.2.2.2.2
              rw [List.length_append, List.length_take, List.length_drop]
              show _ + 1 + _ ≤ 1000
              omega))))) pss_nil)
    (pss_cons (ps_if (pt_cmpR op_lt (pv 3) pe_int (nomark _))
        (pss_cons (ps_set (i := 7) scCh.nd rfl (Or.inl rfl) (pe_call GR (hr.mono (by omega)) (by rfl) D.gR D.FR.kp D.bR .nil pass0 (pa_cons (pv 0) (pa_cons (pe_callB call_len_seq (by rfl) D.T.len PySem.boot_len (pa_cons (pv 1) pa_nil)) pa_nil))))
        (pss_one (ps_ret (pe_ex2 fun p : List PyData × Nat × PyData => pe_ct (r5_st p) (pe_ct (r5_st p) (pe_slT (k := p.2.1) (pe_lp 5 (fun _ _ h => h.1)) (r5_st p) (pe_ii 7 (fun _ _ h => h.2.1)) (fun _ _ h => h.2.2.2.1)) (pe_lt (pa_lc (r5_st p) (pe_lp 4 (fun _ _ h => h.2.2.1)) pa_ln) (by show 1 ≤ 1000; decide)) (fun _ _ h => by
              have h1 := h.2.2.2.2
              rw [List.length_take]
              show _ + 1 ≤ 1000
              omega))
            (pe_slD (k := p.2.1) (pe_lp 5 (fun _ _ h => h.1)) (r5_st p) (pe_ii 7 (fun _ _ h => h.2.1)) (fun _ _ h => h.2.2.2.1)) (fun _ _ h => by
              have h1 := h.2.2.2.2
              rw [List.length_append, List.length_take, List.length_drop]
              show _ + 1 + _ ≤ 1000
              omega))))) pss_nil)
    (pss_cons (ps_if (pt_cmpR op_eq (pv 3) pe_int (nomark _)) (pss_one (ps_ret (pv 5))) pss_nil)
    (pss_cons (ps_if (PW.pt (pw_and (pt_cmpR op_eq (pv 3) pe_int (nomark _)) (pw_and (pt_cmpR op_lt (pe_callB call_len_seq (by rfl) D.T.len PySem.boot_len (pa_cons (pv 1) pa_nil)) pe_int (nomark _)) (pw_and1 (pt_cmpR op_notIn_seq (pe_ix ix_tup (pv 4) pe_int (fun _ _ => rfl)) (pe_tup (pa_cons pe_str (pa_cons pe_str (pa_cons pe_str (pa_cons pe_str pa_nil))))) (by rfl))))))
        (pss_one (ps_ret (pe_ex2 fun p : List PyData × Nat × PyData => pe_ct (r7_st p) (pe_ct (r7_st p) (pe_slT (k := p.2.1) (pe_lp 1 (fun _ _ h => h.1)) (r7_st p) (pe_ii 2 (fun _ _ h => h.2.1)) (fun _ _ h => Nat.le_of_lt h.2.2.2.1)) (pe_lt (pa_lc (r7_st p) (pe_lp 4 (fun _ _ h => h.2.2.1)) pa_ln) (by show 1 ≤ 1000; decide)) (fun _ _ h => by
              have h1 := h.2.2.2.2
              rw [List.length_take]
              show _ + 1 ≤ 1000
              omega))
            (pe_slD (k := p.2.1) (pe_lp 1 (fun _ _ h => h.1)) (r7_st p) (pe_ii 2 (fun _ _ h => h.2.1)) (fun _ _ h => Nat.le_of_lt h.2.2.2.1)) (fun _ _ h => by
              have h1 := h.2.2.2.2
              rw [List.length_append, List.length_take, List.length_drop]
              show _ + 1 + _ ≤ 1000
              omega)))) pss_nil)
    (pss_cons (ps_if (PW.pt (pw_and (pt_cmpR op_eq (pv 3) pe_int (nomark _)) (pw_and1 (pt_cmpR op_notIn_seq (pe_ix ix_tup (pv 4) pe_int (fun _ _ => rfl)) (pe_tup (pa_cons pe_str (pa_cons pe_str (pa_cons pe_str (pa_cons pe_str pa_nil))))) (by rfl)))))
        (pss_cons (ps_set (i := 6) scCh.nd rfl (Or.inl rfl) (pe_tup (pa_cons pe_str (pa_cons pe_str (pa_cons (pe_call GO (hr.mono (by omega)) (by rfl) D.gO D.FO.kp D.bO .nil pass0 (pa_cons (pv 0) (pa_cons (pe_lst (pa_cons pe_str (pa_cons pe_str pa_nil))) pa_nil))) (pa_cons (pe_tup (pa_cons (pv 4) pa_nil)) (pa_cons (pe_tup (pa_cons (pv 4) pa_nil)) pa_nil)))))))
        (pss_one (ps_ret (pe_ex2 fun p : List PyData × Nat × PyData => pe_ct (r4_st p) (pe_ct (r4_st p) (pe_slT (k := p.2.1) (pe_lp 1 (fun _ _ h => h.1)) (r4_st p) (pe_ii 2 (fun _ _ h => h.2.1)) (fun _ _ h => Nat.le_of_lt h.2.2.2.1)) (pe_lt (pa_lc (r4_st p) (pe_lp 6 (fun _ _ h => h.2.2.1)) pa_ln) (by show 1 ≤ 1000; decide)) (fun _ _ h => by
              have h1 := h.2.2.2.2
              rw [List.length_take]
              show _ + 1 ≤ 1000
              omega))
            (pe_slD (k := p.2.1 + 1) (pe_lp 1 (fun _ _ h => h.1)) (r4_st p) (pe_ip (m := 1) (pe_ii 2 (fun _ _ h => h.2.1))) (fun _ _ h => h.2.2.2.1)) (fun _ _ h => by
              have h1 := h.2.2.2.2
              rw [List.length_append, List.length_take, List.length_drop]
              show _ + 1 + _ ≤ 1000
              omega))))) pss_nil)
    (pss_cons (ps_if (PW.pt (pw_and (pt_cmpR op_eq (pv 3) pe_int (nomark _)) (pw_and1 (pt_cmpR op_lt (pe_callB call_len_seq (by rfl) D.T.len PySem.boot_len (pa_cons (pv 1) pa_nil)) pe_int (nomark _)))))
        (pss_one (ps_ret (pe_op op_catA (pe_op op_catA (pe_slice sl_tupA (pv 1) po_none (po_some (pv 2))) (pe_tup (pa_cons (pe_call GS (hr.mono (by omega)) (by rfl) gS kS bS .nil pass0 (pa_cons (pv 0) (pa_cons (pe_lst (pa_cons pe_int (pa_cons pe_int (pa_cons pe_int pa_nil)))) (pa_cons pe_int pa_nil)))) pa_nil))) (pe_slice sl_tupA (pv 1) (po_some (pv 2)) po_none)))) pss_nil)
    (pss_one (ps_ret (pe_ex2 fun p : List PyData × Nat × PyData => pe_ct (r7_st p) (pe_ct (r7_st p) (pe_ct (r7_st p) (pe_slT (k := p.2.1) (pe_lp 1 (fun _ _ h => h.1)) (r7_st p) (pe_ii 2 (fun _ _ h => h.2.1)) (fun _ _ h => Nat.le_of_lt h.2.2.2.1))
            (pe_slM (k := p.2.1 + 1) (m := p.2.1 + 2) (pe_lp 1 (fun _ _ h => h.1)) (r7_st p) (pe_ip (m := 1) (pe_ii 2 (fun _ _ h => h.2.1))) (pe_ip (m := 2) (pe_ii 2 (fun _ _ h => h.2.1))) (fun _ _ h => ⟨h.2.2.2.1, by omega⟩)) (fun _ _ h => by
              have h1 := h.2.2.2.2
              rw [List.length_take, List.length_take, List.length_drop]
              omega)) (pe_lt (pa_lc (r7_st p) (pe_lp 4 (fun _ _ h => h.2.2.1)) pa_ln) (by show 1 ≤ 1000; decide)) (fun _ _ h => by
              have h1 := h.2.2.2.2
              rw [List.length_append, List.length_take, List.length_take, List.length_drop]
              show _ + 1 ≤ 1000
              omega))
            (pe_slDG (k := p.2.1 + 2) (pe_lp 1 (fun _ _ h => h.1)) (r7_st p) (pe_ip (m := 2) (pe_ii 2 (fun _ _ h => h.2.1)))) (fun _ _ h => by
              have h1 := h.2.2.2.2
              simp only [List.length_append, List.length_take, List.length_drop, List.length_cons, List.length_nil]
              omega)))))))))))), ?_⟩
  have fin : ∀ {G : Hp} {v' : V} {e : List PyData}, But d H G → Dice G d → Gain (n + 1) ds e → Dt (fun _ => True) G v' (.tuple e) → Q v' G := fun b g gn dv => q _ _ _ b g gn dv
  have pur := rows_pure rows
  have up := (rows_up rows).1
  have lenW := len_W rows
  obtain ⟨a, xs, rfl, ea, lx, dx⟩ := hv.tup_of
  have ll := dx.length
  refine ⟨_, rfl, (by show 0 ≤ sizeLine; decide), fun p0 hp0 => ⟨a, p0, xs, rfl, rfl, SqT.of (same_upd hp0 _ _ ea), SqT.of upd_same, _, rfl, ite2 (fun hz => ?_) (fun hz => ?_)⟩⟩
  · have e0 : ds = [] := by
      cases xs with
      | nil => exact List.length_eq_zero_iff.mp ll.symm
      | cons _ _ => cases hz
    subst e0
    have s0 := same_upd (o := .tup []) hp0
    refine ⟨_, rfl, (by show 3 ≤ sizeLine; decide), fun p1 hp1 => ?_⟩
    have s1 := s0.trans (same_upd (o := .lst [.int 0, .int 0, .int 0]) hp1)
    have ne : d ≠ p1 := fun z => by
      rw [← z] at hp1
      exact (hd.mv s0).ne hp1
    refine ⟨d, p1, 0, 0, 0, rfl, hd.mv s1, upd_same, ne, fun H' v e l1 s2 t1 z1 b2 hd' st hl hs ht _ dv => ⟨(by show 1 ≤ sizeLine; decide), fun tp htp => ?_⟩⟩
    have st' := same_upd (o := .tup [v]) htp
    obtain ⟨L, ce⟩ := leaf_std st hl hs
    have b : But d H H' := fun b o hb e => b2 b o hb (fun z => by
      rw [z] at e
      have := ne_of_none (s0 _ _ e) hp1
      exact this rfl) (s1 b o e)
    exact fin (b.tr (s_bt st')) (hd'.mv st') (Gain.add (a := []) (b := []) (n := n + 1) rfl L fun _ => ce) (.tup trivial upd_same (by show 1 ≤ 1000; decide) (.cons (dv.mv (fun _ _ => trivial) fun b o _ z => st' b o z) .nil))
  · have s0 := same_upd (o := .tup []) hp0
    have pos : 0 < xs.length := by
      cases xs with
      | nil => exact absurd rfl hz
      | cons _ _ => exact Nat.succ_pos _
    have line : (8200000 : Nat) < sizeLine := by decide
    refine ⟨_, rfl, _, rfl, a, xs, rfl, .inr (SqT.of (s0 _ _ ea)), d, (xs.length : Int), rfl, hd.mv s0, by omega, by omega, fun H1 k k0 k1 b1' hd1 => ⟨_, rfl, d, 9, rfl, hd1, by decide, by decide, fun H2 wy w0 w1 b2' hd2 => ⟨_, _, rfl, ?_⟩⟩⟩
    obtain ⟨i, rfl⟩ : ∃ i : Nat, k = (i : Int) := ⟨k.toNat, by omega⟩
    have hi : i < xs.length := by omega
    have b12 : But d H H2 := ((s_bt s0).tr b1').tr b2'
    have hv2 : Dt (fun _ => True) H2 (.ref a) (.tuple ds) := Dt.butD hd b12 pur hv
    have ea2 : H2 a = some (.tup xs) := b12 _ _ (fun z => by
      obtain ⟨_, _, _, e⟩ := hd
      rw [z, e] at ea
      cases ea) ea
    have dx2 : DtAll (fun _ => True) H2 xs ds := by
      obtain ⟨_, _, _, e⟩ := hd
      exact DtAll.butL e b12 (by unfold pureD at pur; exact pur) dx
    obtain ⟨x, hx⟩ : ∃ x, xs[i]? = some x := ⟨_, List.getElem?_eq_getElem hi⟩
    obtain ⟨row, hrow, drow⟩ := dx2.get hx
    refine ⟨_, rfl, _, rfl, a, xs, (i : Int), x, rfl, rfl, SqT.of ea2, atI_nat hx, (ds, i), ⟨⟨_, rfl, hv2⟩, rfl, by show i < ds.length; omega, by show ds.length ≤ 300; omega⟩, fun v3 H3 s3 d3 => ⟨_, _, rfl, ?_⟩⟩
    have cut := cutA3 hrow
    have rowR : rowD (cdOf n) row = true := List.all_eq_true.mp rows row (List.mem_of_getElem? hrow)
    obtain ⟨w9, rest, rs, rfl, hf, hlen, fits⟩ := rowD_shape rowR
    have purR : pureD (.tuple (.str w9 :: rest)) = true := (row_pure n _ rowR).1
    have b3 : But d H H3 := b12.tr (s_bt s3)
    have hd3 := hd2.mv s3
    have hv3 : Dt (fun _ => True) H3 (.ref a) (.tuple ds) := hv2.mv (fun _ z => z) fun b o _ z => s3 b o z
    have dr3 : Dt (fun _ => True) H3 x (.tuple (.str w9 :: rest)) := drow.mv (fun _ z => z) fun b o _ z => s3 b o z
    have d3' : Dt (fun _ => True) H3 v3 (.tuple (ds.take i ++ ds.drop (i + 1))) := d3
    have purC : pureD (.tuple (ds.take i ++ ds.drop (i + 1))) = true := by
      have g := Gain.drop (n := n) (a := ds.take i) (b := ds.drop (i + 1)) (r := .tuple (.str w9 :: rest)) (by rw [← cut]; exact rows)
      exact rows_pure g.rows
    have ea3 : H3 a = some (.tup xs) := s3 _ _ ea2
    have wup : ∀ ψ : PyData → Nat, W ψ (n + 1) ds = W ψ n ds := fun ψ => W_up rows
    clear hx drow d3 ea2 dx2 hv2 b12 b1' b2' hd1 s0 hp0 hz ea dx hv hd2 s3 k0 k1
    obtain ⟨ar, xr, rfl, ear, lr, dxr⟩ := dr3.row
    have rowsA : (ds.take i).all (rowD (cdOf (n + 1))) = true ∧ (ds.drop (i + 1)).all (rowD (cdOf (n + 1))) = true ∧ (ds.drop i).all (rowD (cdOf (n + 1))) = true := by
      rw [List.all_eq_true] at up
      exact ⟨List.all_eq_true.mpr fun y hy => up y (List.mem_of_mem_take hy), List.all_eq_true.mpr fun y hy => up y (List.mem_of_mem_drop hy), List.all_eq_true.mpr fun y hy => up y (List.mem_of_mem_drop hy)⟩
    have hil : i < ds.length := by omega
    have l3 : ds.length ≤ 300 := by omega
    apply cutP
    · intro rest4
      refine ⟨_, rfl, ar, _, 0, _, rfl, rfl, SqT.of ear, at0, rfl, _, rfl, ite2 (fun hif => ⟨_, rfl, wy, 4, rfl, rfl, _, rfl, ite2 (fun h4 => ?_) (fun _ => rest4)⟩) (fun _ => iteF rest4)⟩
      obtain rfl : w9 = "if" := V.str.inj (of_decide_eq_true hif)
      rcases row_iff rowR with ⟨m, p, r, ys, ns, rfl, ed, hy, hn, hp, hr'⟩ | ⟨w', rest', ed, ni, _⟩
      · injection ed with ed
        injection ed with _ ed
        subst ed
        cases dxr with
        | @cons xp _ _ _ dp dxr =>
        cases dxr with
        | @cons xq _ _ _ dq dxr =>
        cases dxr with
        | @cons xy _ _ _ dy dxr =>
        cases dxr with
        | @cons xn _ _ _ dn dxr =>
        cases dxr
        have szc : W one m ys ≤ 300 ∧ W one m ns ≤ 300 := by
          have h1 : W one (m + 1) ds = W one (m + 1) (ds.take i) + W one (m + 1) [.tuple [.str "if", p, r, .tuple ys, .tuple ns]] + W one (m + 1) (ds.drop (i + 1)) := by
            conv => lhs; rw [cut, W_ap, W_ap]
          rw [W_cons, W_if rowR] at h1
          have h2 : W one (m + 1) [] = 0 := rfl
          omega
        have purY : pureD (.tuple ys) = true := rows_pure hy
        have purN : pureD (.tuple ns) = true := rows_pure hn
        refine ⟨_, rfl, d, 2, rfl, hd3, by decide, by decide, fun H4 k4 _ _ b4 hd4 => ⟨rfl, _, rfl, ite2 (fun _ => ?_) (fun _ => ?_)⟩⟩
        · have nd : ar ≠ d := fun z => by
            obtain ⟨_, _, _, e⟩ := hd3
            rw [z, e] at ear
            cases ear
          have ear4 := b4 _ _ nd ear
          refine ⟨_, rfl, 3, rfl, sl_one ear4 fun c1 H5 s5 _ e5 => ?_⟩
          have dy5 : Dt (fun _ => True) H5 xy (.tuple ys) := (Dt.butD hd3 b4 purY dy).mv (fun _ z => z) fun b o _ z => s5 b o z
          refine ⟨_, rfl, _, rfl, ar, _, 3, xy, rfl, rfl, SqT.of (s5 _ _ ear4), rfl, d, xy, ys, rfl, hd4.mv s5, dy5, hy, szc.1, fun H6 v6 e6 b6 hd6 g6 d6 => ?_⟩
          have ear6 := b6 _ _ nd (s5 _ _ ear4)
          refine ⟨_, rfl, ar, _, 4, xn, rfl, rfl, SqT.of ear6, rfl, (by show 2 ≤ sizeLine; decide), fun tp htp => ?_⟩
          have stp := same_upd (o := .tup [v6, xn]) htp
          have nc1 : c1 ≠ d := fun z => by
            obtain ⟨_, _, _, e⟩ := hd4.mv s5
            rw [z, e] at e5
            cases e5
          have e5' : H5 c1 = some (.tup [.str "if", xp, xq]) := e5
          refine cat_one (K := K) (stp _ _ (b6 _ _ nc1 e5')) upd_same (by show 3 + 2 ≤ sizeLine; omega) fun c3 H7 s7 _ e7 => ?_
          have t47 : But d H3 H7 := ((b4.tr (s_bt s5)).tr b6).tr (s_bt (stp.trans s7))
          have mv7 : ∀ {v : V} {x : PyData}, pureD x = true → Dt (fun _ => True) H3 v x → Dt (fun _ => True) H7 v x := fun p h => Dt.butD hd3 t47 p h
          have nm : ∀ {z : PyData}, isNameD z = true → pureD z = true := fun h => (name_pure h).1
          have dT : Dt (fun _ => True) H7 (.ref c3) (.tuple [.str "if", p, r, .tuple e6, .tuple ns]) := .tup trivial e7 (by show 5 ≤ 1000; decide) (.cons (.at (.str _)) (.cons (mv7 (nm hp) dp) (.cons (mv7 (nm hr') dq) (.cons (d6.mv (fun _ z => z) fun b o _ z => s7 b o (stp b o z)) (.cons (mv7 purN dn) .nil)))))
          refine ⟨(ds, i, .tuple [.str "if", p, r, .tuple e6, .tuple ns]), ⟨⟨_, rfl, mv7 pur hv3⟩, rfl, ⟨_, rfl, dT⟩, hil, l3⟩, fun v8 H8 s8 d8 => ?_⟩
          have g := (Gain.inY g6 hp hr' (rows_up hy).1 (rows_up hn).1).ctx (a := ds.take i) (b := ds.drop (i + 1)) rowsA.1 rowsA.2.1
          rw [← cut] at g
          exact fin (b3.tr (t47.tr (s_bt s8))) ((hd6.mv (stp.trans s7)).mv s8) g d8
        · have nd : ar ≠ d := fun z => by
            obtain ⟨_, _, _, e⟩ := hd3
            rw [z, e] at ear
            cases ear
          have ear4 := b4 _ _ nd ear
          refine ⟨_, rfl, 4, rfl, sl_one ear4 fun c1 H5 s5 _ e5 => ?_⟩
          have dn5 : Dt (fun _ => True) H5 xn (.tuple ns) := (Dt.butD hd3 b4 purN dn).mv (fun _ z => z) fun b o _ z => s5 b o z
          refine ⟨_, rfl, _, rfl, ar, _, 4, xn, rfl, rfl, SqT.of (s5 _ _ ear4), rfl, d, xn, ns, rfl, hd4.mv s5, dn5, hn, szc.2, fun H6 v6 e6 b6 hd6 g6 d6 => ?_⟩
          refine ⟨(by show 1 ≤ sizeLine; decide), fun tp htp => ?_⟩
          have stp := same_upd (o := .tup [v6]) htp
          have nc1 : c1 ≠ d := fun z => by
            obtain ⟨_, _, _, e⟩ := hd4.mv s5
            rw [z, e] at e5
            cases e5
          have e5' : H5 c1 = some (.tup [.str "if", xp, xq, xy]) := e5
          refine cat_one (K := K) (stp _ _ (b6 _ _ nc1 e5')) upd_same (by show 4 + 1 ≤ sizeLine; omega) fun c3 H7 s7 _ e7 => ?_
          have t47 : But d H3 H7 := ((b4.tr (s_bt s5)).tr b6).tr (s_bt (stp.trans s7))
          have mv7 : ∀ {v : V} {x : PyData}, pureD x = true → Dt (fun _ => True) H3 v x → Dt (fun _ => True) H7 v x := fun p h => Dt.butD hd3 t47 p h
          have nm : ∀ {z : PyData}, isNameD z = true → pureD z = true := fun h => (name_pure h).1
          have dT : Dt (fun _ => True) H7 (.ref c3) (.tuple [.str "if", p, r, .tuple ys, .tuple e6]) := .tup trivial e7 (by show 5 ≤ 1000; decide) (.cons (.at (.str _)) (.cons (mv7 (nm hp) dp) (.cons (mv7 (nm hr') dq) (.cons (mv7 purY dy) (.cons (d6.mv (fun _ z => z) fun b o _ z => s7 b o (stp b o z)) .nil)))))
          refine ⟨(ds, i, .tuple [.str "if", p, r, .tuple ys, .tuple e6]), ⟨⟨_, rfl, mv7 pur hv3⟩, rfl, ⟨_, rfl, dT⟩, hil, l3⟩, fun v8 H8 s8 d8 => ?_⟩
          have g := (Gain.inN g6 hp hr' (rows_up hy).1 (rows_up hn).1).ctx (a := ds.take i) (b := ds.drop (i + 1)) rowsA.1 rowsA.2.1
          rw [← cut] at g
          exact fin (b3.tr (t47.tr (s_bt s8))) ((hd6.mv (stp.trans s7)).mv s8) g d8
      · injection ed with ed
        injection ed with e1 _
        injection e1 with e1
        exact absurd e1.symm ni
    -- a move
    refine ⟨_, rfl, wy, 4, rfl, rfl, _, rfl, ite2 (fun h4 => ?_) (fun h4 => ?_)⟩
    · refine ⟨_, rfl, _, rfl, a, xs, rfl, .inr (SqT.of ea3), d, (xs.length : Int), rfl, hd3, by omega, by omega, fun H4 k4 k5 k6 b4 hd4 => ?_⟩
      obtain ⟨j', rfl⟩ : ∃ j : Nat, k4 = (j : Int) := ⟨k4.toNat, by omega⟩
      have lr' : (ds.take i ++ ds.drop (i + 1)).length = ds.length - 1 := by
        rw [List.length_append, List.length_take, List.length_drop]
        omega
      refine ⟨(ds.take i ++ ds.drop (i + 1), j', .tuple (.str w9 :: rest)), ⟨⟨_, rfl, Dt.butD hd3 b4 purC d3'⟩, rfl, ⟨_, rfl, Dt.butD hd3 b4 purR (.tup trivial ear lr (.cons (.at (.str _)) dxr))⟩, by show j' ≤ (ds.take i ++ ds.drop (i + 1)).length; omega, by show (ds.take i ++ ds.drop (i + 1)).length ≤ 300; omega⟩, fun v8 H8 s8 d8 => ?_⟩
      refine fin (b3.tr (b4.tr (s_bt s8))) (hd4.mv s8) (Gain.perm ?_ up) d8
      have p1 : ds.Perm (.tuple (.str w9 :: rest) :: (ds.take i ++ ds.drop (i + 1))) := by
        conv => lhs; rw [cut]
        simpa using List.perm_middle
      refine p1.trans ?_
      have p2 : ((ds.take i ++ ds.drop (i + 1)).take j' ++ [PyData.tuple (.str w9 :: rest)] ++ (ds.take i ++ ds.drop (i + 1)).drop j').Perm (.tuple (.str w9 :: rest) :: ((ds.take i ++ ds.drop (i + 1)).take j' ++ (ds.take i ++ ds.drop (i + 1)).drop j')) := by
        rw [List.append_assoc]
        exact List.perm_middle
      rw [List.take_append_drop] at p2
      exact p2.symm
    refine ⟨_, rfl, rfl, _, rfl, ite2 (fun h5 => ⟨_, rfl, fin b3 hd3 ?_ d3'⟩) (fun h5 => ?_)⟩
    · have g := Gain.drop (n := n + 1) (a := ds.take i) (b := ds.drop (i + 1)) (r := .tuple (.str w9 :: rest)) (by rw [← cut]; exact up)
      rw [← cut] at g
      exact g
    have lf : inV (.str w9) [.str "if", .str "get", .str "put", .str "set"] = false → Leaf (.tuple (.str w9 :: rest)) := fun z => by
      unfold inV at z
      simp only [List.any_cons, List.any_nil, eqV, Bool.or_eq_false_iff, Bool.or_false] at z
      obtain ⟨z1, z2, z3, z4⟩ := z
      have ne : ∀ {u : Str}, (u == w9) = false → w9 ≠ u := fun h e => by
        rw [e] at h
        simp at h
      exact leaf_of rowR (ne z1) (ne z2) (ne z3) (ne z4)
    have ldr : ∀ {G : Hp}, Same H3 G → Dt (fun _ => True) G (.ref ar) (.tuple (.str w9 :: rest)) := fun {G} s => .tup trivial (s _ _ ear) lr (.cons (.at (.str _)) (dxr.mv (fun _ z => z) fun b o _ z => s b o z))
    have ldc : ∀ {G : Hp}, Same H3 G → Dt (fun _ => True) G (.ref a) (.tuple ds) := fun {G} s => hv3.mv (fun _ z => z) fun b o _ z => s b o z
    -- doubled
    apply cutH (P := fun G => Same H3 G)
    · intro go
      generalize hG : H3 = G0
      have sG : Same H3 G0 := by
        rw [hG]
        exact Same.refl _
      refine ⟨_, rfl, rfl, _, rfl, ite2 (fun h6 => ⟨_, rfl, a, xs, rfl, .inr (SqT.of (sG _ _ ea3)), _, _, rfl, rfl, _, rfl, ite2 (fun h7 => ⟨_, rfl, ar, _, 0, _, rfl, rfl, SqT.of (sG _ _ ear), at0, (by show 4 ≤ sizeLine; decide), fun pt hpt => ?_⟩) (fun _ => iteF (go G0 sG))⟩) (fun _ => iteF (go G0 sG))⟩
      have spt := sG.trans (same_upd (o := .tup [.str "if", .str "get", .str "put", .str "set"]) hpt)
      refine ⟨pt, _, rfl, .inr (SqT.of upd_same), rfl, by decide, _, rfl, ?_⟩
      cases hin : inV (.str w9) [.str "if", .str "get", .str "put", .str "set"] with
      | true => exact iteF (go _ spt)
      | false =>
        have L := lf hin
        refine iteT ⟨(ds, i, .tuple (.str w9 :: rest)), ⟨⟨_, rfl, ldc spt⟩, rfl, ⟨_, rfl, ldr spt⟩, hil, l3⟩, fun v8 H8 s8 d8 => ?_⟩
        have g := Gain.add (n := n + 1) (a := ds.take i) (b := ds.drop i) (e := .tuple (.str w9 :: rest)) (by rw [List.take_append_drop]; exact up) L (fun c => by
          rw [List.take_append_drop] at c
          refine c _ ?_
          unfold flatN
          refine List.mem_flatMap.mpr ⟨_, List.mem_of_getElem? hrow, ?_⟩
          rw [L.s]
          exact List.mem_singleton.mpr rfl)
        rw [List.take_append_drop] at g
        exact fin (b3.tr (s_bt (spt.trans s8))) ((hd3.mv spt).mv s8) g d8
    intro G4 s4
    -- within an if
    apply cutH (P := fun G => Same H3 G)
    · intro go
      generalize hG : G4 = G0
      have sG : Same H3 G0 := by
        rw [← hG]
        exact s4
      refine ⟨_, rfl, rfl, _, rfl, ite2 (fun h6 => ⟨_, rfl, ar, _, 0, _, rfl, rfl, SqT.of (sG _ _ ear), at0, (by show 4 ≤ sizeLine; decide), fun pt hpt => ?_⟩) (fun _ => iteF (go G0 sG))⟩
      have spt := sG.trans (same_upd (o := .tup [.str "if", .str "get", .str "put", .str "set"]) hpt)
      refine ⟨pt, _, rfl, .inr (SqT.of upd_same), rfl, by decide, _, rfl, ?_⟩
      cases hin : inV (.str w9) [.str "if", .str "get", .str "put", .str "set"] with
      | true => exact iteF (go _ spt)
      | false =>
        have L := lf hin
        revert spt
        generalize (upd G0 pt (.tup [.str "if", .str "get", .str "put", .str "set"])) = G5
        intro spt
        refine iteT ⟨_, rfl, (by show 2 ≤ sizeLine; decide), fun pl hpl => ⟨d, pl, [.str "a", .str "r"], rfl, (hd3.mv spt).mv (same_upd hpl), SqL.of upd_same, fun _ z => (hd3.mv spt).ne (by rw [← z]; exact hpl), by decide, by decide, fun H6 i6 v6 h6' b6 hd6 => ?_⟩⟩
        obtain ⟨nm, rfl, hnm⟩ : ∃ nm : Str, v6 = .str nm ∧ isNameD (.str nm) = true := by
          have : v6 ∈ ([.str "a", .str "r"] : List V) := List.mem_of_getElem? h6'
          simp only [List.mem_cons, List.not_mem_nil, or_false] at this
          rcases this with rfl | rfl
          · exact ⟨_, rfl, by decide +kernel⟩
          · exact ⟨_, rfl, by decide +kernel⟩
        have b36 : But d H3 H6 := (s_bt (spt.trans (same_upd hpl))).tr b6
        have dr6 : Dt (fun _ => True) H6 (.ref ar) (.tuple (.str w9 :: rest)) := Dt.butD hd3 b36 purR (.tup trivial ear lr (.cons (.at (.str _)) dxr))
        refine ⟨_, rfl, (by show 1 ≤ sizeLine; decide), fun t1 ht1 => ⟨_, rfl, (by show 1 ≤ sizeLine; decide), fun t2 ht2 => ⟨(by show 5 ≤ sizeLine; decide), fun t3 ht3 => ?_⟩⟩⟩
        have sa := same_upd (o := .tup [.ref ar]) ht1
        have sb := same_upd (o := .tup [.ref ar]) ht2
        have sc := same_upd (o := .tup [.str "if", .str "q", .str nm, .ref t1, .ref t2]) ht3
        have sabc := (sa.trans sb).trans sc
        have one1 : ∀ {t : Addr}, upd (upd (upd H6 t1 (.tup [.ref ar])) t2 (.tup [.ref ar])) t3 (.tup [.str "if", .str "q", .str nm, .ref t1, .ref t2]) t = some (.tup [.ref ar]) → Dt (fun _ => True) (upd (upd (upd H6 t1 (.tup [.ref ar])) t2 (.tup [.ref ar])) t3 (.tup [.str "if", .str "q", .str nm, .ref t1, .ref t2])) (.ref t) (.tuple [.tuple (.str w9 :: rest)]) := fun e => .tup trivial e (by show 1 ≤ 1000; decide) (.cons (dr6.mv (fun _ z => z) fun b o _ z => sabc b o z) .nil)
        have dT : Dt (fun _ => True) (upd (upd (upd H6 t1 (.tup [.ref ar])) t2 (.tup [.ref ar])) t3 (.tup [.str "if", .str "q", .str nm, .ref t1, .ref t2])) (.ref t3) (.tuple [.str "if", .str "q", .str nm, .tuple [.tuple (.str w9 :: rest)], .tuple [.tuple (.str w9 :: rest)]]) := .tup trivial upd_same (by show 5 ≤ 1000; decide) (.cons (.at (.str _)) (.cons (.at (.str _)) (.cons (.at (.str _)) (.cons (one1 (sc _ _ (sb _ _ upd_same))) (.cons (one1 (sc _ _ upd_same)) .nil)))))
        have dcc : Dt (fun _ => True) (upd (upd (upd H6 t1 (.tup [.ref ar])) t2 (.tup [.ref ar])) t3 (.tup [.str "if", .str "q", .str nm, .ref t1, .ref t2])) (.ref a) (.tuple ds) := (Dt.butD hd3 b36 pur hv3).mv (fun _ z => z) fun b o _ z => sabc b o z
        refine ⟨(ds, i, .tuple [.str "if", .str "q", .str nm, .tuple [.tuple (.str w9 :: rest)], .tuple [.tuple (.str w9 :: rest)]]), ⟨⟨_, rfl, dcc⟩, rfl, ⟨_, rfl, dT⟩, hil, l3⟩, fun v8 H8 s8 d8 => ?_⟩
        have g := Gain.wrap (n := n) (a := ds.take i) (b := ds.drop (i + 1)) (e := .tuple (.str w9 :: rest)) (p := .str "q") (r := .str nm) (by rw [← cut]; exact up) L (by decide +kernel) hnm
        rw [← cut] at g
        exact fin (b3.tr (b36.tr (s_bt (sabc.trans s8)))) ((hd6.mv sabc).mv s8) g d8
    intro G5 s5
    -- one more, drawn
    apply cutP
    · intro rest9
      refine ⟨_, rfl, rfl, _, rfl, ite2 (fun h6 => ⟨_, rfl, a, xs, rfl, .inr (SqT.of (s5 _ _ ea3)), _, _, rfl, rfl, _, rfl, ite2 (fun h7 => ?_) (fun _ => rest9)⟩) (fun _ => iteF rest9)⟩
      refine ⟨_, rfl, _, rfl, (i : Int), rfl, sl_one (s5 _ _ ea3) fun c1 H6 s6 _ e6 => ?_⟩
      have s36 := s5.trans s6
      refine ⟨_, rfl, (by show 3 ≤ sizeLine; decide), fun p1 hp1 => ?_⟩
      have s1 := s36.trans (same_upd (o := .lst [.int 0, .int 0, .int 0]) hp1)
      have ne : d ≠ p1 := fun z => by
        rw [← z] at hp1
        exact (hd3.mv s36).ne hp1
      refine ⟨d, p1, 0, 0, 0, rfl, hd3.mv s1, upd_same, ne, fun H7 v e l1 s2 t1 z1 b7 hd7 st hl hs ht _ dv => ⟨(by show 1 ≤ sizeLine; decide), fun tp htp => ?_⟩⟩
      have stp := same_upd (o := .tup [v]) htp
      obtain ⟨L, ce⟩ := leaf_std st hl hs
      have b67 : ∀ b o, b ≠ d → H6 b = some o → H7 b = some o := fun b o hb e => b7 b o hb (ne_of_none e hp1) (same_upd hp1 _ _ e)
      have b37 : But d H3 H7 := fun b o hb e => b67 b o hb (s36 b o e)
      rw [cut_take xs (by omega)] at e6
      have nc1 : c1 ≠ d := fun z => by
        obtain ⟨_, _, _, e⟩ := hd3.mv s36
        rw [z, e] at e6
        cases e6
      have t1l : (xs.take i).length ≤ 300 := by
        rw [List.length_take]
        omega
      refine cat_one (K := K) (stp _ _ (b67 _ _ nc1 e6)) upd_same (by show _ + 1 ≤ sizeLine; omega) fun c3 H8 s8 _ e8 => ⟨_, rfl, _, rfl, (i : Int), rfl, ?_⟩
      have na : a ≠ d := fun z => by
        obtain ⟨_, _, _, e⟩ := hd3
        rw [z, e] at ea3
        cases ea3
      refine sl_two (K := K) (s8 _ _ (stp _ _ (b37 _ _ na ea3))) ?_
      intro c4 H9 s9 _ e9
      rw [cut_drop xs (by omega)] at e9
      have t2l : (xs.drop i).length ≤ 300 := by
        rw [List.length_drop]
        omega
      refine cat_one (K := K) (s9 _ _ e8) e9 (by rw [List.length_append]; show _ + 1 + _ ≤ sizeLine; omega) fun c5 H10 s10 _ e10 => ?_
      have sE := ((stp.trans s8).trans s9).trans s10
      have b310 : But d H3 H10 := b37.tr (s_bt sE)
      have dx3 : DtAll (fun _ => True) H3 xs ds := by
        cases hv3 with
        | «at» z => cases z
        | tup _ y _ h =>
          rw [ea3] at y
          cases y
          exact h
      have dx10 : DtAll (fun _ => True) H10 xs ds := by
        obtain ⟨_, _, _, e⟩ := hd3
        exact DtAll.butL e b310 (by unfold pureD at pur; exact pur) dx3
      have g := Gain.add (n := n + 1) (a := ds.take i) (b := ds.drop i) (e := e) (by rw [List.take_append_drop]; exact up) L (fun _ => ce)
      rw [List.take_append_drop] at g
      refine fin (b3.tr b310) (hd7.mv sE) g (.tup trivial e10 (by rw [List.length_append, List.length_append]; show _ + 1 + _ ≤ 1000; omega) (((dta_take i dx10).app (.cons (dv.mv (fun _ _ => trivial) fun b o _ z => sE b o z) .nil)).app (dta_drop i dx10)))
    refine ⟨(ds, i, .tuple (.str w9 :: rest)), ⟨⟨_, rfl, ldc s5⟩, rfl, ⟨_, rfl, ldr s5⟩, hil, l3⟩, fun v8 H8 s8 d8 => ?_⟩
    refine fin (b3.tr (s_bt (s5.trans s8))) ((hd3.mv s5).mv s8) (Gain.perm ?_ up) d8
    have e2 : ds.drop (i + 1) = (ds.drop (i + 1)).take (i + 2 - (i + 1)) ++ ds.drop (i + 2) := by
      rw [show i + 2 - (i + 1) = 1 by omega]
      conv => lhs; rw [← List.take_append_drop 1 (ds.drop (i + 1)), List.drop_drop]
    have p1 : ds.Perm (ds.take i ++ (PyData.tuple (.str w9 :: rest) :: ((ds.drop (i + 1)).take (i + 2 - (i + 1)) ++ ds.drop (i + 2)))) := by
      rw [← e2]
      conv => lhs; rw [cut]
      rw [List.append_assoc]
      exact List.Perm.refl _
    refine p1.trans ?_
    rw [List.append_assoc, List.append_assoc]
    refine List.Perm.append_left _ ?_
    exact List.perm_middle.symm
theorem ok_chg (F : Fun K "_law_changed" "_law_changed" sChg f fd) (D : DiceF K mg fR fO fdR fdO) (gS : mg "_law_statement" = some (.ref fS)) (kS : PySem.W.keepIn K (.ref fS) = true) (bS : Binds K dS ["_law_dice_here", "_law_room", "_law_deep"] []) (GS : FnOk P w K mg base CX0 3 fS dS ["_law_dice_here", "_law_room", "_law_deep"] (spState 0))
    (gF : mg "_law_changed" = some (.ref f)) (bF : Binds K fd ["_law_dice_here", "_law_code_here"] []) : ∀ n, FnOk P w K mg base CX0 (n + 3) f fd ["_law_dice_here", "_law_code_here"] (spChgAt n)
  | 0 => ⟨fun _ _ _ _ h => h.elim, fun _ _ _ _ _ _ _ _ _ _ _ _ _ h => h.elim⟩
  | n + 1 => chg_step (j := n) F D gS kS bS GS gF bF (ok_chg F D gS kS bS GS gF bF n)
end
end OM

namespace OM
open PySem PySem.Spec PyProof.Rows L2
/-! ### drawn code, by its weights -/
theorem own_leaf {w : Str} {rest : List PyData} {k : Str} (h1 : w ≠ "get") (h2 : w ≠ "put") (h3 : w ≠ "set") (h4 : w ≠ k) : ownD k (.tuple (.str w :: rest)) = 0 := by
  unfold ownD
  rw [if_neg]
  unfold kindD
  dsimp only
  rw [if_neg (fun z => z.elim h1 h2), if_neg h3]
  exact h4
structure DrS (n : Nat) (d : PyData) (l s t : Nat) : Prop where
  row : rowD (cdOf n) d = true
  sz : wsum one (flatS n d) ≤ 1 + 4 * wsum (ownD "if") (flatS n d)
  lt : wsum (ownD "letter") (flatS n d) ≤ l
  st : wsum (ownD "set") (flatS n d) ≤ s
  iff : wsum (ownD "if") (flatS n d) ≤ t
  cel : ∀ x ∈ flatS n d, cellOk x
structure DrC (n : Nat) (ds : List PyData) (l s t : Nat) : Prop where
  rows : ds.all (rowD (cdOf n)) = true
  sz : W one n ds ≤ ds.length + 4 * W (ownD "if") n ds
  lt : W (ownD "letter") n ds ≤ l
  st : W (ownD "set") n ds ≤ s
  iff : W (ownD "if") n ds ≤ t
  cel : cellsOk n ds
theorem DrS.leaf {n : Nat} {w : Str} {rest : List PyData} {l s : Nat} (row : rowD (cdOf 0) (.tuple (.str w :: rest)) = true) (ni : w ≠ "if") (hl : ownD "letter" (.tuple (.str w :: rest)) ≤ l) (hs : ownD "set" (.tuple (.str w :: rest)) ≤ s) (hi : ownD "if" (.tuple (.str w :: rest)) = 0)
    (hc : ∀ c ∈ namesD "cell" (.tuple (.str w :: rest)), c ∈ cells3) (sh : w ≠ "show" := by decide +kernel) : DrS n (.tuple (.str w :: rest)) l s 0 := by
  have row' := leaf_any (m := n) row ni
  have inn : inner2 (.tuple (.str w :: rest)) = [] := by
    rcases row_iff row with ⟨m, p, r, ys, ns, e, _⟩ | ⟨w', rest', ed, _, i0⟩
    · cases e
    · exact i0
  have e := leafS row' inn
  refine ⟨row', ?_, ?_, ?_, ?_, ?_⟩
  · rw [e]
    show 1 + 0 ≤ 1 + _
    omega
  · rw [e]
    show _ + 0 ≤ _
    omega
  · rw [e]
    show _ + 0 ≤ _
    omega
  · rw [e]
    show _ + 0 ≤ _
    omega
  · rw [e]
    intro x hx
    rw [List.mem_singleton.mp hx]
    exact ⟨hc, sh⟩
mutual
theorem StD.dr : ∀ {n : Nat} {d : PyData} {l s t z : Nat}, StD n d l s t z → DrS n d l s t
  | n, _, _, _, _, _, .read (r := r) (x := x) hr hx => by
    have h := (by decide +kernel : ∀ r ∈ regs4, ∀ x ∈ cells3, rowD (cdOf 0) (.tuple [.str "read", .str r, .str x]) = true ∧ ∀ c ∈ namesD "cell" (.tuple [.str "read", .str r, .str x]), c ∈ cells3) r hr x hx
    exact .leaf h.1 (by decide +kernel) (Nat.le_of_eq (own_leaf (by decide +kernel) (by decide +kernel) (by decide +kernel) (by decide +kernel))) (Nat.le_of_eq (own_leaf (by decide +kernel) (by decide +kernel) (by decide +kernel) (by decide +kernel))) (own_leaf (by decide +kernel) (by decide +kernel) (by decide +kernel) (by decide +kernel)) h.2
  | n, _, _, _, _, _, .write (r := r) (x := x) hx hr => by
    have h := (by decide +kernel : ∀ r ∈ regs4, ∀ x ∈ cells3, rowD (cdOf 0) (.tuple [.str "write", .str x, .str r]) = true ∧ ∀ c ∈ namesD "cell" (.tuple [.str "write", .str x, .str r]), c ∈ cells3) r hr x hx
    exact .leaf h.1 (by decide +kernel) (Nat.le_of_eq (own_leaf (by decide +kernel) (by decide +kernel) (by decide +kernel) (by decide +kernel))) (Nat.le_of_eq (own_leaf (by decide +kernel) (by decide +kernel) (by decide +kernel) (by decide +kernel))) (own_leaf (by decide +kernel) (by decide +kernel) (by decide +kernel) (by decide +kernel)) h.2
  | n, _, _, _, _, _, .copy (r := r) (a := a) hr ha => by
    have h := (by decide +kernel : ∀ r ∈ regs4, ∀ x ∈ regs4, rowD (cdOf 0) (.tuple [.str "copy", .str r, .str x]) = true ∧ ∀ c ∈ namesD "cell" (.tuple [.str "copy", .str r, .str x]), c ∈ cells3) r hr a ha
    exact .leaf h.1 (by decide +kernel) (Nat.le_of_eq (own_leaf (by decide +kernel) (by decide +kernel) (by decide +kernel) (by decide +kernel))) (Nat.le_of_eq (own_leaf (by decide +kernel) (by decide +kernel) (by decide +kernel) (by decide +kernel))) (own_leaf (by decide +kernel) (by decide +kernel) (by decide +kernel) (by decide +kernel)) h.2
  | n, _, _, _, _, _, .letter (w := w) (r := r) hw hr => by
    have h := (by decide +kernel : ∀ w ∈ (["get", "put"] : List Str), ∀ r ∈ regs4, rowD (cdOf 0) (.tuple [.str w, .str r]) = true ∧ w ≠ "if" ∧ ownD "letter" (.tuple [.str w, .str r]) ≤ 1 ∧ ownD "set" (.tuple [.str w, .str r]) ≤ 0 ∧ ownD "if" (.tuple [.str w, .str r]) = 0 ∧ w ≠ "show" ∧ ∀ c ∈ namesD "cell" (.tuple [.str w, .str r]), c ∈ cells3) w (by simpa using hw) r hr
    exact .leaf h.1 h.2.1 h.2.2.1 h.2.2.2.1 h.2.2.2.2.1 h.2.2.2.2.2.2 h.2.2.2.2.2.1
  | n, _, _, _, _, _, .set (r := r) (f := f) (as := as) hr hf ha hl => by
    have h1 := (by decide +kernel : ∀ r ∈ regs4, isNameD (.str r) = true) r hr
    have h2 := (by decide +kernel : ∀ f ∈ (["f", "g"] : List Str), isNameD (.str f) = true) f (by simpa using hf)
    have h3 : argsD (.tuple (as.map PyData.str)) = true := by
      show (decide ((as.map PyData.str).length ≤ 2) && (as.map PyData.str).all isNameD) = true
      rw [List.length_map, decide_eq_true hl, Bool.true_and, List.all_map]
      exact List.all_eq_true.mpr fun k hk => (by decide +kernel : ∀ k ∈ regs4, isNameD (.str k) = true) k (ha k hk)
    have row : rowD (cdOf 0) (.tuple [.str "set", .str r, .str f, .tuple (as.map PyData.str)]) = true := by
      rw [row_set, h1, h2, h3]
      rfl
    have kd : ∀ k : Str, k ≠ "set" → k ≠ "constant" → ownD k (.tuple [.str "set", .str r, .str f, .tuple (as.map PyData.str)]) = 0 := fun k n1 n2 => by
      unfold ownD
      rw [if_neg]
      unfold kindD
      dsimp only
      rw [if_neg (by decide +kernel), if_pos rfl]
      split
      · exact fun z => n2 z.symm
      · exact fun z => n1 z.symm
    refine .leaf row (by decide +kernel) (Nat.le_of_eq (kd _ (by decide +kernel) (by decide +kernel))) ?_ (kd _ (by decide +kernel) (by decide +kernel)) ?_
    · unfold ownD
      split <;> omega
    · intro c hc
      have e4 : formOf "set" = some (["register", "function", "registers"] : List Str) := by decide +kernel
      have : namesD "cell" (.tuple [.str "set", .str r, .str f, .tuple (as.map PyData.str)]) = [] := by
        show (match formOf "set" with | some rs => (List.zipWith (nmD "cell") [.str r, .str f, .tuple (as.map PyData.str)] rs).flatten | none => []) = _
        rw [e4]
        show (nmD "cell" (.str r) "register" ++ (nmD "cell" (.str f) "function" ++ (nmD "cell" (.tuple (as.map PyData.str)) "registers" ++ []))) = []
        unfold nmD
        rw [if_neg (by decide +kernel), if_neg (by decide +kernel), if_neg (by decide +kernel), if_neg (by decide +kernel), if_neg (by decide +kernel), if_neg (by decide +kernel)]
        rfl
      rw [this] at hc
      cases hc
  | _, _, _, _, _, _, .iff (n := n) (p := p) (r := r) (ys := ys) (ns := ns) hp hr hy hyl hn hnl => by
    have a := CoD.dr hy
    have b := CoD.dr hn
    have h1 := (by decide +kernel : ∀ r ∈ regs4, isNameD (.str r) = true) r hr
    have h2 := (by decide +kernel : ∀ f ∈ (["p", "q"] : List Str), isNameD (.str f) = true) p (by simpa using hp)
    have row := if_row h2 h1 a.rows b.rows
    have k : ∀ k : Str, k ≠ "if" → ownD k (.tuple [.str "if", .str p, .str r, .tuple ys, .tuple ns]) = 0 := fun k hk => by
      unfold ownD
      rw [if_neg (by
        unfold kindD
        dsimp only
        rw [if_neg (by decide +kernel), if_neg (by decide +kernel)]
        exact fun z => hk z.symm)]
    obtain ⟨_, a1, a2, a3, a4, a5⟩ := a
    obtain ⟨_, b1, b2, b3, b4, b5⟩ := b
    refine ⟨row, ?_, ?_, ?_, ?_, ?_⟩
    · rw [W_if row, W_if row, own_if]
      show 1 + _ ≤ _
      omega
    · rw [W_if row, k _ (by decide +kernel)]
      omega
    · rw [W_if row, k _ (by decide +kernel)]
      omega
    · rw [W_if row, own_if]
      omega
    · rw [ifS row]
      intro x hx
      rcases List.mem_cons.mp hx with rfl | hx
      · refine ⟨fun c hc => ?_, by show ("if" : Str) ≠ "show"; decide +kernel⟩
        have e4 : formOf "if" = some (["test", "register", "code", "code"] : List Str) := by decide +kernel
        have : namesD "cell" (.tuple [.str "if", .str p, .str r, .tuple ys, .tuple ns]) = [] := by
          show (match formOf "if" with | some rs => (List.zipWith (nmD "cell") [.str p, .str r, .tuple ys, .tuple ns] rs).flatten | none => []) = _
          rw [e4]
          show (nmD "cell" (.str p) "test" ++ (nmD "cell" (.str r) "register" ++ (nmD "cell" (.tuple ys) "code" ++ (nmD "cell" (.tuple ns) "code" ++ [])))) = []
          unfold nmD
          rw [if_neg (by decide +kernel), if_neg (by decide +kernel), if_neg (by decide +kernel), if_neg (by decide +kernel), if_neg (by decide +kernel), if_neg (by decide +kernel)]
          rfl
        rw [this] at hc
        cases hc
      · rcases List.mem_append.mp hx with z | z
        · exact a5 x z
        · exact b5 x z
theorem CoD.dr : ∀ {n : Nat} {ds : List PyData} {l s t z : Nat}, CoD n ds l s t z → DrC n ds l s t
  | _, _, _, _, _, _, .nil => ⟨rfl, Nat.zero_le _, Nat.zero_le _, Nat.zero_le _, Nat.zero_le _, fun x hx => by cases hx⟩
  | _, _, _, _, _, _, .cons h r => by
    obtain ⟨a0, a1, a2, a3, a4, a5⟩ := StD.dr h
    obtain ⟨b0, b1, b2, b3, b4, b5⟩ := CoD.dr r
    refine ⟨by rw [List.all_cons, a0, b0]; rfl, ?_, ?_, ?_, ?_, ?_⟩
    · rw [W_cons, W_cons, List.length_cons]
      omega
    · rw [W_cons]
      omega
    · rw [W_cons]
      omega
    · rw [W_cons]
      omega
    · intro x hx
      rw [flatN_cons] at hx
      rcases List.mem_append.mp hx with z | z
      · exact a5 x z
      · exact b5 x z
end
/-- no `show` among the words -/
theorem names_ns : ∀ {ds : List PyData}, ds.all isNameD = true → nsAll ds = true
  | [], _ => by
    unfold nsAll
    rfl
  | d :: r, h => by
    rw [List.all_cons, Bool.and_eq_true] at h
    unfold nsAll
    rw [name_ns h.1, names_ns h.2]
    rfl
where
  name_ns {d : PyData} (h : isNameD d = true) : nsD d = true := by
    cases d with
    | str x =>
      unfold nsD
      refine decide_eq_true fun z => ?_
      rw [z] at h
      exact absurd h (by decide +kernel)
    | _ => cases h
theorem fits_ns {cd : PyData → Bool} (hc : ∀ d, cd d = true → nsD d = true) : ∀ {rest : List PyData} {rs : List Str}, rest.length = rs.length → (List.zipWith (fitD cd) rest rs).all id = true → nsAll rest = true
  | [], _, _, _ => by
    unfold nsAll
    rfl
  | d :: r, [], h, _ => by cases h
  | d :: r, k :: ks, h, z => by
    rw [List.zipWith_cons_cons, List.all_cons, Bool.and_eq_true] at z
    unfold nsAll
    rw [fits_ns hc (by simpa using h) z.2, Bool.and_true]
    have z1 : fitD cd d k = true := z.1
    unfold fitD at z1
    split at z1
    · exact hc d z1
    · split at z1
      · unfold argsD at z1
        cases d with
        | tuple ds =>
          rw [Bool.and_eq_true] at z1
          rw [nsD_tup]
          exact names_ns z1.2
        | _ => cases z1
      · exact names_ns.name_ns z1
theorem row_ns {cd : PyData → Bool} (hc : ∀ d, cd d = true → nsD d = true) {d : PyData} (h : rowD cd d = true) (sh : ShW d) : nsD d = true := by
  obtain ⟨w, rest, rs, rfl, hf, hl, hz⟩ := rowD_shape h
  rw [nsD_tup]
  unfold nsAll nsD
  rw [decide_eq_true (show w ≠ "show" from sh), fits_ns hc hl hz]
  rfl
theorem code_ns : ∀ {n : Nat} {ds : List PyData}, ds.all (rowD (cdOf n)) = true → (∀ x ∈ flatN n ds, ShW x) → nsAll ds = true
  | _, [], _, _ => by
    unfold nsAll
    rfl
  | n, d :: r, h, sh => by
    rw [List.all_cons, Bool.and_eq_true] at h
    rw [flatN_cons] at sh
    have hr := code_ns (n := n) (ds := r) h.2 fun x hx => sh x (List.mem_append_right _ hx)
    have hd : nsD d = true := by
      rcases row_iff h.1 with ⟨m, p, q, ys, ns, rfl, rfl, hy, hn, hp, hq⟩ | ⟨w, rest, rfl, ni, i0⟩
      · rw [ifS h.1] at sh
        have a := code_ns (n := m) (ds := ys) hy fun x hx => sh x (List.mem_append_left _ (List.mem_cons_of_mem _ (List.mem_append_left _ hx)))
        have b := code_ns (n := m) (ds := ns) hn fun x hx => sh x (List.mem_append_left _ (List.mem_cons_of_mem _ (List.mem_append_right _ hx)))
        have c := names_ns.name_ns hp
        have e := names_ns.name_ns hq
        simp only [nsD_tup, nsAll, a, b, c, e]
        decide +kernel
      · refine row_ns (cd := cdOf 0) (fun _ z => by cases z) (leaf_any (m := 0) h.1 ni) (sh _ (List.mem_append_left _ ?_))
        rw [leafS h.1 i0]
        exact List.mem_cons_self ..
    unfold nsAll
    rw [hd, hr]
    rfl
termination_by n ds => (n, ds.length)
/-- drawn code, what is asked of its cells apart -/
structure DrT (n : Nat) (ds : List PyData) (l s t : Nat) : Prop where
  rows : ds.all (rowD (cdOf n)) = true
  sz : W one n ds ≤ ds.length + 4 * W (ownD "if") n ds
  lt : W (ownD "letter") n ds ≤ l
  st : W (ownD "set") n ds ≤ s
  iff : W (ownD "if") n ds ≤ t
theorem DrC.tr {n : Nat} {ds : List PyData} {l s t : Nat} (h : DrC n ds l s t) : DrT n ds l s t := ⟨h.rows, h.sz, h.lt, h.st, h.iff⟩
/-- what Stretch takes (C), and the code of a thread -/
structure NearOk (C : Prop) (e : List PyData) : Prop where
  rows : e.all (rowD (cdOf 3)) = true
  few : (flatN 3 e).length ≤ 24
  iff : W (ownD "if") 3 e ≤ 3
  st : W (ownD "set") 3 e ≤ 3
  bnd : C → bndD e = true
  ns : C → nsAll e = true
theorem near_bnd {C : Prop} {e : List PyData} (rows : e.all (rowD (cdOf 3)) = true) (h1 : W one 3 e ≤ 24) (h2 : W (ownD "letter") 3 e ≤ 6) (h3 : W (ownD "set") 3 e ≤ 3) (h4 : W (ownD "if") 3 e ≤ 3) (c : C → cellsOk 3 e) : NearOk C e := by
  rw [W_one] at h1
  have m : ∀ k, mostN 3 k e ≤ W (ownD k) 3 e := fun k => (most_sum k 3).2 e
  refine ⟨rows, h1, h4, h3, fun hC => ?_, fun hC => code_ns rows fun x hx => (c hC x hx).2⟩
  have hc : (firsts [] ((flatN 3 e).flatMap (namesD "cell"))).length ≤ 4 := by
    have n := nodup_firsts ((flatN 3 e).flatMap (namesD "cell")) (L := []) List.nodup_nil
    have s : firsts [] ((flatN 3 e).flatMap (namesD "cell")) ⊆ cells3 := fun x hx => by
      rcases mem_firsts.mp hx with z | z
      · cases z
      · obtain ⟨y, hy, hx⟩ := List.mem_flatMap.mp z
        exact (c hC y hy).1 x hx
    exact Nat.le_trans (List.Nodup.length_le_of_subset n s) (by decide)
  unfold bndD
  rw [decide_eq_true h1, decide_eq_true hc, decide_eq_true (Nat.le_trans (m _) h2), decide_eq_true (Nat.le_trans (m _) (Nat.le_trans h3 (by decide))), decide_eq_true (Nat.le_trans (m _) h4)]
  rfl
end OM

namespace OM
open PySem PySem.Spec PyProof.Rows L2
def leS (a b : Str) : Prop := ltCps b.cps.toList a.cps.toList = false
theorem leS_iff {a b : Str} : leS a b ↔ a.cps.toList ≤ b.cps.toList := by
  unfold leS
  rw [ltCps_eq, decide_eq_false_iff_not, List.not_lt]
theorem leS_trans {a b c : Str} (h : leS a b) (k : leS b c) : leS a c := leS_iff.mpr (List.le_trans (leS_iff.mp h) (leS_iff.mp k))
theorem leS_anti {a b : Str} (h : leS a b) (k : leS b a) : a = b := by
  have e := List.le_antisymm (leS_iff.mp h) (leS_iff.mp k)
  cases a with
  | mk x =>
    cases b with
    | mk y =>
      have : x = y := Array.ext' e
      rw [this]
theorem pair_of_rising : ∀ {p : Str} {l : List Str}, risingS p l = true → (p :: l).Pairwise leS
  | p, [], _ => List.pairwise_singleton _ _
  | p, x :: r, h => by
    have h : (!ltCps x.cps.toList p.cps.toList && risingS x r) = true := h
    obtain ⟨h1, h2⟩ := Bool.and_eq_true_iff.mp h
    have ih := pair_of_rising h2
    have hp : leS p x := by
      unfold leS
      simpa using h1
    refine List.pairwise_cons.mpr ⟨fun y hy => ?_, ih⟩
    rcases List.mem_cons.mp hy with rfl | hy
    · exact hp
    · exact leS_trans hp ((List.pairwise_cons.mp ih).1 y hy)
theorem pair_of_sorted {l : List Str} (h : sortedS l = true) : l.Pairwise leS := by
  cases l with
  | nil => exact List.Pairwise.nil
  | cons x r => exact pair_of_rising h
theorem sorted_uniq {xs ys : List Str} (h : sortedS xs = true) (k : sortedS ys = true) (p : xs.Perm ys) : xs = ys :=
  p.eq_of_pairwise (fun _ _ _ _ => leS_anti) (pair_of_sorted h) (pair_of_sorted k)
/-- the names of l, each once, ascending -/
def IsSet (ys l : List Str) : Prop := sortedS ys = true ∧ ys.Perm (firsts [] l)
theorem firsts_perm {l k : List Str} (h : ∀ x, x ∈ l ↔ x ∈ k) : (firsts [] l).Perm (firsts [] k) :=
  (List.perm_ext_iff_of_nodup (nodup_firsts _ List.nodup_nil) (nodup_firsts _ List.nodup_nil)).mpr fun x => by
    rw [mem_firsts, mem_firsts, h x]
theorem IsSet.uniq {xs ys l k : List Str} (h : IsSet xs l) (h2 : IsSet ys k) (e : ∀ x, x ∈ l ↔ x ∈ k) : xs = ys := sorted_uniq h.1 h2.1 ((h.2.trans (firsts_perm e)).trans h2.2.symm)
theorem IsSet.mem {ys l : List Str} (h : IsSet ys l) {x : Str} : x ∈ ys ↔ x ∈ l := by
  rw [h.2.mem_iff, mem_firsts]
  simp
noncomputable def theOne (p : List Str → Prop) : List Str := open Classical in if h : ∃ ys, p ys then Classical.choose h else []
/-- the set of names of l, written down -/
noncomputable def canon (l : List Str) : List Str := theOne fun ys => IsSet ys l
theorem IsSet.canon {ys l : List Str} (h : IsSet ys l) : ys = canon l := by
  unfold OM.canon theOne
  rw [dif_pos ⟨ys, h⟩]
  exact h.uniq (Classical.choose_spec (⟨ys, h⟩ : ∃ ys, IsSet ys l)) fun _ => Iff.rfl
theorem canon_congr {l k : List Str} (h : ∀ x, x ∈ l ↔ x ∈ k) : canon l = canon k :=
  congrArg theOne (funext fun ys => propext ⟨fun z => ⟨z.1, z.2.trans (firsts_perm h)⟩, fun z => ⟨z.1, z.2.trans (firsts_perm h).symm⟩⟩)
end OM

namespace OM
open PySem PySem.Spec PyProof.Rows L2
def rTupO (K : PySem.W.Frag) : List V → Hp → VK → Prop := fun xs H Q => ∃ p ys, xs = [.ref p] ∧ ((SqL K H p ys ∧ ∀ l, H l = none → Q (.ref l) (upd H l (.tup ys))) ∨ (SqT K H p ys ∧ Q (.ref p) H))
def strT (l : List Str) : PyData := .tuple (l.map PyData.str)
theorem dt_strL {S : Addr → Prop} {H : Hp} : ∀ {xs : List V} {l : List Str}, DtAll S H xs (l.map PyData.str) → xs = l.map V.str
  | [], [], _ => rfl
  | x :: xs, a :: l, h => by
    cases h with
    | cons h r =>
      rw [dt_strL r]
      cases h with
      | «at» a => cases a <;> rfl
theorem dt_str1 {S : Addr → Prop} {H : Hp} {v : V} {x : Str} (h : Dt S H v (.str x)) : v = .str x := by
  cases h with
  | «at» a => cases a <;> rfl
theorem dt_ofStrs {S : Addr → Prop} {H : Hp} : ∀ l : List Str, DtAll S H (l.map V.str) (l.map PyData.str)
  | [] => .nil
  | x :: l => .cons (.at (.str x)) (dt_ofStrs l)
theorem isS {d : PyData} (h : isNameD d = true) : ∃ x, d = .str x := by
  cases d with
  | str x => exact ⟨x, rfl⟩
  | _ => cases h
end OM

namespace OM
open PySem PySem.Spec PyProof.Rows L2
theorem zip_all2 {p : PyData → Prop} {g : PyData → Str → Bool} : ∀ {ds : List PyData} {rs : List Str}, (∀ d r, r ∈ rs → g d r = true → p d) → ds.length = rs.length → (List.zipWith g ds rs).all id = true → ∀ d ∈ ds, p d
  | [], _, _, _, _ => fun d h => by cases h
  | _ :: _, [], _, h, _ => by cases h
  | d :: ds, r :: rs, hg, h, z => by
    rw [List.zipWith_cons_cons, List.all_cons, Bool.and_eq_true] at z
    intro e he
    rcases List.mem_cons.mp he with rfl | he
    · exact hg _ _ (List.mem_cons_self ..) z.1
    · exact zip_all2 (fun d r hr => hg d r (List.mem_cons_of_mem _ hr)) (by simpa using h) z.2 e he
theorem leaf_roles {w : Str} {rs : List Str} (hf : formOf w = some rs) (ni : w ≠ "if") : ∀ r ∈ rs, r ≠ "code" := by
  unfold formOf at hf
  rw [if_neg ni] at hf
  intro k hk z
  subst z
  repeat (first | (split at hf) | (cases hf; exact absurd hk (by decide +kernel)) | cases hf)
theorem form_word {w : Str} {rs : List Str} (hf : formOf w = some rs) : w.length ≤ 5 ∧ smlD (.str w) = true ∧ rs.length ≤ 4 := by
  have key : ∀ v ∈ (["read", "write", "set", "copy", "get", "put", "if", "show"] : List Str), v.length ≤ 5 ∧ smlD (.str v) = true := by decide +kernel
  have hw : w ∈ (["read", "write", "set", "copy", "get", "put", "if", "show"] : List Str) := by
    unfold formOf at hf
    by_cases h1 : w = "read"
    · rw [h1]; decide +kernel
    by_cases h2 : w = "write"
    · rw [h2]; decide +kernel
    by_cases h3 : w = "set"
    · rw [h3]; decide +kernel
    by_cases h4 : w = "copy"
    · rw [h4]; decide +kernel
    by_cases h5 : w = "get"
    · rw [h5]; decide +kernel
    by_cases h6 : w = "put"
    · rw [h6]; decide +kernel
    by_cases h7 : w = "if"
    · rw [h7]; decide +kernel
    by_cases h8 : w = "show"
    · rw [h8]; decide +kernel
    rw [if_neg h1, if_neg h2, if_neg h3, if_neg h4, if_neg h5, if_neg h6, if_neg h7, if_neg h8] at hf
    cases hf
  exact ⟨(key w hw).1, (key w hw).2, form_len hf⟩
theorem name_small {d : PyData} (h : isNameD d = true) : smlD d = true ∧ d.weight ≤ 8 := by
  obtain ⟨x, rfl⟩ := isS h
  have h : nameS x = true := h
  unfold nameS at h
  simp only [Bool.and_eq_true, decide_eq_true_eq] at h
  obtain ⟨_, h2, h3, _⟩ := h
  refine ⟨?_, h2⟩
  unfold smlD
  rw [Bool.and_eq_true]
  refine ⟨decide_eq_true (by omega), ?_⟩
  unfold PyData.strOk
  rw [Array.all_eq_true']
  intro c hc
  have := List.all_eq_true.mp h3 c (by simpa using hc)
  simp only [Bool.and_eq_true, decide_eq_true_eq] at this
  exact decide_eq_true (by omega)
theorem weightAll_cons (x : PyData) (r : List PyData) : PyData.weightAll (x :: r) = x.weight + 1 + PyData.weightAll r := by rw [PyData.weightAll]
theorem weight_tup (ds : List PyData) : (PyData.tuple ds).weight = PyData.weightAll ds := by unfold PyData.weight; rfl
theorem all_small {m : Nat} : ∀ {ds : List PyData}, (∀ d ∈ ds, smlD d = true ∧ d.weight ≤ m) → smlAll ds = true ∧ PyData.weightAll ds ≤ (m + 1) * ds.length
  | [], _ => ⟨by unfold smlAll; rfl, Nat.zero_le _⟩
  | d :: r, h => by
    obtain ⟨a, b⟩ := h d (by simp)
    obtain ⟨c, e⟩ := all_small (ds := r) fun x hx => h x (List.mem_cons_of_mem _ hx)
    rw [smlAll_cons, weightAll_cons, a, c, List.length_cons, Nat.mul_succ]
    exact ⟨rfl, by omega⟩
theorem args_small {d : PyData} (h : argsD d = true) : smlD d = true ∧ d.weight ≤ 18 := by
  unfold argsD at h
  split at h
  · rename_i ds
    rw [Bool.and_eq_true, decide_eq_true_eq] at h
    obtain ⟨a, b⟩ := all_small (m := 8) (ds := ds) fun x hx => name_small (List.all_eq_true.mp h.2 x hx)
    rw [sml_tup, weight_tup]
    exact ⟨a, by omega⟩
  · cases h
theorem row_small : ∀ (n : Nat) (d : PyData), rowD (cdOf n) d = true → smlD d = true ∧ d.weight + 1 ≤ 100 * (flatS n d).length := by
  have leaf : ∀ (n : Nat) (w : Str) (rest : List PyData), rowD (cdOf n) (.tuple (.str w :: rest)) = true → w ≠ "if" → smlD (.tuple (.str w :: rest)) = true ∧ (PyData.tuple (.str w :: rest)).weight + 1 ≤ 100 := fun n w rest row ni => by
    obtain ⟨w', rest', rs, e, hf, hlen, fits⟩ := rowD_shape row
    obtain ⟨rfl, rfl⟩ : w = w' ∧ rest = rest' := by
      injection e with e
      injection e with e1 e2
      injection e1 with e1
      exact ⟨e1, e2⟩
    have nc := leaf_roles hf ni
    obtain ⟨w5, ws, r4⟩ := form_word hf
    have hp : ∀ x ∈ rest, smlD x = true ∧ x.weight ≤ 18 := zip_all2 (fun x r hr hx => by
      unfold fitD at hx
      rw [if_neg (nc r hr)] at hx
      split at hx
      · exact args_small hx
      · obtain ⟨a, b⟩ := name_small hx
        exact ⟨a, by omega⟩) hlen fits
    obtain ⟨a, b⟩ := all_small hp
    rw [sml_tup, smlAll_cons, ws, a, weight_tup, weightAll_cons]
    refine ⟨rfl, ?_⟩
    have e1 : (PyData.str w).weight = w.length := rfl
    omega
  intro n
  induction n with
  | zero =>
    intro d h
    rcases row_iff h with ⟨m, _, _, _, _, e, _⟩ | ⟨w, rest, rfl, ni, e0⟩
    · cases e
    · exact leaf 0 w rest h ni
  | succ m ih =>
    intro d h
    rcases row_iff h with ⟨m', p, r, ys, ns, em, rfl, hy, hn, np, nr⟩ | ⟨w, rest, rfl, ni, e0⟩
    · obtain rfl : m = m' := by omega
      have code : ∀ {l : List PyData}, l.all (rowD (cdOf m)) = true → smlAll l = true ∧ PyData.weightAll l ≤ 100 * (flatN m l).length := fun {l} hl => by
        induction l with
        | nil => exact ⟨by unfold smlAll; rfl, Nat.zero_le _⟩
        | cons x t iht =>
          rw [List.all_cons, Bool.and_eq_true] at hl
          obtain ⟨a, b⟩ := ih x hl.1
          obtain ⟨c, e⟩ := iht hl.2
          rw [smlAll_cons, weightAll_cons, a, c]
          refine ⟨rfl, ?_⟩
          have : (flatN m (x :: t)).length = (flatS m x).length + (flatN m t).length := by
            unfold flatN
            rw [List.flatMap_cons, List.length_append]
          omega
      obtain ⟨a1, b1⟩ := code hy
      obtain ⟨a2, b2⟩ := code hn
      obtain ⟨a3, b3⟩ := name_small np
      obtain ⟨a4, b4⟩ := name_small nr
      have e : (flatS (m + 1) (.tuple [.str "if", p, r, .tuple ys, .tuple ns])).length = 1 + ((flatN m ys).length + (flatN m ns).length) := by
        rw [flatS_row h]
        show (_ :: [ys, ns].flatMap (flatN m)).length = _
        rw [List.flatMap_cons, List.flatMap_cons, List.flatMap_nil, List.append_nil, List.length_cons, List.length_append]
        omega
      rw [e, sml_tup, weight_tup]
      simp only [smlAll_cons, weightAll_cons, weight_tup, sml_tup, a1, a2, a3, a4]
      refine ⟨by unfold smlAll; decide +kernel, ?_⟩
      have e1 : (PyData.str "if").weight = 2 := by decide +kernel
      have e2 : PyData.weightAll [] = 0 := by unfold PyData.weightAll; rfl
      omega
    · obtain ⟨a, b⟩ := leaf (m + 1) w rest h ni
      refine ⟨a, ?_⟩
      have e : (flatS (m + 1) (.tuple (.str w :: rest))).length = 1 := by
        rw [flatS_row h, e0]
        rfl
      omega
theorem code_small {n : Nat} {l : List PyData} (hl : l.all (rowD (cdOf n)) = true) : smlAll l = true ∧ PyData.weightAll l ≤ 100 * (flatN n l).length := by
  induction l with
  | nil => exact ⟨by unfold smlAll; rfl, Nat.zero_le _⟩
  | cons x t iht =>
    rw [List.all_cons, Bool.and_eq_true] at hl
    obtain ⟨a, b⟩ := row_small n x hl.1
    obtain ⟨c, e⟩ := iht hl.2
    rw [smlAll_cons, weightAll_cons, a, c]
    refine ⟨rfl, ?_⟩
    have : (flatN n (x :: t)).length = (flatS n x).length + (flatN n t).length := by
      unfold flatN
      rw [List.flatMap_cons, List.length_append]
    omega
mutual
theorem eqv_eq : ∀ d e : PyData, pureD d = true → pureD e = true → PyData.eqv d e = true → d = e
  | .str x, e, _, he, h => by
    cases e with
    | str y =>
      unfold PyData.eqv at h
      rw [beq_iff_eq.mp h]
    | tuple ys => unfold PyData.eqv at h; cases h
    | _ => unfold pureD at he; cases he
  | .tuple xs, e, hd, he, h => by
    cases e with
    | tuple ys =>
      unfold PyData.eqv at h
      unfold pureD at hd he
      rw [eqvAll_eq xs ys hd he h]
    | str y => unfold PyData.eqv at h; cases h
    | _ => unfold pureD at he; cases he
  | .none, _, h, _, _ => by unfold pureD at h; cases h
  | .bool _, _, h, _, _ => by unfold pureD at h; cases h
  | .int _, _, h, _, _ => by unfold pureD at h; cases h
  | .list _, _, h, _, _ => by unfold pureD at h; cases h
  | .dict _, _, h, _, _ => by unfold pureD at h; cases h
theorem eqvAll_eq : ∀ xs ys : List PyData, pureAll xs = true → pureAll ys = true → PyData.eqvAll xs ys = true → xs = ys
  | [], [], _, _, _ => rfl
  | x :: xs, y :: ys, hx, hy, h => by
    unfold pureAll at hx hy
    unfold PyData.eqvAll at h
    rw [Bool.and_eq_true] at hx hy h
    rw [eqv_eq x y hx.1 hy.1 h.1, eqvAll_eq xs ys hx.2 hy.2 h.2]
  | [], _ :: _, _, _, h => by unfold PyData.eqvAll at h; cases h
  | _ :: _, [], _, _, h => by unfold PyData.eqvAll at h; cases h
end
open Classical in
theorem eqv_dec {d e : PyData} (hd : pureD d = true) (he : pureD e = true) : PyData.eqv d e = decide (d = e) := by
  by_cases h : d = e
  · subst h
    rw [eqv_pure d hd, decide_eq_true rfl]
  · rw [decide_eq_false h]
    exact Bool.eq_false_iff.mpr fun z => h (eqv_eq d e hd he z)
end OM

namespace OM
open PySem PySem.Spec PyProof.Rows L2
abbrev sIfs : Stmt := top 70
abbrev sNear : Stmt := top 69
def spIfsAt : Nat → Sp
  | 0 => fun _ _ _ _ => False
  | n + 1 => fun vs H Q _ => ∃ (v : V) (ds : List PyData), vs = [v] ∧ Dt (fun _ => True) H v (.tuple ds) ∧ ds.all (rowD (cdOf n)) = true ∧ ∀ H', Same H H' → Q (.int (W (ownD "if") n ds : Nat)) H'
theorem W_take {ψ : PyData → Nat} {n i : Nat} {d : PyData} {ds : List PyData} (h : ds[i]? = some d) : W ψ n (ds.take (i + 1)) = W ψ n (ds.take i) + wsum ψ (flatS n d) := by
  rw [List.take_add_one, h, W_ap]
  show _ + W ψ n [d] = _
  rw [W_cons]
  show _ + (_ + 0) = _
  omega
/-- what an if counts, so far -/
def PvIfs (n : Nat) (ds : List PyData) (H : Hp) (D : Addr) (i : Nat) (H' : Hp) : Prop := Same H H' ∧ ∃ bs : List Nat, H' D = some (.lst (bs.map fun n : Nat => V.int (n : Int))) ∧ bs.sum = W (ownD "if") n (ds.take i) ∧ bs.length ≤ i
section
variable {P : Program} {w : World} {K : PySem.W.Frag} {mg : Str → Option Value} {base : Heap} {f fR fC fI : Addr} {fd fdR dC dI : FuncData}
theorem scIf : FnScope ["_law_code_here", "_law_row"] ["_law_code_here"] (defScope sIfs) := ⟨rfl, rfl, rfl, by decide +kernel, rfl, by decide +kernel, by decide +kernel⟩
theorem ifs_step {n k : Nat} (F : Fun K "_law_ifs" "_law_ifs" sIfs f fd) (sm : mg "sum" = none) (gF : mg "_law_ifs" = some (.ref f)) (bF : Binds K fd ["_law_code_here"] []) (G : FnOk P w K mg base CX0 k f fd ["_law_code_here"] (spIfsAt n)) : FnOk P w K mg base CX0 (k + 1) f fd ["_law_code_here"] (spIfsAt (n + 1)) := by
  refine F.ok scIf (fun vs H Q E h => ?_) (fun cdv A outer s H vs Q E hr h => ?_)
  · obtain ⟨v, ds, rfl, _⟩ := h
    rfl
  · obtain ⟨v, ds, rfl, hd, rows, q⟩ := h
    refine ⟨_, pss_one (ps_ret (pe_callB (cr_sum rfl) (by rfl) sm (by decide +kernel) (pa_cons (pe_lc (own := [("_law_row", 1)]) rfl scIf.nd (pi_tup (pv 0)) (blkOk_by (N := ["_law_code_here", "_law_row"]) (sc := defScope sIfs) (by decide +kernel))
      (fun _ _ _ _ _ => pg_name (i := 1) scIf.nd rfl (Or.inl rfl)) (fun _ _ _ _ _ => pts_one (pt_cmpR op_eq (pe_ix (r := rIxT K) ix_tup (pv 1) pe_int (fun _ _ => rfl)) pe_str (nomark _))) (fun _ _ _ _ _ => pe_op op_add (pe_op op_add pe_int
        (pe_call G hr (by rfl) gF F.kp bF .nil pass0 (pa_cons (pe_ix (r := rIxT K) ix_tup (pv 1) pe_int (fun _ _ => rfl)) pa_nil))) (pe_call G hr (by rfl) gF F.kp bF .nil pass0 (pa_cons (pe_ix (r := rIxT K) ix_tup (pv 1) pe_int (fun _ _ => rfl)) pa_nil)))) pa_nil))), ?_⟩
    obtain ⟨a, xs, rfl, ea, hl, hx⟩ := hd.tup_of
    refine ⟨_, rfl, a, rfl, ⟨xs, SqT.of ea⟩, fun Dl hD => lc_tup (PvIfs n ds H Dl) ⟨same_upd hD, [], upd_same, rfl, Nat.zero_le _⟩ (fun i H' _ p => SqT.of (p.1 _ _ ea)) (fun i x H3 hi p => ?_) (fun H5 p => ?_)⟩
    · obtain ⟨d, hdi, hdt⟩ := hx.get hi
      have lx := hx.length
      have li : i < ds.length := (List.getElem?_eq_some_iff.mp hdi).1
      have row : rowD (cdOf n) d = true := List.all_eq_true.mp rows d (List.mem_of_getElem? hdi)
      obtain ⟨s3, bs, eD, sumE, lb⟩ := p
      rcases row_iff row with ⟨m, p1, r1, ys, ns, rfl, rfl, hy, hn, _, _⟩ | ⟨w0, rest, rfl, ni, e0⟩
      · obtain ⟨b, xr, rfl, eb, bl, hxr⟩ := hdt.row
        cases hxr with
        | @cons x1 _ _ _ k1 hxr =>
          cases hxr with
          | @cons x2' _ _ _ k2 hxr =>
            cases hxr with
            | @cons x3 _ _ _ k3 hxr =>
              cases hxr with
              | @cons x4 _ _ _ k4 hxr =>
                cases hxr
                have eb' := s3 _ _ eb
                refine ⟨rfl, _, rfl, b, _, 0, _, rfl, rfl, SqT.of eb', at0, rfl, _, rfl, iteT ?_⟩
                refine ⟨_, rfl, b, _, 3, x3, rfl, rfl, SqT.of eb', rfl, x3, ys, rfl, k3.mv (fun _ z => z) (fun b o _ z => s3 b o z), hy, fun H6 s6 => ⟨_, _, rfl, rfl, ?_⟩⟩
                refine ⟨_, rfl, b, _, 4, x4, rfl, rfl, SqT.of (s6 _ _ eb'), rfl, x4, ns, rfl, k4.mv (fun _ z => z) (fun b o _ z => s6 b o (s3 b o z)), hn, fun H7 s7 => ⟨_, _, rfl, rfl, ?_⟩⟩
                have e : (1 : Int) + ((W (ownD "if") m ys : Nat) : Int) + ((W (ownD "if") m ns : Nat) : Int) = ((1 + (W (ownD "if") m ys + W (ownD "if") m ns) : Nat) : Int) := by omega
                have line : (1000 : Nat) < sizeLine := by decide
                refine ⟨_, s7 _ _ (s6 _ _ eD), by rw [List.length_map]; omega, same_put hD ((s3.trans s6).trans s7), bs ++ [1 + (W (ownD "if") m ys + W (ownD "if") m ns)], ?_, ?_, by rw [List.length_append]; show _ + 1 ≤ _; omega⟩
                · rw [upd_same, List.map_append]
                  show some (HO.lst (_ ++ [V.int ((1 : Int) + ((W (ownD "if") m ys : Nat) : Int) + ((W (ownD "if") m ns : Nat) : Int))])) = _
                  rw [e]
                  rfl
                · rw [W_take hdi, W_if row, own_if, List.sum_append, sumE]
                  show _ + (_ + 0) = _
                  omega
      · obtain ⟨b, xr, rfl, eb, bl, hxr⟩ := hdt.row
        have eb' := s3 _ _ eb
        refine ⟨rfl, _, rfl, b, _, 0, _, rfl, rfl, SqT.of eb', at0, rfl, _, rfl, ?_⟩
        have nf : decide (V.str w0 = V.str "if") = false := decide_eq_false fun z => ni (V.str.inj z)
        rw [nf]
        refine iteF ⟨s3, bs, eD, ?_, by omega⟩
        rw [W_take hdi, leafS row e0, sumE]
        have o0 : ownD "if" (.tuple (.str w0 :: rest)) = 0 := by
          unfold ownD
          rw [if_neg]
          unfold kindD
          dsimp only
          split
          · decide +kernel
          · split
            · split <;> decide +kernel
            · exact ni
        show _ = _ + (ownD "if" _ + 0)
        rw [o0]
        rfl
    · obtain ⟨s5, bs, e5, sumE, _⟩ := p
      have lx := hx.length
      rw [lx, List.take_length] at sumE
      refine ⟨Dl, bs.map fun n : Nat => (n : Int), rfl, SqL.of (by rw [List.map_map]; exact e5), ?_⟩
      rw [sum_nat, sumE]
      exact q _ s5
theorem ok_ifs (F : Fun K "_law_ifs" "_law_ifs" sIfs f fd) (sm : mg "sum" = none) (gF : mg "_law_ifs" = some (.ref f)) (bF : Binds K fd ["_law_code_here"] []) : ∀ n, FnOk P w K mg base CX0 (n + 1) f fd ["_law_code_here"] (spIfsAt n)
  | 0 => ⟨fun _ _ _ _ h => h.elim, fun _ _ _ _ _ _ _ _ _ _ _ _ _ h => h.elim⟩
  | n + 1 => ifs_step F sm gF bF (ok_ifs F sm gF bF n)
end
end OM

namespace OM
open PySem PySem.Spec PyProof.Rows L2
def spChgAny : Sp := fun vs H Q E => ∃ n, n ≤ 5 ∧ spChgAt n vs H Q E
def spIfsAny : Sp := fun vs H Q E => ∃ n, n ≤ 6 ∧ spIfsAt n vs H Q E
/-- drawn code, up to three changes later -/
structure Chain (C : Prop) (ds : List PyData) (i : Nat) (e : List PyData) : Prop where
  rows : e.all (rowD (cdOf (2 + i))) = true
  lt : W (ownD "letter") (2 + i) e ≤ 6
  st : W (ownD "set") (2 + i) e ≤ 3
  cel : C → cellsOk (2 + i) e
  g : ∃ w a o, w + a + o = i ∧ W one (2 + i) e ≤ W one 2 ds + 2 * w + a ∧ (o = 0 → W (ownD "if") 2 ds + w ≤ W (ownD "if") (2 + i) e)
theorem Chain.zero {C : Prop} {ds : List PyData} {l s t : Nat} (h : DrT 2 ds l s t) (hC : C → cellsOk 2 ds) (hl : l ≤ 6) (hs : s ≤ 3) : Chain C ds 0 ds := ⟨h.rows, Nat.le_trans h.lt hl, Nat.le_trans h.st hs, hC, 0, 0, 0, rfl, Nat.le_refl _, fun _ => Nat.le_refl _⟩
theorem cells_up {n : Nat} {l : List PyData} (h : l.all (rowD (cdOf n)) = true) : cellsOk (n + 1) l ↔ cellsOk n l := by
  unfold cellsOk
  rw [(rows_up h).2]
theorem Chain.step {C : Prop} {ds e e' : List PyData} {i : Nat} (h : Chain C ds i e) (g : Gain (2 + i + 1) e e') : Chain C ds (i + 1) e' := by
  obtain ⟨h1, h2, h3, h4, w, a, o, hw, h5, h6⟩ := h
  obtain ⟨g1, g2, g3, g4, g5⟩ := g
  rw [W_up h1] at g2 g3
  rw [W_up h1, W_up h1] at g5
  refine ⟨g1, Nat.le_trans g2 h2, Nat.le_trans g3 h3, fun hC => g4 ((cells_up h1).mpr (h4 hC)), ?_⟩
  rcases g5 with ⟨k1, k2⟩ | ⟨k1, k2⟩ | k1
  · exact ⟨w + 1, a, o, by omega, by show W one (2 + i + 1) e' ≤ _; omega, fun z => by have := h6 z; show _ ≤ W (ownD "if") (2 + i + 1) e'; omega⟩
  · exact ⟨w, a + 1, o, by omega, by show W one (2 + i + 1) e' ≤ _; omega, fun z => by have := h6 z; show _ ≤ W (ownD "if") (2 + i + 1) e'; omega⟩
  · exact ⟨w, a, o + 1, by omega, by show W one (2 + i + 1) e' ≤ _; omega, fun z => by omega⟩
theorem Chain.near {C : Prop} {ds e : List PyData} {i l s t : Nat} (d : DrT 2 ds l s t) (hlen : ds.length ≤ 8) (ht : t ≤ 3) (h : Chain C ds i e) (hi : i ≤ 3) (few : W (ownD "if") (2 + i) e ≤ 3) : NearOk C e := by
  obtain ⟨h1, h2, h3, h4, w, a, o, hw, h5, h6⟩ := h
  have dn := rows_down h1 few
  have e1 : ∀ ψ : PyData → Nat, W ψ 3 e = W ψ (2 + i) e := fun ψ => by
    unfold W
    rw [dn.2]
  have s0 := d.sz
  have i0 := d.iff
  refine near_bnd dn.1 ?_ (by rw [e1]; omega) (by rw [e1]; omega) (by rw [e1]; exact few) (fun hC => by have h4 := h4 hC; unfold cellsOk at h4 ⊢; rw [dn.2]; exact h4)
  rw [e1]
  by_cases z : o = 0
  · have := h6 z
    omega
  · omega
theorem DrT.near {C : Prop} {ds : List PyData} {l s t : Nat} (d : DrT 2 ds l s t) (hC : C → cellsOk 2 ds) (hlen : ds.length ≤ 8) (hl : l ≤ 6) (hs : s ≤ 3) (ht : t ≤ 3) : NearOk C ds := (Chain.zero d hC hl hs).near d hlen ht (by omega) (Nat.le_trans d.iff ht)
def spNear : Sp := fun vs H Q _ => ∃ (C : Prop) (d : Addr) (v : V) (ds : List PyData) (l s t m : Nat), vs = [.ref d, v, .int (m : Int)] ∧ m ≤ 3 ∧ Dice H d ∧ Dt (fun _ => True) H v (.tuple ds) ∧ DrT 2 ds l s t ∧ (C → cellsOk 2 ds) ∧ ds.length ≤ 8 ∧ l ≤ 6 ∧ s ≤ 3 ∧ t ≤ 3 ∧
  ∀ H' v' e, But d H H' → Dice H' d → NearOk C e → Dt (fun _ => True) H' v' (.tuple e) → Q v' H'
section
variable {P : Program} {w : World} {K : PySem.W.Frag} {mg : Str → Option Value} {base : Heap} {f fR fC fI : Addr} {fd fdR dC dI : FuncData}
theorem any_chg (G : ∀ n, FnOk P w K mg base CX0 (n + 3) f fd ["_law_dice_here", "_law_code_here"] (spChgAt n)) : FnOk P w K mg base CX0 8 f fd ["_law_dice_here", "_law_code_here"] spChgAny :=
  ⟨fun vs H Q E ⟨n, _, h⟩ => (G n).len vs H Q E h, fun A o s H ar us vs Q E hr e0 hb rv ⟨n, hn, h⟩ => (G n).run A o s H ar us vs Q E (hr.mono (by omega)) e0 hb rv h⟩
theorem any_ifs (G : ∀ n, FnOk P w K mg base CX0 (n + 1) f fd ["_law_code_here"] (spIfsAt n)) : FnOk P w K mg base CX0 7 f fd ["_law_code_here"] spIfsAny :=
  ⟨fun vs H Q E ⟨n, _, h⟩ => (G n).len vs H Q E h, fun A o s H ar us vs Q E hr e0 hb rv ⟨n, hn, h⟩ => (G n).run A o s H ar us vs Q E (hr.mono (by omega)) e0 hb rv h⟩
theorem scNr : FnScope ["_law_dice_here", "_law_code_here", "_law_tests", "_law_found", "_law_turn"] ["_law_dice_here", "_law_code_here", "_law_tests"] (defScope sNear) := ⟨rfl, rfl, rfl, by decide +kernel, rfl, by decide +kernel, by decide +kernel⟩
theorem ok_near (F : Fun K "_law_near" "_law_near" sNear f fd) (rng : mg "range" = none) (gR : mg "_law_roll" = some (.ref fR)) (kR : PySem.W.keepIn K (.ref fR) = true) (bR : Binds K fdR ["_law_dice_here", "_law_total"] []) (GR : FnOk P w K mg base CX0 1 fR fdR ["_law_dice_here", "_law_total"] spRoll)
    (gC : mg "_law_changed" = some (.ref fC)) (kC : PySem.W.keepIn K (.ref fC) = true) (bC : Binds K dC ["_law_dice_here", "_law_code_here"] []) (GC : FnOk P w K mg base CX0 8 fC dC ["_law_dice_here", "_law_code_here"] spChgAny)
    (gI : mg "_law_ifs" = some (.ref fI)) (kI : PySem.W.keepIn K (.ref fI) = true) (bI : Binds K dI ["_law_code_here"] []) (GI : FnOk P w K mg base CX0 7 fI dI ["_law_code_here"] spIfsAny) :
    FnOk P w K mg base CX0 9 f fd ["_law_dice_here", "_law_code_here", "_law_tests"] spNear := by
  refine F.ok scNr (fun vs H Q E h => ?_) (fun cdv A outer s H vs Q E hr h => ?_)
  · obtain ⟨C, d, v, ds, l, s, t, m, rfl, _⟩ := h
    rfl
  obtain ⟨C, d, v, ds, l, s', t, mm, rfl, hmm, hd, hv, dr, hC, hlen, hl, hs, ht, q⟩ := h
  refine ⟨_, pss_cons (ps_set (i := 3) scNr.nd rfl (Or.inl rfl) (pv 1))
    (pss_cons (ps_for PassesOwn.never rfl (pi_range1 (by rfl) rng (pa_cons (pe_op op_add pe_int (pe_call GR (hr.mono (by omega)) (by rfl) gR kR bR .nil pass0 (pa_cons (pv 0) (pa_cons pe_int pa_nil)))) pa_nil)) (pg_name (i := 4) scNr.nd rfl (Or.inl rfl))
      (pss_one (ps_set (i := 3) scNr.nd rfl (Or.inl rfl) (pe_call GC hr (by rfl) gC kC bC .nil pass0 (pa_cons (pv 0) (pa_cons (pv 3) pa_nil))))))
    (pss_one (ps_ret (pe_ifExp (pt_cmpR op_le (pe_call GI (hr.mono (by omega)) (by rfl) gI kI bI .nil pass0 (pa_cons (pv 3) pa_nil)) (pv 2) (nomark _)) (pv 3) (pv 1))))), ?_⟩
  have pur := rows_pure dr.rows
  refine ⟨_, rfl, _, rfl, d, 3, rfl, hd, by decide, by decide, fun H1 k k0 k1 b1 hd1 => ⟨_, _, rfl, rfl, ?_⟩⟩
  obtain ⟨m, rfl⟩ : ∃ m : Nat, k = (m : Int) := ⟨k.toNat, by omega⟩
  have hv1 : Dt (fun _ => True) H1 v (.tuple ds) := Dt.butD hd b1 pur hv
  refine ⟨1 + (m : Int), rfl, by omega, by omega, ?_⟩
  have em : (1 + (m : Int)).toNat = m + 1 := by omega
  rw [em]
  refine for_range (fun i σ G => (∃ x3 x4, σ = [some (.ref d), some v, some (.int (mm : Int)), some x3, x4] ∧ ∃ e, Chain C ds i e ∧ Dt (fun _ => True) G x3 (.tuple e)) ∧ But d H G ∧ Dice G d) ⟨⟨v, none, rfl, ds, Chain.zero dr hC hl hs, hv1⟩, b1, hd1⟩ (fun i σ G hi h => ?_) (fun σ G h => ?_)
  · obtain ⟨⟨x3, x4, rfl, e, ch, de⟩, bG, dG⟩ := h
    have sz := dr.sz
    have i0 := dr.iff
    have w300 : W one (2 + i) e ≤ 300 := by
      obtain ⟨w, a, o, hw, h5, _⟩ := ch.g
      omega
    refine ⟨_, rfl, _, rfl, 2 + i + 1, by omega, d, x3, e, rfl, dG, de, ch.rows, w300, fun G2 v2 e2 b2 dG2 g2 d2 => ⟨⟨v2, _, rfl, e2, ch.step g2, d2⟩, bG.tr b2, dG2⟩⟩
  · obtain ⟨⟨x3, x4, rfl, e, ch, de⟩, bG, dG⟩ := h
    refine ⟨_, rfl, 2 + (m + 1) + 1, by omega, x3, e, rfl, de, ch.rows, fun G2 s2 => ⟨_, rfl, _, _, rfl, rfl, _, rfl, ite2 (fun k1 => ?_) (fun k1 => ?_)⟩⟩
    · have few : W (ownD "if") (2 + (m + 1)) e ≤ 3 := by
        have y : (((W (ownD "if") (2 + (m + 1)) e : Nat)) : Int) ≤ (mm : Int) := of_decide_eq_true k1
        omega
      exact ⟨_, rfl, q G2 x3 e (bG.tr (s_bt s2)) (dG.mv s2) (ch.near dr hlen ht (by omega) few) (de.mv (fun _ z => z) fun b o _ z => s2 b o z)⟩
    · exact ⟨_, rfl, q G2 v ds (bG.tr (s_bt s2)) (dG.mv s2) (dr.near hC hlen hl hs ht) (Dt.butD hd (bG.tr (s_bt s2)) pur hv)⟩
end
end OM

namespace OM
open PySem PySem.Spec PyProof.Rows L2
/-! ### lines of code, and reading them -/
def wd1 : PyData → List Str
  | .str x => [x]
  | d => strsD d
/-- the words of a statement -/
def wordsD : PyData → List Str
  | .tuple ds => ds.flatMap wd1
  | _ => []
def head3 : PyData → List Str
  | .tuple ds => (ds.take 3).map strD
  | _ => []
/-- the lines of code, as lists of words -/
def wssS : Nat → PyData → List (List Str)
  | 0, d => [wordsD d]
  | n + 1, d => match inner2 d with
    | [ys, ns] => head3 d :: (ys.flatMap (wssS n) ++ (([("else" : Str)] : List Str) :: (ns.flatMap (wssS n) ++ [([("end" : Str)] : List Str)])))
    | _ => [wordsD d]
def wssN (n : Nat) (ds : List PyData) : List (List Str) := ds.flatMap (wssS n)
theorem wssN_cons (n : Nat) (d : PyData) (r : List PyData) : wssN n (d :: r) = wssS n d ++ wssN n r := rfl
theorem wss_leaf {n : Nat} {d : PyData} (h : inner2 d = []) : wssS n d = [wordsD d] := by
  cases n with
  | zero => rfl
  | succ n =>
    unfold wssS
    rw [h]
theorem wss_if {m : Nat} {p r : Str} {ys ns : List PyData} : wssS (m + 1) (.tuple [.str "if", .str p, .str r, .tuple ys, .tuple ns]) = [("if" : Str), p, r] :: (wssN m ys ++ (([("else" : Str)] : List Str) :: (wssN m ns ++ [([("end" : Str)] : List Str)]))) := by
  have e : inner2 (.tuple [.str "if", .str p, .str r, .tuple ys, .tuple ns]) = [ys, ns] := by
    show (if ("if" : Str) = "if" then [ys, ns] else []) = _
    rw [if_pos rfl]
  unfold wssS
  rw [e]
  rfl
abbrev RSt := List PyData × List (List PyData)
/-- what one line does -/
inductive Step (sh : Bool) : List Str → RSt → RSt → Prop where
  | leaf {d : PyData} {op : List PyData} {rs : List (List PyData)} {r : List PyData} (row : rowD (cdOf 0) d = true) (hs : sh = true ∨ ShW d) : Step sh (wordsD d) (op, rs ++ [r]) (op, rs ++ [r ++ [d]])
  | iff {p r : Str} {op : List PyData} {rs : List (List PyData)} (hp : isNameD (.str p) = true) (hr : isNameD (.str r) = true) : Step sh [("if" : Str), p, r] (op, rs) (op ++ [.tuple [.str p, .str r]], rs ++ [[]])
  | els {p r : Str} {op : List PyData} {rs : List (List PyData)} {ys : List PyData} : Step sh [("else" : Str)] (op ++ [.tuple [.str p, .str r]], rs ++ [ys]) (op ++ [.tuple [.str p, .str r, .tuple ys]], rs ++ [[]])
  | fin {p r : Str} {op : List PyData} {rs : List (List PyData)} {rr ys ns : List PyData} : Step sh [("end" : Str)] (op ++ [.tuple [.str p, .str r, .tuple ys]], rs ++ [rr] ++ [ns]) (op, rs ++ [rr ++ [.tuple [.str "if", .str p, .str r, .tuple ys, .tuple ns]]])
inductive Steps (sh : Bool) : List (List Str) → RSt → RSt → Prop where
  | nil {s : RSt} : Steps sh [] s s
  | cons {w : List Str} {ws : List (List Str)} {s s1 s2 : RSt} (h : Step sh w s s1) (r : Steps sh ws s1 s2) : Steps sh (w :: ws) s s2
theorem Steps.app {sh : Bool} : ∀ {a b : List (List Str)} {s s1 s2 : RSt}, Steps sh a s s1 → Steps sh b s1 s2 → Steps sh (a ++ b) s s2
  | _, _, _, _, _, .nil, y => y
  | _, _, _, _, _, .cons h r, y => .cons h (Steps.app r y)
theorem shw_all {sh : Bool} {n : Nat} {ds : List PyData} (h : sh = true ∨ ∀ x ∈ flatN n ds, ShW x) {d : PyData} (hd : d ∈ ds) : sh = true ∨ ∀ x ∈ flatS n d, ShW x :=
  h.imp id fun z x hx => z x (List.mem_flatMap.mpr ⟨d, hd, hx⟩)
/-- reading what is written -/
theorem steps_code {sh : Bool} : ∀ (n : Nat) (ds : List PyData), ds.all (rowD (cdOf n)) = true → (sh = true ∨ ∀ x ∈ flatN n ds, ShW x) → ∀ (op : List PyData) (rs : List (List PyData)) (r : List PyData), Steps sh (wssN n ds) (op, rs ++ [r]) (op, rs ++ [r ++ ds]) := by
  intro n
  induction n with
  | zero =>
    intro ds
    induction ds with
    | nil =>
      intro _ _ op rs r
      rw [List.append_nil]
      exact .nil
    | cons d t ih =>
      intro h hs op rs r
      rw [List.all_cons, Bool.and_eq_true] at h
      rcases row_iff h.1 with ⟨m, _, _, _, _, e, _⟩ | ⟨w, rest, rfl, ni, e0⟩
      · cases e
      · rw [wssN_cons, wss_leaf e0]
        have q := ih h.2 (hs.imp id fun z x hx => z x (by rw [flatN_cons]; exact List.mem_append_right _ hx)) op rs (r ++ [.tuple (.str w :: rest)])
        rw [List.append_assoc] at q
        exact .cons (.leaf h.1 (hs.imp id fun z => z _ (by rw [flatN_cons, leafS h.1 e0]; exact List.mem_append_left _ (List.mem_cons_self ..)))) q
  | succ m ihm =>
    intro ds
    induction ds with
    | nil =>
      intro _ _ op rs r
      rw [List.append_nil]
      exact .nil
    | cons d t ih =>
      intro h hs op rs r
      rw [List.all_cons, Bool.and_eq_true] at h
      have q := ih h.2 (hs.imp id fun z x hx => z x (by rw [flatN_cons]; exact List.mem_append_right _ hx)) op rs (r ++ [d])
      rw [List.append_assoc] at q
      rw [wssN_cons]
      refine Steps.app ?_ q
      rcases row_iff h.1 with ⟨m', p, x, ys, ns, em, rfl, hy, hn, hp, hx⟩ | ⟨w, rest, rfl, ni, e0⟩
      · obtain rfl : m = m' := by omega
        obtain ⟨p, rfl⟩ := isS hp
        obtain ⟨x, rfl⟩ := isS hx
        have hs' : sh = true ∨ ∀ z ∈ flatN m ys ++ flatN m ns, ShW z := hs.imp id fun z y hy => z y (by rw [flatN_cons, ifS h.1]; exact List.mem_append_left _ (List.mem_cons_of_mem _ hy))
        rw [wss_if]
        refine .cons (.iff hp hx) (Steps.app (ihm ys hy (hs'.imp id fun z y hy => z y (List.mem_append_left _ hy)) _ _ []) ?_)
        rw [List.nil_append]
        refine .cons .els (Steps.app (ihm ns hn (hs'.imp id fun z y hy => z y (List.mem_append_right _ hy)) _ _ []) ?_)
        rw [List.nil_append]
        exact .cons .fin .nil
      · rw [wss_leaf e0]
        exact .cons (.leaf (leaf_any (m := 0) h.1 ni) (hs.imp id fun z => z _ (by rw [flatN_cons, leafS h.1 e0]; exact List.mem_append_left _ (List.mem_cons_self ..)))) .nil
/-! ### the words tell the statement -/
def ofWords : List Str → PyData
  | w :: rest => if w = "set" then (match rest with
      | x :: y :: as => .tuple [.str w, .str x, .str y, .tuple (as.map PyData.str)]
      | _ => .none) else .tuple (.str w :: rest.map PyData.str)
  | [] => .none
theorem strs_names : ∀ {ds : List PyData}, ds.all isNameD = true → (ds.map strD).map PyData.str = ds ∧ ds.flatMap wd1 = ds.map strD
  | [], _ => ⟨rfl, rfl⟩
  | d :: r, h => by
    rw [List.all_cons, Bool.and_eq_true] at h
    obtain ⟨a, b⟩ := strs_names h.2
    obtain ⟨x, rfl⟩ := isS h.1
    exact ⟨by rw [List.map_cons, List.map_cons, a]; rfl, by rw [List.flatMap_cons, b]; rfl⟩
/-- a plain statement: its word and its words -/
theorem leaf_words {d : PyData} (row : rowD (cdOf 0) d = true) : ∃ (w : Str) (rest : List PyData), d = .tuple (.str w :: rest) ∧ w ≠ "if" ∧ (formOf w).isSome = true ∧ ofWords (wordsD d) = d ∧
    ((w ≠ "set" ∧ rest.all isNameD = true ∧ wordsD d = w :: rest.map strD ∧ formOf w = some (((formOf w).getD [])) ∧ ((formOf w).getD []).length = rest.length) ∨
     (w = "set" ∧ ∃ (x y : Str) (as : List Str), rest = [.str x, .str y, .tuple (as.map PyData.str)] ∧ isNameD (.str x) = true ∧ isNameD (.str y) = true ∧ as.length ≤ 2 ∧ (as.map PyData.str).all isNameD = true ∧ wordsD d = ("set" : Str) :: x :: y :: as)) := by
  obtain ⟨w, rest, rs, rfl, hf, hl, hz⟩ := rowD_shape row
  have ni : w ≠ "if" := fun z => by
    subst z
    rw [row_if0] at row
    cases row
  refine ⟨w, rest, rfl, ni, by rw [hf]; rfl, ?_⟩
  by_cases hset : w = "set"
  · subst hset
    have e4 : formOf "set" = some (["register", "function", "registers"] : List Str) := by decide +kernel
    rw [e4] at hf
    obtain rfl := Option.some.inj hf
    match rest, hl with
    | [d1, d2, d3], _ =>
      rw [row_set] at row
      simp only [Bool.and_eq_true] at row
      obtain ⟨h1, h2, h3, _⟩ := row
      obtain ⟨x, rfl⟩ := isS h1
      obtain ⟨y, rfl⟩ := isS h2
      unfold argsD at h3
      cases d3 with
      | tuple ds =>
        rw [Bool.and_eq_true, decide_eq_true_eq] at h3
        obtain ⟨s1, s2⟩ := strs_names h3.2
        have ew : wordsD (.tuple [.str "set", .str x, .str y, .tuple ds]) = ("set" : Str) :: x :: y :: ds.map strD := by
          show [("set" : Str)] ++ ([x] ++ ([y] ++ (strsD (.tuple ds) ++ []))) = _
          rw [List.append_nil]
          rfl
        refine ⟨?_, .inr ⟨rfl, x, y, ds.map strD, by rw [s1], h1, h2, by rw [List.length_map]; exact h3.1, by rw [s1]; exact h3.2, ew⟩⟩
        rw [ew]
        show (if ("set" : Str) = "set" then PyData.tuple [.str "set", .str x, .str y, .tuple ((ds.map strD).map PyData.str)] else .tuple (.str "set" :: (x :: y :: ds.map strD).map PyData.str)) = _
        rw [if_pos rfl, s1]
      | _ => cases h3
  · have hn : rest.all isNameD = true := by
      rw [row_plain ni hset, Bool.and_eq_true] at row
      exact row.2
    obtain ⟨s1, s2⟩ := strs_names hn
    have ew : wordsD (.tuple (.str w :: rest)) = w :: rest.map strD := by
      show [w] ++ rest.flatMap wd1 = _
      rw [s2]
      rfl
    refine ⟨?_, .inl ⟨hset, hn, ew, by rw [hf]; rfl, by rw [hf]; exact hl.symm⟩⟩
    rw [ew]
    show (if w = "set" then _ else PyData.tuple (.str w :: (rest.map strD).map PyData.str)) = _
    rw [if_neg hset, s1]
end OM

namespace OM
open PySem PySem.Spec PyProof.Rows L2
/-- a word of small letters -/
def wordOk (x : Str) : Bool := decide (1 ≤ x.length) && (decide (x.length ≤ 8) && x.cps.toList.all let1)
theorem name_word {x : Str} (h : isNameD (.str x) = true) : wordOk x = true := by
  have h : nameS x = true := h
  unfold nameS at h
  simp only [Bool.and_eq_true, decide_eq_true_eq] at h
  obtain ⟨h1, h2, h3, _⟩ := h
  unfold wordOk
  rw [decide_eq_true h1, decide_eq_true h2]
  exact h3
theorem names_words : ∀ {ds : List PyData}, ds.all isNameD = true → ∀ x ∈ ds.map strD, wordOk x = true
  | [], _, x, hx => by cases hx
  | d :: r, h, x, hx => by
    rw [List.all_cons, Bool.and_eq_true] at h
    obtain ⟨y, rfl⟩ := isS h.1
    rw [List.map_cons] at hx
    rcases List.mem_cons.mp hx with rfl | hx
    · exact name_word h.1
    · exact names_words h.2 x hx
theorem form_in {w : Str} (h : (formOf w).isSome = true) : w ∈ (["read", "write", "set", "copy", "get", "put", "if", "show"] : List Str) := by
  unfold formOf at h
  by_cases h1 : w = "read"
  · rw [h1]; decide +kernel
  by_cases h2 : w = "write"
  · rw [h2]; decide +kernel
  by_cases h3 : w = "set"
  · rw [h3]; decide +kernel
  by_cases h4 : w = "copy"
  · rw [h4]; decide +kernel
  by_cases h5 : w = "get"
  · rw [h5]; decide +kernel
  by_cases h6 : w = "put"
  · rw [h6]; decide +kernel
  by_cases h7 : w = "if"
  · rw [h7]; decide +kernel
  by_cases h8 : w = "show"
  · rw [h8]; decide +kernel
  rw [if_neg h1, if_neg h2, if_neg h3, if_neg h4, if_neg h5, if_neg h6, if_neg h7, if_neg h8] at h
  cases h
theorem form_ok {w : Str} (h : (formOf w).isSome = true) : wordOk w = true ∧ w ≠ "else" ∧ w ≠ "end" :=
  (by decide +kernel : ∀ v ∈ (["read", "write", "set", "copy", "get", "put", "if", "show"] : List Str), wordOk v = true ∧ v ≠ "else" ∧ v ≠ "end") w (form_in h)
/-- the words of a plain statement -/
theorem leaf_ok {d : PyData} (row : rowD (cdOf 0) d = true) : ∃ (w : Str) (ws : List Str), wordsD d = w :: ws ∧ w ≠ "if" ∧ w ≠ "else" ∧ w ≠ "end" ∧ (formOf w).isSome = true ∧ ws.length ≤ 4 ∧ (∀ x ∈ ws, isNameD (.str x) = true) ∧ ∀ x ∈ w :: ws, wordOk x = true := by
  obtain ⟨w, rest, rfl, ni, hf, _, h⟩ := leaf_words row
  obtain ⟨o1, o2, o3⟩ := form_ok hf
  rcases h with ⟨_, hn, e, hs, hl⟩ | ⟨rfl, x, y, as, rfl, hx, hy, hl, ha, e⟩
  · have nm : ∀ x ∈ rest.map strD, isNameD (.str x) = true := fun x hx => by
      obtain ⟨d, hd, rfl⟩ := List.mem_map.mp hx
      have := List.all_eq_true.mp hn d hd
      obtain ⟨y, rfl⟩ := isS this
      exact this
    refine ⟨w, _, e, ni, o2, o3, hf, ?_, nm, fun x hx => ?_⟩
    · rw [List.length_map, ← hl]
      exact form_len hs
    · rcases List.mem_cons.mp hx with rfl | hx
      · exact o1
      · exact name_word (nm x hx)
  · have nm : ∀ z ∈ x :: y :: as, isNameD (.str z) = true := fun z hz => by
      rcases List.mem_cons.mp hz with rfl | hz
      · exact hx
      rcases List.mem_cons.mp hz with rfl | hz
      · exact hy
      exact List.all_eq_true.mp ha _ (List.mem_map.mpr ⟨z, hz, rfl⟩)
    refine ⟨_, _, e, ni, o2, o3, hf, by simp; omega, nm, fun z hz => ?_⟩
    rcases List.mem_cons.mp hz with rfl | hz
    · exact o1
    · exact name_word (nm z hz)
theorem step_ok {sh : Bool} {ws : List Str} {s s' : RSt} (h : Step sh ws s s') : ws ≠ [] ∧ ws.length ≤ 5 ∧ ∀ x ∈ ws, wordOk x = true := by
  cases h with
  | leaf row hs =>
    obtain ⟨w, r, e, _, _, _, _, l, _, o⟩ := leaf_ok row
    rw [e]
    exact ⟨by simp, by simp; omega, o⟩
  | iff hp hr =>
    refine ⟨by simp, by simp, fun x hx => ?_⟩
    rcases List.mem_cons.mp hx with rfl | hx
    · decide +kernel
    rcases List.mem_cons.mp hx with rfl | hx
    · exact name_word hp
    rw [List.mem_singleton.mp hx]
    exact name_word hr
  | els => exact ⟨by simp, by simp, by decide +kernel⟩
  | fin => exact ⟨by simp, by simp, by decide +kernel⟩
theorem steps_ok {sh : Bool} : ∀ {wss : List (List Str)} {s s' : RSt}, Steps sh wss s s' → ∀ ws ∈ wss, ws ≠ [] ∧ ws.length ≤ 5 ∧ ∀ x ∈ ws, wordOk x = true
  | _, _, _, .nil, ws, h => by cases h
  | _, _, _, .cons a r, ws, h => by
    rcases List.mem_cons.mp h with rfl | h
    · exact step_ok a
    · exact steps_ok r ws h
/-! ### each line has one meaning -/
theorem app_inj1 {α : Type} {a b : List α} {x y : α} (h : a ++ [x] = b ++ [y]) : a = b ∧ x = y := by
  have := List.append_inj' h rfl
  exact ⟨this.1, by simpa using this.2⟩
theorem step_det {sh sh' : Bool} {ws : List Str} {s s1 s2 : RSt} (a : Step sh ws s s1) (b : Step sh' ws s s2) : s1 = s2 := by
  generalize hw : ws = ws' at b
  generalize hs : s = s' at b
  cases a with
  | leaf row _ =>
    obtain ⟨w, r, e, n1, n2, n3, _⟩ := leaf_ok row
    cases b with
    | leaf row' _ =>
      obtain ⟨_, _, _, _, _, k, _⟩ := leaf_words row
      obtain ⟨_, _, _, _, _, k', _⟩ := leaf_words row'
      obtain ⟨h1, h2⟩ := Prod.mk.inj hs
      obtain ⟨h3, h4⟩ := app_inj1 h2
      have ed := k.symm.trans ((congrArg ofWords hw).trans k')
      rw [h1, h3, h4, ed]
    | iff => rw [e] at hw; exact absurd (List.cons.inj hw).1 n1
    | els => rw [e] at hw; exact absurd (List.cons.inj hw).1 n2
    | fin => rw [e] at hw; exact absurd (List.cons.inj hw).1 n3
  | iff =>
    cases b with
    | leaf row _ =>
      obtain ⟨w, r, e, n1, n2, n3, _⟩ := leaf_ok row
      rw [e] at hw
      exact absurd (List.cons.inj hw).1.symm n1
    | iff =>
      obtain ⟨h1, h2⟩ := Prod.mk.inj hs
      injection hw with _ hw
      injection hw with hp hw
      injection hw with hr _
      rw [h1, h2, hp, hr]
    | els => exact absurd (List.cons.inj hw).1 (by decide +kernel)
    | fin => exact absurd (List.cons.inj hw).1 (by decide +kernel)
  | els =>
    cases b with
    | leaf row _ =>
      obtain ⟨w, r, e, n1, n2, n3, _⟩ := leaf_ok row
      rw [e] at hw
      exact absurd (List.cons.inj hw).1.symm n2
    | iff => exact absurd (List.cons.inj hw).1 (by decide +kernel)
    | els =>
      obtain ⟨h1, h2⟩ := Prod.mk.inj hs
      obtain ⟨h3, h4⟩ := app_inj1 h1
      obtain ⟨h5, h6⟩ := app_inj1 h2
      injection h4 with h4
      injection h4 with h7 h8
      injection h8 with h8 _
      rw [h3, h5, h6, h7, h8]
    | fin => exact absurd (List.cons.inj hw).1 (by decide +kernel)
  | fin =>
    cases b with
    | leaf row _ =>
      obtain ⟨w, r, e, n1, n2, n3, _⟩ := leaf_ok row
      rw [e] at hw
      exact absurd (List.cons.inj hw).1.symm n3
    | iff => exact absurd (List.cons.inj hw).1 (by decide +kernel)
    | els => exact absurd (List.cons.inj hw).1 (by decide +kernel)
    | fin =>
      obtain ⟨h1, h2⟩ := Prod.mk.inj hs
      obtain ⟨h3, h4⟩ := app_inj1 h1
      obtain ⟨h5, h6⟩ := app_inj1 h2
      obtain ⟨h7, h8⟩ := app_inj1 h5
      injection h4 with h4
      injection h4 with k1 h4
      injection h4 with k2 h4
      injection h4 with k3 _
      rw [h3, h6, h7, h8, k1, k2, k3]
theorem steps_det {sh sh' : Bool} : ∀ {wss : List (List Str)} {s s1 s2 : RSt}, Steps sh wss s s1 → Steps sh' wss s s2 → s1 = s2
  | _, _, _, _, .nil, .nil => rfl
  | _, _, _, _, .cons a r, .cons b q => by
    obtain rfl := step_det a b
    exact steps_det r q
/-- code is told by its lines -/
theorem lines_inj {ds es : List PyData} (hd : ds.all (rowD (cdOf 3)) = true) (he : es.all (rowD (cdOf 3)) = true) (h : wssN 3 ds = wssN 3 es) : ds = es := by
  have a := steps_code (sh := true) 3 ds hd (.inl rfl) [] [] []
  have b := steps_code (sh := true) 3 es he (.inl rfl) [] [] []
  rw [← h] at b
  have := steps_det a b
  simpa using this
/-! ### texts -/
def spS : Str := " "
def nlT : Str := "\n"
def lineW (ws : List Str) : Str := Txt.join spS ws
def linesT (wss : List (List Str)) : Str := Txt.join nlT (wss.map lineW)
theorem word_let {x : Str} (h : wordOk x = true) : ∀ c ∈ TL.tl x, 97 ≤ c ∧ c ≤ 122 := by
  unfold wordOk at h
  simp only [Bool.and_eq_true] at h
  intro c hc
  have := List.all_eq_true.mp h.2.2 c hc
  unfold let1 at this
  rw [Bool.and_eq_true, decide_eq_true_eq, decide_eq_true_eq] at this
  exact this
theorem split_words {ws : List Str} (ne : ws ≠ []) (h : ∀ x ∈ ws, wordOk x = true) : Txt.split (lineW ws) spS = ws :=
  TL.split_join (s := 32) (S := []) (by decide +kernel) (by decide +kernel) ne fun p hp z => by
    have := word_let (h p hp) 32 z
    omega
end OM

namespace OM
open PySem PySem.Spec PyProof.Rows L2
/-! ### texts of lines -/
def WsOk (ws : List Str) : Prop := ws ≠ [] ∧ ws.length ≤ 5 ∧ ∀ x ∈ ws, wordOk x = true
theorem joinL_mem {S : List Nat} : ∀ {ps : List (List Nat)} {c : Nat}, c ∈ TL.joinL S ps → c ∈ S ∨ ∃ p ∈ ps, c ∈ p
  | [], c, h => by cases h
  | [p], c, h => .inr ⟨p, List.mem_cons_self .., h⟩
  | p :: q :: r, c, h => by
    have h : c ∈ p ++ (S ++ TL.joinL S (q :: r)) := by
      simpa [TL.joinL] using h
    rcases List.mem_append.mp h with h | h
    · exact .inr ⟨p, List.mem_cons_self .., h⟩
    · rcases List.mem_append.mp h with h | h
      · exact .inl h
      · rcases joinL_mem h with h | ⟨z, hz, h⟩
        · exact .inl h
        · exact .inr ⟨z, List.mem_cons_of_mem _ hz, h⟩
theorem joinL_len {S : List Nat} {m : Nat} : ∀ {ps : List (List Nat)}, (∀ p ∈ ps, p.length ≤ m) → (TL.joinL S ps).length ≤ (m + S.length) * ps.length
  | [], _ => Nat.zero_le _
  | [p], h => by
    have := h p (List.mem_cons_self ..)
    show p.length ≤ (m + S.length) * 1
    omega
  | p :: q :: r, h => by
    have a := h p (List.mem_cons_self ..)
    have b := joinL_len (S := S) (ps := q :: r) fun z hz => h z (List.mem_cons_of_mem _ hz)
    have e : (TL.joinL S (p :: q :: r)).length = p.length + (S.length + (TL.joinL S (q :: r)).length) := by
      simp [TL.joinL]
    rw [e, List.length_cons, Nat.mul_succ]
    omega
theorem len_tl (x : Str) : (TL.tl x).length = x.length := by
  show x.cps.toList.length = x.cps.size
  simp
theorem line_tl (ws : List Str) : TL.tl (lineW ws) = TL.joinL [32] (ws.map TL.tl) := by
  unfold lineW
  rw [TL.join_eq, TL.tl_join]
  rfl
theorem line_let {ws : List Str} (h : WsOk ws) : ∀ c ∈ TL.tl (lineW ws), c = 32 ∨ (97 ≤ c ∧ c ≤ 122) := fun c hc => by
  rw [line_tl] at hc
  rcases joinL_mem hc with h1 | ⟨p, hp, h1⟩
  · exact .inl (List.mem_singleton.mp h1)
  · obtain ⟨x, hx, rfl⟩ := List.mem_map.mp hp
    exact .inr (word_let (h.2.2 x hx) c h1)
theorem line_len {ws : List Str} (h : WsOk ws) : (lineW ws).length ≤ 45 := by
  rw [← len_tl, line_tl]
  have := joinL_len (S := [32]) (m := 8) (ps := ws.map TL.tl) fun p hp => by
    obtain ⟨x, hx, rfl⟩ := List.mem_map.mp hp
    have := h.2.2 x hx
    unfold wordOk at this
    simp only [Bool.and_eq_true, decide_eq_true_eq] at this
    rw [len_tl]
    exact this.2.1
  rw [List.length_map] at this
  have h5 := h.2.1
  have : (TL.joinL [32] (ws.map TL.tl)).length ≤ 9 * ws.length := this
  omega
theorem line_pos {ws : List Str} (h : WsOk ws) : lineW ws ≠ "" := fun z => by
  have e := congrArg TL.tl z
  rw [line_tl] at e
  obtain ⟨n, _, o⟩ := h
  cases ws with
  | nil => exact n rfl
  | cons x r =>
    have ox := o x (List.mem_cons_self ..)
    unfold wordOk at ox
    simp only [Bool.and_eq_true, decide_eq_true_eq] at ox
    have l := ox.1
    rw [← len_tl] at l
    have e' : TL.joinL [32] (TL.tl x :: r.map TL.tl) = [] := e
    cases r with
    | nil =>
      have : TL.tl x = [] := e'
      rw [this] at l
      exact absurd l (by decide)
    | cons y t =>
      have : TL.tl x ++ ([32] ++ TL.joinL [32] (TL.tl y :: t.map TL.tl)) = [] := by simpa [TL.joinL] using e'
      simp at this
theorem split_lines {wss : List (List Str)} (ne : wss ≠ []) (h : ∀ ws ∈ wss, WsOk ws) : Txt.split (linesT wss) nlT = wss.map lineW :=
  TL.split_join (s := 10) (S := []) (by decide +kernel) (by decide +kernel) (fun z => ne (List.map_eq_nil_iff.mp z)) fun p hp z => by
    obtain ⟨ws, hw, rfl⟩ := List.mem_map.mp hp
    have := line_let (h ws hw) 10 z
    omega
theorem text_len {wss : List (List Str)} (h : ∀ ws ∈ wss, WsOk ws) : (linesT wss).length ≤ 46 * wss.length := by
  rw [← len_tl]
  unfold linesT
  rw [TL.join_eq, TL.tl_join]
  have := joinL_len (S := TL.tl nlT) (m := 45) (ps := (wss.map lineW).map TL.tl) fun p hp => by
    obtain ⟨x, hx, rfl⟩ := List.mem_map.mp hp
    obtain ⟨ws, hw, rfl⟩ := List.mem_map.mp hx
    rw [len_tl]
    exact line_len (h ws hw)
  rw [List.length_map, List.length_map] at this
  have e : (TL.tl nlT).length = 1 := by decide +kernel
  rw [e] at this
  exact this
theorem text_pos {wss : List (List Str)} (ne : wss ≠ []) (h : ∀ ws ∈ wss, WsOk ws) : linesT wss ≠ "" := fun z => by
  have e := split_lines ne h
  rw [z] at e
  have k : Txt.split "" nlT = [("" : Str)] := by decide +kernel
  rw [k] at e
  cases wss with
  | nil => exact ne rfl
  | cons a r =>
    rw [List.map_cons] at e
    exact line_pos (h a (List.mem_cons_self ..)) (List.cons.inj e).1.symm
theorem text_inj {a b : List (List Str)} (ha : ∀ ws ∈ a, WsOk ws) (hb : ∀ ws ∈ b, WsOk ws) (h : linesT a = linesT b) : a = b := by
  have key : ∀ {a b : List (List Str)}, (∀ ws ∈ a, WsOk ws) → (∀ ws ∈ b, WsOk ws) → a.map lineW = b.map lineW → a = b := fun {a} => by
    induction a with
    | nil =>
      intro b _ _ e
      exact (List.map_eq_nil_iff.mp e.symm).symm
    | cons x r ih =>
      intro b ha hb e
      cases b with
      | nil => cases e
      | cons y t =>
        rw [List.map_cons, List.map_cons] at e
        obtain ⟨e1, e2⟩ := List.cons.inj e
        have hx := ha x (List.mem_cons_self ..)
        have hy := hb y (List.mem_cons_self ..)
        have k := congrArg (fun z => Txt.split z spS) e1
        rw [show Txt.split (lineW x) spS = x from split_words hx.1 hx.2.2, show Txt.split (lineW y) spS = y from split_words hy.1 hy.2.2] at k
        rw [k, ih (fun z hz => ha z (List.mem_cons_of_mem _ hz)) (fun z hz => hb z (List.mem_cons_of_mem _ hz)) e2]
  cases a with
  | nil =>
    cases b with
    | nil => rfl
    | cons y t => exact absurd h.symm (text_pos (by simp) hb)
  | cons x r =>
    cases b with
    | nil => exact absurd h (text_pos (by simp) ha)
    | cons y t =>
      refine key ha hb ?_
      rw [← split_lines (by simp) ha, ← split_lines (by simp) hb, h]
theorem code_ws {n : Nat} {ds : List PyData} (h : ds.all (rowD (cdOf n)) = true) : ∀ ws ∈ wssN n ds, WsOk ws := fun ws hw =>
  steps_ok (steps_code (sh := true) n ds h (.inl rfl) [] [] []) ws hw
theorem code_lines : ∀ {n : Nat} {ds : List PyData}, ds.all (rowD (cdOf n)) = true → (wssN n ds).length ≤ 3 * (flatN n ds).length
  | _, [], _ => Nat.zero_le _
  | n, d :: r, h => by
    rw [List.all_cons, Bool.and_eq_true] at h
    have hr := code_lines (n := n) (ds := r) h.2
    rw [wssN_cons, flatN_cons, List.length_append, List.length_append]
    rcases row_iff h.1 with ⟨m, p, q, ys, ns, rfl, rfl, hy, hn, hp, hq⟩ | ⟨w, rest, rfl, ni, i0⟩
    · obtain ⟨p, rfl⟩ := isS hp
      obtain ⟨q, rfl⟩ := isS hq
      have a := code_lines (n := m) (ds := ys) hy
      have b := code_lines (n := m) (ds := ns) hn
      rw [wss_if, ifS h.1]
      simp only [List.length_cons, List.length_append, List.length_nil]
      omega
    · rw [wss_leaf i0, leafS h.1 i0]
      simp only [List.length_cons, List.length_nil]
      omega
termination_by n ds => (n, ds.length)
end OM

namespace OM
open PySem PySem.Spec PyProof.Rows L2
abbrev sLines : Stmt := top 58
def vL (ws : List Str) : V := .str (lineW ws)
def spLinesAt : Nat → Sp
  | 0 => fun _ _ _ _ => False
  | n + 1 => fun vs H Q _ => ∃ (v : V) (ds : List PyData), vs = [v] ∧ Dt (fun _ => True) H v (.tuple ds) ∧ ds.all (rowD (cdOf n)) = true ∧ (wssN n ds).length ≤ 900 ∧ ∀ H' p, Same H H' → H p = none → H' p = some (.lst ((wssN n ds).map vL)) → Q (.ref p) H'
section
variable {P : Program} {w : World} {K : PySem.W.Frag} {mg : Str → Option Value} {base : Heap} {f : Addr} {fd : FuncData}
theorem scLi : FnScope ["code", "lines", "statement"] ["code"] (defScope sLines) := ⟨rfl, rfl, rfl, by decide +kernel, rfl, by decide +kernel, by decide +kernel⟩
theorem wss_take {n i : Nat} {d : PyData} {ds : List PyData} (h : ds[i]? = some d) : wssN n (ds.take (i + 1)) = wssN n (ds.take i) ++ wssS n d := by
  unfold wssN
  rw [List.take_add_one, h, List.flatMap_append]
  simp
theorem wss_le {n i : Nat} {ds : List PyData} : (wssN n (ds.take i)).length ≤ (wssN n ds).length := by
  unfold wssN
  conv => rhs; rw [← List.take_append_drop i ds, List.flatMap_append, List.length_append]
  exact Nat.le_add_right _ _
theorem join_sum {ws : List Str} (h : WsOk ws) : (ws.map (·.length)).sum + ws.length * spS.length ≤ 16777216 := by
  have e : spS.length = 1 := by decide +kernel
  rw [e]
  have key : ∀ {l : List Str}, (∀ x ∈ l, wordOk x = true) → (l.map (·.length)).sum ≤ 8 * l.length := fun {l} => by
    induction l with
    | nil => intro _; exact Nat.le_refl _
    | cons x r ih =>
      intro o
      have a := o x (List.mem_cons_self ..)
      unfold wordOk at a
      simp only [Bool.and_eq_true, decide_eq_true_eq] at a
      have b := ih fun y hy => o y (List.mem_cons_of_mem _ hy)
      rw [List.map_cons, List.sum_cons, List.length_cons]
      omega
  have := key h.2.2
  have := h.2.1
  omega
theorem lines_step {n : Nat} (F : Fun K "_lines_of" "_lines_of" sLines f fd) (gF : mg "_lines_of" = some (.ref f)) (bF : Binds K fd ["code"] []) (G : FnOk P w K mg base CX0 n f fd ["code"] (spLinesAt n)) : FnOk P w K mg base CX0 (n + 1) f fd ["code"] (spLinesAt (n + 1)) := by
  refine F.ok scLi (fun vs H Q E h => ?_) (fun cdv A outer s H vs Q E hr h => ?_)
  · obtain ⟨v, ds, rfl, _⟩ := h
    rfl
  · obtain ⟨v, ds, rfl, hd, rows, size, q⟩ := h
    refine ⟨_, pss_cons (ps_set (i := 1) scLi.nd rfl (Or.inl rfl) (pe_lst pa_nil))
      (pss_cons (ps_for PassesOwn.never rfl (pi_tup (pv 0)) (pg_name (i := 2) scLi.nd rfl (Or.inl rfl))
        (pss_one (ps_if (pt_cmpR op_eq (pe_ix (r := rIxT K) ix_tup (pv 2) pe_int (fun _ _ => rfl)) pe_str (nomark _))
          (pss_cons (ps_expr (pe_bm PySem.F.plainAttrs_list PySem.F.slot_list_append PySem.F.type_list_append mt_append (pv 1) (pa_cons (pe_bm PySem.F.plainAttrs_str PySem.F.slot_str_join PySem.F.type_str_join mt_join pe_str (pa_cons (pe_slice sl_tupA (pv 2) po_none (po_some pe_int)) pa_nil)) pa_nil)))
          (pss_cons (ps_expr (pe_bm PySem.F.plainAttrs_list PySem.F.slot_list_extend PySem.F.type_list_extend mt_extend (pv 1) (pa_cons (pe_call G hr (by rfl) gF F.kp bF .nil pass0 (pa_cons (pe_ix (r := rIxT K) ix_tup (pv 2) pe_int (fun _ _ => rfl)) pa_nil)) pa_nil)))
          (pss_cons (ps_expr (pe_bm PySem.F.plainAttrs_list PySem.F.slot_list_append PySem.F.type_list_append mt_append (pv 1) (pa_cons pe_str pa_nil)))
          (pss_cons (ps_expr (pe_bm PySem.F.plainAttrs_list PySem.F.slot_list_extend PySem.F.type_list_extend mt_extend (pv 1) (pa_cons (pe_call G hr (by rfl) gF F.kp bF .nil pass0 (pa_cons (pe_ix (r := rIxT K) ix_tup (pv 2) pe_int (fun _ _ => rfl)) pa_nil)) pa_nil)))
          (pss_one (ps_expr (pe_bm PySem.F.plainAttrs_list PySem.F.slot_list_append PySem.F.type_list_append mt_append (pv 1) (pa_cons pe_str pa_nil))))))))
          (pss_one (ps_if (pt_cmpR op_eq (pe_ix (r := rIxT K) ix_tup (pv 2) pe_int (fun _ _ => rfl)) pe_str (nomark _))
            (pss_one (ps_expr (pe_bm PySem.F.plainAttrs_list PySem.F.slot_list_append PySem.F.type_list_append mt_append (pv 1) (pa_cons (pe_bm PySem.F.plainAttrs_str PySem.F.slot_str_join PySem.F.type_str_join mt_join pe_str (pa_cons (pe_lst (StX.pa_star (pe_slice sl_tupA (pv 2) po_none (po_some pe_int)) (StX.pa_star (pe_ix (r := rIxT K) ix_tup (pv 2) pe_int (fun _ _ => rfl)) pa_nil))) pa_nil)) pa_nil))))
            (pss_one (ps_expr (pe_bm PySem.F.plainAttrs_list PySem.F.slot_list_append PySem.F.type_list_append mt_append (pv 1) (pa_cons (pe_bm PySem.F.plainAttrs_str PySem.F.slot_str_join PySem.F.type_str_join mt_join pe_str (pa_cons (pv 2) pa_nil)) pa_nil)))))))))
      (pss_one (ps_ret (pv 1)))), ?_⟩
    obtain ⟨a, xs, rfl, ea, hl, hx⟩ := hd.tup_of
    refine ⟨(by show 0 ≤ sizeLine; decide), fun p hp => ?_⟩
    have s0 := same_upd (o := .lst []) hp
    have line : (1000 : Nat) < sizeLine := by decide
    refine ⟨_, rfl, a, rfl, ⟨xs, SqT.of (s0 _ _ ea)⟩, for_tup (fun i σ H' => (∃ x2, σ = [some (.ref a), some (.ref p), x2]) ∧ Same H H' ∧ H' p = some (.lst ((wssN n (ds.take i)).map vL)))
      ⟨⟨_, rfl⟩, s0, upd_same⟩ (fun i σ H' _ h => SqT.of (h.2.1 _ _ ea)) (fun i x σ H' hi h => ?_) (fun σ H' h => ?_)⟩
    · obtain ⟨⟨x2, rfl⟩, s1, ep⟩ := h
      obtain ⟨d, hdi, hdt⟩ := hx.get hi
      have row : rowD (cdOf n) d = true := List.all_eq_true.mp rows d (List.mem_of_getElem? hdi)
      have le1 : (wssN n (ds.take (i + 1))).length ≤ 900 := Nat.le_trans wss_le size
      rw [wss_take hdi, List.length_append] at le1
      rcases row_iff row with ⟨m, p1, r1, ys, ns, rfl, rfl, hy, hn, hp1, hr1⟩ | ⟨w0, rest, rfl, ni, e0⟩
      · obtain ⟨p1, rfl⟩ := isS hp1
        obtain ⟨r1, rfl⟩ := isS hr1
        rw [wss_if] at le1
        simp only [List.length_cons, List.length_append, List.length_nil] at le1
        obtain ⟨b, xr, rfl, eb0, bl, hxr⟩ := hdt.row
        have eb := s1 _ _ eb0
        cases hxr with
        | @cons x1 _ _ _ k1 hxr =>
          cases hxr with
          | @cons x2' _ _ _ k2 hxr =>
            cases hxr with
            | @cons x3 _ _ _ k3 hxr =>
              cases hxr with
              | @cons x4 _ _ _ k4 hxr =>
                cases hxr
                obtain rfl : x1 = .str p1 := by
                  cases k1 with
                  | «at» a => cases a <;> rfl
                obtain rfl : x2' = .str r1 := by
                  cases k2 with
                  | «at» a => cases a <;> rfl
                refine ⟨_, rfl, b, _, 0, _, rfl, rfl, SqT.of eb, at0, rfl, _, rfl, iteT ?_⟩
                have w3 : WsOk [("if" : Str), p1, r1] := by
                  have a := code_ws (n := m + 1) (ds := [_]) (by rw [List.all_cons, row]; rfl) [("if" : Str), p1, r1] (by rw [wssN_cons, wss_if]; exact List.mem_append_left _ (List.mem_cons_self ..))
                  exact a
                refine ⟨_, rfl, .inl ⟨rfl, _, SqL.of ep⟩, rfl, _, rfl, 3, rfl, sl_one eb fun c1 H5 s5 n5 e5 => ?_⟩
                have e5' : H5 c1 = some (.tup ([("if" : Str), p1, r1].map V.str)) := e5
                refine ⟨_, _, [("if" : Str), p1, r1], rfl, rfl, .inr (SqT.of e5'), join_sum w3, p, _, _, rfl, rfl, s5 _ _ ep, by rw [List.length_map]; omega, ?_⟩
                have g1 : Same H (upd H5 p (.lst (((wssN (m + 1) (ds.take i)).map vL) ++ [vL [("if" : Str), p1, r1]]))) := same_put hp (s1.trans s5)
                refine ⟨_, rfl, .inl ⟨rfl, _, SqL.of upd_same⟩, _, rfl, b, _, 3, x3, rfl, rfl, SqT.of (g1 _ _ eb0), rfl, x3, ys, rfl, k3.mv (fun _ z => z) (fun b o _ e => g1 b o e), hy, by omega, fun H7 p7 s7 n7 e7 => ?_⟩
                refine ⟨p, p7, _, _, rfl, rfl, s7 _ _ upd_same, e7, by rw [List.length_append, List.length_map, List.length_map]; show _ + 1 + _ ≤ _; omega, ?_⟩
                have g2 := same_put (o := .lst (((wssN (m + 1) (ds.take i)).map vL ++ [vL [("if" : Str), p1, r1]]) ++ (wssN m ys).map vL)) hp (g1.trans s7)
                refine ⟨_, rfl, .inl ⟨rfl, _, SqL.of upd_same⟩, p, _, _, rfl, rfl, upd_same, by rw [List.length_append, List.length_append, List.length_map, List.length_map]; show _ + 1 + _ < _; omega, ?_⟩
                have g3 := same_put (o := .lst ((((wssN (m + 1) (ds.take i)).map vL ++ [vL [("if" : Str), p1, r1]]) ++ (wssN m ys).map vL) ++ [.str "else"])) hp g2
                refine ⟨_, rfl, .inl ⟨rfl, _, SqL.of upd_same⟩, _, rfl, b, _, 4, x4, rfl, rfl, SqT.of (g3 _ _ eb0), rfl, x4, ns, rfl, k4.mv (fun _ z => z) (fun b o _ e => g3 b o e), hn, by omega, fun H8 p8 s8 n8 e8 => ?_⟩
                refine ⟨p, p8, _, _, rfl, rfl, s8 _ _ upd_same, e8, by rw [List.length_append, List.length_append, List.length_append, List.length_map, List.length_map, List.length_map]; show _ + 1 + _ + 1 + _ ≤ _; omega, ?_⟩
                have g4 := same_put (o := .lst (((((wssN (m + 1) (ds.take i)).map vL ++ [vL [("if" : Str), p1, r1]]) ++ (wssN m ys).map vL) ++ [.str "else"]) ++ (wssN m ns).map vL)) hp (g3.trans s8)
                refine ⟨_, rfl, .inl ⟨rfl, _, SqL.of upd_same⟩, p, _, _, rfl, rfl, upd_same, by rw [List.length_append, List.length_append, List.length_append, List.length_append, List.length_map, List.length_map, List.length_map]; show _ + 1 + _ + 1 + _ < _; omega, ?_⟩
                refine ⟨⟨_, rfl⟩, same_put hp g4, ?_⟩
                rw [upd_same, wss_take hdi, wss_if]
                have ee : vL [("else" : Str)] = .str "else" := by decide +kernel
                have en : vL [("end" : Str)] = .str "end" := by decide +kernel
                simp only [List.map_append, List.map_cons, List.map_nil, List.append_assoc, List.cons_append, List.nil_append, ee, en]
                rfl
      · obtain ⟨b, xr, rfl, eb0, bl, hxr⟩ := hdt.row
        have eb := s1 _ _ eb0
        rw [wss_leaf e0] at le1
        simp only [List.length_cons, List.length_nil] at le1
        refine ⟨_, rfl, b, _, 0, _, rfl, rfl, SqT.of eb, at0, rfl, _, rfl, ?_⟩
        have nf : decide (V.str w0 = V.str "if") = false := decide_eq_false fun z => ni (V.str.inj z)
        rw [nf]
        refine iteF ⟨_, rfl, b, _, 0, _, rfl, rfl, SqT.of eb, at0, rfl, _, rfl, ?_⟩
        obtain ⟨w, rest', ed, _, _, _, hcase⟩ := leaf_words (leaf_any (m := 0) row ni)
        obtain ⟨rfl, rfl⟩ : w0 = w ∧ rest = rest' := by
          injection ed with ed
          injection ed with e1 e2
          injection e1 with e1
          exact ⟨e1, e2⟩
        have wk : WsOk (wordsD (.tuple (.str w0 :: rest))) := code_ws (n := 0) (ds := [_]) (by rw [List.all_cons, leaf_any (m := 0) row ni]; rfl) _ (by rw [wssN_cons, wss_leaf e0]; exact List.mem_append_left _ (List.mem_cons_self ..))
        rcases hcase with ⟨ns, hn, ew, _⟩ | ⟨rfl, y1, y2, as, rfl, _, _, hl2, ha, ew⟩
        · have nf2 : decide (V.str w0 = V.str "set") = false := decide_eq_false fun z => ns (V.str.inj z)
          rw [nf2]
          have ex : (V.str w0 :: xr) = (wordsD (.tuple (.str w0 :: rest))).map V.str := by
            rw [ew, List.map_cons, dt_names hxr hn]
          refine iteF ⟨_, rfl, .inl ⟨rfl, _, SqL.of ep⟩, rfl, _, rfl, _, b, wordsD (.tuple (.str w0 :: rest)), rfl, rfl, .inr (by rw [← ex]; exact SqT.of eb), join_sum wk, p, _, _, rfl, rfl, ep, by rw [List.length_map]; omega, ⟨_, rfl⟩, same_put hp s1, ?_⟩
          rw [upd_same, wss_take hdi, wss_leaf e0, List.map_append]
          rfl
        · cases hxr with
          | @cons x1 _ _ _ k1 hxr =>
            cases hxr with
            | @cons x2' _ _ _ k2 hxr =>
              cases hxr with
              | @cons x3 _ _ _ k3 hxr =>
                cases hxr
                obtain rfl : x1 = .str y1 := by
                  cases k1 with
                  | «at» a => cases a <;> rfl
                obtain rfl : x2' = .str y2 := by
                  cases k2 with
                  | «at» a => cases a <;> rfl
                obtain ⟨c, xc, rfl, ec0, lc, hxc⟩ := k3.tup_of
                have exc : xc = as.map V.str := by
                  rw [dt_names hxc ha, List.map_map, List.map_map]
                  rfl
                refine iteT ⟨_, rfl, .inl ⟨rfl, _, SqL.of ep⟩, rfl, _, rfl, 3, rfl, sl_one eb fun c1 H5 s5 n5 e5 => ?_⟩
                have s15 := s1.trans s5
                refine ⟨c1, [.str "set", .str y1, .str y2], rfl, .inl (SqT.of e5), _, rfl, b, _, 3, _, rfl, rfl, SqT.of (s5 _ _ eb), rfl, c, xc, rfl, .inl (SqT.of (s15 _ _ ec0)), ?_⟩
                have l5 : (("set" : Str) :: y1 :: y2 :: as).length ≤ 5 := by simp; omega
                have ev : ([.str "set", .str y1, .str y2] ++ (xc ++ []) : List V) = (("set" : Str) :: y1 :: y2 :: as).map V.str := by
                  rw [exc, List.append_nil]
                  rfl
                refine ⟨by rw [ev, List.length_map]; exact Nat.le_trans l5 (Nat.le_trans (by decide : 5 ≤ 1000) (Nat.le_of_lt line)), fun pl hpl => ?_⟩
                rw [ev]
                have s6 := s15.trans (same_upd (o := .lst ((("set" : Str) :: y1 :: y2 :: as).map V.str)) hpl)
                refine ⟨_, pl, ("set" : Str) :: y1 :: y2 :: as, rfl, rfl, .inl (SqL.of upd_same), join_sum (by rw [← ew]; exact wk), p, (wssN n (ds.take i)).map vL, _, rfl, rfl, ?_, by rw [List.length_map]; omega, ⟨_, rfl⟩, same_put hp s6, ?_⟩
                · rw [upd_ne (ne_of_none (s5 _ _ ep) hpl)]
                  exact s5 _ _ ep
                · rw [upd_same, wss_take hdi, wss_leaf e0, List.map_append, ew]
                  rfl
    · obtain ⟨⟨x2, rfl⟩, s1, ep⟩ := h
      rw [hx.length, List.take_length] at ep
      exact ⟨_, rfl, q _ _ s1 hp ep⟩
theorem ok_lines (F : Fun K "_lines_of" "_lines_of" sLines f fd) (gF : mg "_lines_of" = some (.ref f)) (bF : Binds K fd ["code"] []) : ∀ n, FnOk P w K mg base CX0 n f fd ["code"] (spLinesAt n)
  | 0 => ⟨fun _ _ _ _ h => h.elim, fun _ _ _ _ _ _ _ _ _ _ _ _ _ h => h.elim⟩
  | n + 1 => lines_step F gF bF (ok_lines F gF bF n)
end
end OM

namespace OM
open PySem PySem.Spec PyProof.Rows L2
abbrev sWrit : Stmt := top 72
theorem if_line (p r : Str) : (("if " : Str) ++ p ++ (" " : Str)) ++ r = lineW [("if" : Str), p, r] := by
  apply TL.ext_tl
  rw [line_tl, TL.tl_append, TL.tl_append, TL.tl_append]
  have e1 : TL.tl ("if " : Str) = TL.tl ("if" : Str) ++ [32] := by decide +kernel
  have e2 : TL.tl (" " : Str) = [32] := by decide +kernel
  rw [e1, e2]
  simp [TL.joinL]
theorem vL_if (p r : Str) : vL [("if" : Str), p, r] = .str ((("if " : Str) ++ p ++ (" " : Str)) ++ r) := by
  rw [if_line]
  rfl
theorem vL_else : vL [("else" : Str)] = .str "else" := by decide +kernel
theorem vL_end : vL [("end" : Str)] = .str "end" := by decide +kernel
section
variable {P : Program} {w : World} {K : PySem.W.Frag} {mg : Str → Option Value} {base : Heap} {f : Addr} {fd : FuncData}
theorem scWt : FnScope ["_law_code_here", "_law_found", "_law_row"] ["_law_code_here"] (defScope sWrit) := ⟨rfl, rfl, rfl, by decide +kernel, rfl, by decide +kernel, by decide +kernel⟩
theorem nm_len {x : Str} (h : isNameD (.str x) = true) : x.length ≤ 8 := by
  have := name_word h
  unfold wordOk at this
  simp only [Bool.and_eq_true, decide_eq_true_eq] at this
  exact this.2.1
theorem writ_step {n : Nat} (F : Fun K "_law_written" "_law_written" sWrit f fd) (ls : mg "list" = none) (gF : mg "_law_written" = some (.ref f)) (bF : Binds K fd ["_law_code_here"] []) (G : FnOk P w K mg base CX0 n f fd ["_law_code_here"] (spLinesAt n)) : FnOk P w K mg base CX0 (n + 1) f fd ["_law_code_here"] (spLinesAt (n + 1)) := by
  refine F.ok scWt (fun vs H Q E h => ?_) (fun cdv A outer s H vs Q E hr h => ?_)
  · obtain ⟨v, ds, rfl, _⟩ := h
    rfl
  · obtain ⟨v, ds, rfl, hd, rows, size, q⟩ := h
    refine ⟨_, pss_cons (ps_set (i := 1) scWt.nd rfl (Or.inl rfl) (pe_lst pa_nil))
      (pss_cons (ps_for PassesOwn.never rfl (pi_tup (pv 0)) (pg_name (i := 2) scWt.nd rfl (Or.inl rfl))
        (pss_one (ps_if (pt_cmpR op_eq (pe_ix (r := rIxT K) ix_tup (pv 2) pe_int (fun _ _ => rfl)) pe_str (nomark _))
          (pss_cons (ps_set (i := 1) scWt.nd rfl (Or.inl rfl) (pe_op op_cat (pe_op op_cat (pv 1) (pe_lst (pa_cons (pe_op op_add_str (pe_op op_add_str (pe_op op_add_str pe_str (pe_ix (r := rIxT K) ix_tup (pv 2) pe_int (fun _ _ => rfl))) pe_str) (pe_ix (r := rIxT K) ix_tup (pv 2) pe_int (fun _ _ => rfl))) pa_nil)))
            (pe_call G hr (by rfl) gF F.kp bF .nil pass0 (pa_cons (pe_ix (r := rIxT K) ix_tup (pv 2) pe_int (fun _ _ => rfl)) pa_nil))))
          (pss_one (ps_set (i := 1) scWt.nd rfl (Or.inl rfl) (pe_op op_cat (pe_op op_cat (pe_op op_cat (pv 1) (pe_lst (pa_cons pe_str pa_nil)))
            (pe_call G hr (by rfl) gF F.kp bF .nil pass0 (pa_cons (pe_ix (r := rIxT K) ix_tup (pv 2) pe_int (fun _ _ => rfl)) pa_nil))) (pe_lst (pa_cons pe_str pa_nil))))))
          (pss_one (ps_if (pt_cmpR op_eq (pe_ix (r := rIxT K) ix_tup (pv 2) pe_int (fun _ _ => rfl)) pe_str (nomark _))
            (pss_one (ps_expr (pe_bm PySem.F.plainAttrs_list PySem.F.slot_list_append PySem.F.type_list_append mt_append (pv 1) (pa_cons (pe_bm PySem.F.plainAttrs_str PySem.F.slot_str_join PySem.F.type_str_join mt_join pe_str (pa_cons (pe_op op_cat
              (pe_callTy call_list_of (by rfl) ls (by decide +kernel) (pa_cons (pe_slice sl_tupA (pv 2) po_none (po_some pe_int)) pa_nil)) (pe_callTy call_list_of (by rfl) ls (by decide +kernel) (pa_cons (pe_ix (r := rIxT K) ix_tup (pv 2) pe_int (fun _ _ => rfl)) pa_nil))) pa_nil)) pa_nil))))
            (pss_one (ps_expr (pe_bm PySem.F.plainAttrs_list PySem.F.slot_list_append PySem.F.type_list_append mt_append (pv 1) (pa_cons (pe_bm PySem.F.plainAttrs_str PySem.F.slot_str_join PySem.F.type_str_join mt_join pe_str (pa_cons (pe_callTy call_list_of (by rfl) ls (by decide +kernel) (pa_cons (pv 2) pa_nil)) pa_nil)) pa_nil)))))))))
      (pss_one (ps_ret (pv 1)))), ?_⟩
    obtain ⟨a, xs, rfl, ea, hl, hx⟩ := hd.tup_of
    refine ⟨(by show 0 ≤ sizeLine; decide), fun p0 hp0 => ?_⟩
    have s0 := same_upd (o := .lst []) hp0
    have line : (1000 : Nat) < sizeLine := by decide
    refine ⟨_, rfl, a, rfl, ⟨xs, SqT.of (s0 _ _ ea)⟩, for_tup (fun i σ H' => (∃ p x2, σ = [some (.ref a), some (.ref p), x2] ∧ H p = none ∧ H' p = some (.lst ((wssN n (ds.take i)).map vL))) ∧ Same H H')
      ⟨⟨_, _, rfl, hp0, upd_same⟩, s0⟩ (fun i σ H' _ h => SqT.of (h.2 _ _ ea)) (fun i x σ H' hi h => ?_) (fun σ H' h => ?_)⟩
    · obtain ⟨⟨p, x2, rfl, hp, ep⟩, s1⟩ := h
      obtain ⟨d, hdi, hdt⟩ := hx.get hi
      have row : rowD (cdOf n) d = true := List.all_eq_true.mp rows d (List.mem_of_getElem? hdi)
      have le1 : (wssN n (ds.take (i + 1))).length ≤ 900 := Nat.le_trans wss_le size
      rw [wss_take hdi, List.length_append] at le1
      rcases row_iff row with ⟨m, p1, r1, ys, ns, rfl, rfl, hy, hn, hp1, hr1⟩ | ⟨w0, rest, rfl, ni, e0⟩
      · obtain ⟨p1, rfl⟩ := isS hp1
        obtain ⟨r1, rfl⟩ := isS hr1
        have lp := nm_len hp1
        have lr := nm_len hr1
        rw [wss_if] at le1
        simp only [List.length_cons, List.length_append, List.length_nil] at le1
        obtain ⟨b, xr, rfl, eb0, bl, hxr⟩ := hdt.row
        have eb := s1 _ _ eb0
        cases hxr with
        | @cons x1 _ _ _ k1 hxr =>
          cases hxr with
          | @cons x2' _ _ _ k2 hxr =>
            cases hxr with
            | @cons x3 _ _ _ k3 hxr =>
              cases hxr with
              | @cons x4 _ _ _ k4 hxr =>
                cases hxr
                obtain rfl : x1 = .str p1 := by
                  cases k1 with
                  | «at» a => cases a <;> rfl
                obtain rfl : x2' = .str r1 := by
                  cases k2 with
                  | «at» a => cases a <;> rfl
                have el1 : (("if " : Str) ++ p1).length = 3 + p1.length := by
                  rw [← len_tl, TL.tl_append, List.length_append, len_tl, len_tl]
                  rfl
                have el2 : (("if " : Str) ++ p1 ++ (" " : Str)).length = 3 + p1.length + 1 := by
                  rw [← len_tl, TL.tl_append, List.length_append, len_tl, len_tl, el1]
                  rfl
                refine ⟨_, rfl, b, _, 0, _, rfl, rfl, SqT.of eb, at0, rfl, _, rfl, iteT ?_⟩
                refine ⟨_, rfl, _, rfl, b, _, 1, .str p1, rfl, rfl, SqT.of eb, rfl, _, _, rfl, rfl, by show 3 + p1.length ≤ _; omega, _, _, rfl, rfl, by rw [el1]; show 3 + p1.length + 1 ≤ _; omega, _, rfl, b, _, 2, .str r1, rfl, rfl, SqT.of eb, rfl, _, _, rfl, rfl, by rw [el2]; omega, (by show 1 ≤ sizeLine; decide), fun q1 hq1 => ?_⟩
                have t1 := s1.trans (same_upd (o := .lst [.str ((("if " : Str) ++ p1 ++ (" " : Str)) ++ r1)]) hq1)
                refine ⟨p, q1, _, _, rfl, rfl, same_upd hq1 _ _ ep, upd_same, by rw [List.length_map]; show _ + 1 ≤ _; omega, fun q2 hq2 => ?_⟩
                have t2 := t1.trans (same_upd (o := .lst ((wssN (m + 1) (ds.take i)).map vL ++ [.str ((("if " : Str) ++ p1 ++ (" " : Str)) ++ r1)])) hq2)
                refine ⟨_, rfl, b, _, 3, x3, rfl, rfl, SqT.of (t2 _ _ eb0), rfl, x3, ys, rfl, k3.mv (fun _ z => z) (fun b o _ e => t2 b o e), hy, by omega, fun H7 p7 s7 n7 e7 => ?_⟩
                have t3 := t2.trans s7
                refine ⟨q2, p7, _, _, rfl, rfl, s7 _ _ upd_same, e7, by rw [List.length_append, List.length_map, List.length_map]; show _ + 1 + _ ≤ _; omega, fun q3 hq3 => ?_⟩
                have t4 := t3.trans (same_upd (o := .lst (((wssN (m + 1) (ds.take i)).map vL ++ [.str ((("if " : Str) ++ p1 ++ (" " : Str)) ++ r1)]) ++ (wssN m ys).map vL)) hq3)
                refine ⟨_, rfl, (by show 1 ≤ sizeLine; decide), fun q4 hq4 => ?_⟩
                have t5 := t4.trans (same_upd (o := .lst [.str "else"]) hq4)
                refine ⟨q3, q4, _, _, rfl, rfl, same_upd hq4 _ _ upd_same, upd_same, by rw [List.length_append, List.length_append, List.length_map, List.length_map]; show _ + 1 + _ + 1 ≤ _; omega, fun q5 hq5 => ?_⟩
                have t6 := t5.trans (same_upd (o := .lst ((((wssN (m + 1) (ds.take i)).map vL ++ [.str ((("if " : Str) ++ p1 ++ (" " : Str)) ++ r1)]) ++ (wssN m ys).map vL) ++ [.str "else"])) hq5)
                refine ⟨_, rfl, b, _, 4, x4, rfl, rfl, SqT.of (t6 _ _ eb0), rfl, x4, ns, rfl, k4.mv (fun _ z => z) (fun b o _ e => t6 b o e), hn, by omega, fun H8 p8 s8 n8 e8 => ?_⟩
                have t7 := t6.trans s8
                refine ⟨q5, p8, _, _, rfl, rfl, s8 _ _ upd_same, e8, by rw [List.length_append, List.length_append, List.length_append, List.length_map, List.length_map, List.length_map]; show _ + 1 + _ + 1 + _ ≤ _; omega, fun q6 hq6 => ?_⟩
                have t8 := t7.trans (same_upd (o := .lst (((((wssN (m + 1) (ds.take i)).map vL ++ [.str ((("if " : Str) ++ p1 ++ (" " : Str)) ++ r1)]) ++ (wssN m ys).map vL) ++ [.str "else"]) ++ (wssN m ns).map vL)) hq6)
                refine ⟨(by show 1 ≤ sizeLine; decide), fun q7 hq7 => ?_⟩
                have t9 := t8.trans (same_upd (o := .lst [.str "end"]) hq7)
                refine ⟨q6, q7, _, _, rfl, rfl, same_upd hq7 _ _ upd_same, upd_same, by rw [List.length_append, List.length_append, List.length_append, List.length_append, List.length_map, List.length_map, List.length_map]; show _ + 1 + _ + 1 + _ + 1 ≤ _; omega, fun q8 hq8 => ?_⟩
                refine ⟨⟨q8, _, rfl, t9.free hq8, ?_⟩, t9.trans (same_upd hq8)⟩
                rw [upd_same, wss_take hdi, wss_if]
                simp only [List.map_append, List.map_cons, List.map_nil, List.append_assoc, List.cons_append, List.nil_append, vL_else, vL_end, vL_if]
      · obtain ⟨b, xr, rfl, eb0, bl, hxr⟩ := hdt.row
        have eb := s1 _ _ eb0
        rw [wss_leaf e0] at le1
        simp only [List.length_cons, List.length_nil] at le1
        refine ⟨_, rfl, b, _, 0, _, rfl, rfl, SqT.of eb, at0, rfl, _, rfl, ?_⟩
        have nf : decide (V.str w0 = V.str "if") = false := decide_eq_false fun z => ni (V.str.inj z)
        rw [nf]
        refine iteF ⟨_, rfl, b, _, 0, _, rfl, rfl, SqT.of eb, at0, rfl, _, rfl, ?_⟩
        obtain ⟨w, rest', ed, _, _, _, hcase⟩ := leaf_words (leaf_any (m := 0) row ni)
        obtain ⟨rfl, rfl⟩ : w0 = w ∧ rest = rest' := by
          injection ed with ed
          injection ed with e1 e2
          injection e1 with e1
          exact ⟨e1, e2⟩
        have wk : WsOk (wordsD (.tuple (.str w0 :: rest))) := code_ws (n := 0) (ds := [_]) (by rw [List.all_cons, leaf_any (m := 0) row ni]; rfl) _ (by rw [wssN_cons, wss_leaf e0]; exact List.mem_append_left _ (List.mem_cons_self ..))
        rcases hcase with ⟨ns, hn, ew, _⟩ | ⟨rfl, y1, y2, as, rfl, _, _, hl2, ha, ew⟩
        · have nf2 : decide (V.str w0 = V.str "set") = false := decide_eq_false fun z => ns (V.str.inj z)
          rw [nf2]
          have ex : (V.str w0 :: xr) = (wordsD (.tuple (.str w0 :: rest))).map V.str := by
            rw [ew, List.map_cons, dt_names hxr hn]
          refine iteF ⟨_, rfl, .inl ⟨rfl, _, SqL.of ep⟩, rfl, _, rfl, b, _, rfl, .inr (SqT.of eb), fun q1 hq1 => ?_⟩
          have t1 := s1.trans (same_upd (o := .lst (.str w0 :: xr)) hq1)
          refine ⟨_, q1, wordsD (.tuple (.str w0 :: rest)), rfl, rfl, .inl (by rw [← ex]; exact SqL.of upd_same), join_sum wk, p, _, _, rfl, rfl, same_upd hq1 _ _ ep, by rw [List.length_map]; omega, ⟨p, _, rfl, hp, ?_⟩, same_put hp t1⟩
          rw [upd_same, wss_take hdi, wss_leaf e0, List.map_append]
          rfl
        · cases hxr with
          | @cons x1 _ _ _ k1 hxr =>
            cases hxr with
            | @cons x2' _ _ _ k2 hxr =>
              cases hxr with
              | @cons x3 _ _ _ k3 hxr =>
                cases hxr
                obtain rfl : x1 = .str y1 := by
                  cases k1 with
                  | «at» a => cases a <;> rfl
                obtain rfl : x2' = .str y2 := by
                  cases k2 with
                  | «at» a => cases a <;> rfl
                obtain ⟨c, xc, rfl, ec0, lc, hxc⟩ := k3.tup_of
                have exc : xc = as.map V.str := by
                  rw [dt_names hxc ha, List.map_map, List.map_map]
                  rfl
                have l5 : (("set" : Str) :: y1 :: y2 :: as).length ≤ 5 := by simp; omega
                refine iteT ⟨_, rfl, .inl ⟨rfl, _, SqL.of ep⟩, rfl, _, rfl, 3, rfl, sl_one eb fun c1 H5 s5 n5 e5 => ?_⟩
                have s15 := s1.trans s5
                refine ⟨c1, [.str "set", .str y1, .str y2], rfl, .inr (SqT.of e5), fun q1 hq1 => ?_⟩
                have t1 := s15.trans (same_upd (o := .lst [.str "set", .str y1, .str y2]) hq1)
                refine ⟨_, rfl, b, _, 3, _, rfl, rfl, SqT.of (t1 _ _ eb0), rfl, c, xc, rfl, .inr (SqT.of (t1 _ _ ec0)), fun q2 hq2 => ?_⟩
                have t2 := t1.trans (same_upd (o := .lst xc) hq2)
                refine ⟨q1, q2, _, _, rfl, rfl, same_upd hq2 _ _ upd_same, upd_same, ?_, fun q3 hq3 => ?_⟩
                · rw [exc, List.length_map]
                  show 3 + _ ≤ _
                  omega
                have ev : ([.str "set", .str y1, .str y2] ++ xc : List V) = (("set" : Str) :: y1 :: y2 :: as).map V.str := by
                  rw [exc]
                  rfl
                rw [ev] at *
                have t3 := t2.trans (same_upd (o := .lst ((("set" : Str) :: y1 :: y2 :: as).map V.str)) hq3)
                refine ⟨_, q3, ("set" : Str) :: y1 :: y2 :: as, rfl, rfl, .inl (SqL.of upd_same), join_sum (by rw [← ew]; exact wk), p, (wssN n (ds.take i)).map vL, _, rfl, rfl, ?_, by rw [List.length_map]; omega, ⟨p, _, rfl, hp, ?_⟩, same_put hp t3⟩
                · exact same_upd hq3 _ _ (same_upd hq2 _ _ (same_upd hq1 _ _ (s5 _ _ ep)))
                · rw [upd_same, wss_take hdi, wss_leaf e0, List.map_append, ew]
                  rfl
    · obtain ⟨⟨p, x2, rfl, hp, ep⟩, s1⟩ := h
      rw [hx.length, List.take_length] at ep
      exact ⟨_, rfl, q _ _ s1 hp ep⟩
theorem ok_writ (F : Fun K "_law_written" "_law_written" sWrit f fd) (ls : mg "list" = none) (gF : mg "_law_written" = some (.ref f)) (bF : Binds K fd ["_law_code_here"] []) : ∀ n, FnOk P w K mg base CX0 n f fd ["_law_code_here"] (spLinesAt n)
  | 0 => ⟨fun _ _ _ _ h => h.elim, fun _ _ _ _ _ _ _ _ _ _ _ _ _ h => h.elim⟩
  | n + 1 => writ_step F ls gF bF (ok_writ F ls gF bF n)
end
end OM

namespace OM
open PySem PySem.Spec PyProof.Rows L2
/-- the written empty tuple: a default -/
def Emp (K : PySem.W.Frag) (a : Addr) : Prop := ∃ (o : Obj) (n : Nat), K.lookup a = some o ∧ o.cls = .type "tuple" ∧ o.data = .seq #[] n
theorem Emp.seq {K : PySem.W.Frag} {a : Addr} {H : Hp} (h : Emp K a) : SqT K H a [] := by
  obtain ⟨o, n, h1, h2, h3⟩ := h
  exact .inr ⟨o, #[], n, h1, h2, h3, by decide, .nil⟩
theorem Emp.ty {K : PySem.W.Frag} {a : Addr} {H : Hp} (h : Emp K a) : TyX K H (.ref a) (.type "tuple") := by
  obtain ⟨o, n, h1, h2, h3⟩ := h
  exact .kTuple h1 h2
def spSet0 (K : PySem.W.Frag) : Sp := fun vs H Q _ => ∃ a : Addr, vs = [.ref a] ∧ Emp K a ∧ ∀ H', Same H H' → Q (.bl true) H'
def spKept0 (K : PySem.W.Frag) : Sp := fun vs H Q _ => ∃ a : Addr, vs = [.ref a] ∧ Emp K a ∧ ∀ H', Same H H' → Q (.bl true) H'
def spSI0 (K : PySem.W.Frag) (C cS : Addr) : Sp := fun vs H Q E => ∃ (S : Addr → Prop) (p dx k0 : Addr) (c : V) (dc : PyData), vs = [.ref p, c, .ref k0] ∧ H p = some (.ins C dx []) ∧ Dt S H c dc ∧ Emp K k0 ∧ nsD dc = true ∧ smlD dc = true ∧ (codeD 3 dc = true → (flatN 3 (itemsD dc)).length ≤ 400) ∧
  (okD dc (.tuple []) = true → ∀ H', But p H H' → H' p = some (.ins C dx [("_code", c), ("_keeps", .ref k0)]) → Q .non H') ∧ (okD dc (.tuple []) = false → OutN E cS H)
section
variable {P : Program} {w : World} {K : PySem.W.Frag} {mg : Str → Option Value} {base : Heap} {f fI fS : Addr} {fd dI dS : FuncData}
theorem ok_isset0 (F : Fun K "is_set" "is_set" sIsSet f fd) (T : TxtN K mg) (TF : TxtF K w mg) (gI : mg "is_name" = some (.ref fI)) (FI : Fun K "is_name" "is_name" sIsName fI dI) (bI : Binds K dI ["value"] []) : FnOk P w K mg base CX0 2 f fd ["value"] (spSet0 K) := by
  have GI : FnOk P w K mg base CX0 1 fI dI ["value"] spName := ok_isname FI T
  refine F.ok scSet (fun vs H Q E h => ?_) (fun cdv A outer s H vs Q E hr h => ?_)
  · obtain ⟨a, rfl, _⟩ := h
    rfl
  · obtain ⟨a, rfl, ea, q⟩ := h
    refine ⟨_, pss_one (ps_ret (pe_and (pe_callB call_isi (by rfl) T.isi (by decide +kernel) (pa_cons (pv 0) (pa_cons (pe_bltn (v := .ty "tuple") (u := .type "tuple") (by rfl) TF.tup (by decide +kernel) rfl) pa_nil)))
      (pe_and (pe_callB (cr_all rfl) (by rfl) T.all (by decide +kernel) (pa_cons (pe_lc (own := [("name", 1)]) rfl scSet.nd (pi_tup (pv 0)) (blkOk_by (N := ["value", "name", "after"]) (sc := defScope sIsSet) (by decide +kernel))
            (fun _ _ _ _ _ => pg_name (i := 1) scSet.nd rfl (Or.inl rfl)) (fun _ _ _ _ _ => pts_nil) (fun _ _ _ _ _ => pe_call GI hr (by rfl) gI FI.kp bI .nil pass0 (pa_cons (pv 1) pa_nil))) pa_nil))
      (pe_one (pe_callB (cr_all rfl) (by rfl) T.all (by decide +kernel) (pa_cons (pe_lc (g := gTup K 2 (gCons (gName 1) (gCons (gName 2) gNil))) (own := [("name", 1), ("after", 2)]) rfl scSet.nd (RZ.pi_zipA (by rfl) TF.zip (pa_cons (pv 0) (pa_cons (pe_slice sl_tupA (pv 0) (po_some pe_int) po_none) pa_nil))) (blkOk_by (N := ["value", "name", "after"]) (sc := defScope sIsSet) (by decide +kernel))
            (fun _ _ _ _ _ => pg_tup rfl (pgs_cons (pg_name (i := 1) scSet.nd rfl (Or.inl rfl)) (pgs_cons (pg_name (i := 2) scSet.nd rfl (Or.inl rfl)) pgs_nil))) (fun _ _ _ _ _ => pts_nil) (fun _ _ _ _ _ => pe_cmpR op_lt_str (pv 1) (pv 2) (nomark _))) pa_nil)))))), ?_⟩
    refine isi_te (x := .ref a) rfl ea.ty (kit_tup (.tuple [])) ⟨_, rfl, iteT ?_⟩
    refine ⟨_, rfl, a, rfl, ⟨[], ea.seq⟩, fun Dl hD => lc_tup (PvM H Dl []) (PvM.zero hD) (fun i H' _ p => ea.seq) (fun i x H3 hi p => by simp at hi) (fun H5 p => ?_)⟩
    refine ⟨Dl, [], rfl, SqL.of p.2, _, rfl, iteT ?_⟩
    refine ⟨_, rfl, _, rfl, 1, rfl, a, [], rfl, ea.seq, fun hw => ?_, fun hn => absurd (And.intro rfl rfl) hn⟩
    refine ⟨a, a, [], [], rfl, .inr ⟨ea.seq, ea.seq, fun D2 hD2 => lc_zipS (Nat.le_refl _) (PvM H5 D2 []) (PvM.zero hD2) (fun i H' p => ⟨ea.seq, ea.seq⟩) (fun i x y T H3 hi _ _ _ => by simp at hi) (fun H6 p6 => ?_)⟩⟩
    exact ⟨D2, [], rfl, SqL.of p6.2, q _ (p.1.trans p6.1)⟩
theorem ok_kept0 (F : Fun K "is_kept" "is_kept" sKept f fd) (T : TxtN K mg) (TF : TxtF K w mg) (gI : mg "is_name" = some (.ref fI)) (FI : Fun K "is_name" "is_name" sIsName fI dI) (bI : Binds K dI ["value"] []) (gS : mg "is_set" = some (.ref fS)) (FS : Fun K "is_set" "is_set" sIsSet fS dS) (bS : Binds K dS ["value"] []) (gM : ∃ t, mg "MAX_KEPT" = some (.int 4 t)) :
    FnOk P w K mg base CX0 3 f fd ["value"] (spKept0 K) := by
  have GS : FnOk P w K mg base CX0 2 fS dS ["value"] (spSet0 K) := ok_isset0 FS T TF gI FI bI
  obtain ⟨t, g4⟩ := gM
  refine F.ok scKp (fun vs H Q E h => ?_) (fun cdv A outer s H vs Q E hr h => ?_)
  · obtain ⟨a, rfl, _⟩ := h
    rfl
  · obtain ⟨a, rfl, ea, q⟩ := h
    refine ⟨_, pss_one (ps_ret (pe_and (pe_call GS hr (by rfl) gS FS.kp bS .nil pass0 (pa_cons (pv 0) pa_nil)) (pe_one (pe_cmpR op_le (pe_callB call_len_seq (by rfl) T.len PySem.boot_len (pa_cons (pv 0) pa_nil)) (pe_glob (v := .int 4) (by rfl) g4 ⟨t, rfl⟩) (nomark _))))), ?_⟩
    exact ⟨_, rfl, a, rfl, ea, fun H1 s1 => ⟨_, rfl, iteT ⟨_, rfl, a, [], rfl, .inr ea.seq, _, _, rfl, rfl, q _ s1⟩⟩⟩
end
section
variable {P : Program} {w : World} {K : PySem.W.Frag} {mg : Str → Option Value} {base : Heap} {f : Addr} {fd : FuncData}
theorem ok_sinit0 {dvs : List V} {C cS fI fIC fB fKp : Addr} {dI dIC dB dKp : FuncData} (F : FunD K "__init__" "Stretch.__init__" (defArgs sSI) (defBody sSI) (defScope sSI) dvs [] f fd) (T : StrT K mg C) (kS : KCls K cS fI "ValueError" []) (gcS : mg "InvalidStretch" = some (.ref cS))
    (GI : FnOk P w K mg base CX0 1 fI dI ["self", "why"] (spI0 K "ValueError")) (bI : Binds K dI ["self", "why"] []) (gIC : mg "is_code" = some (.ref fIC)) (kIC : PySem.W.keepIn K (.ref fIC) = true) (bIC : Binds K dIC ["value"] []) (GIC : FnOk P w K mg base CX0 14 fIC dIC ["value"] spIsCode)
    (gB : mg "is_bounded" = some (.ref fB)) (kB : PySem.W.keepIn K (.ref fB) = true) (bB : Binds K dB ["code"] []) (GB : FnOk P w K mg base CX0 10 fB dB ["code"] spBnd) (gKp : mg "is_kept" = some (.ref fKp)) (kKp : PySem.W.keepIn K (.ref fKp) = true) (bKp : Binds K dKp ["value"] []) (GKp : FnOk P w K mg base CX0 3 fKp dKp ["value"] (spKept0 K)) :
    FnOk P w K mg base (L2.CX P w) 15 f fd ["self", "code", "keeps"] (spSI0 K C cS) := by
  refine F.ok scSI (fun vs H Q E h => ?_) (fun cdv A outer s H vs Q E hr h => ?_)
  · obtain ⟨S, p, dx, k0, c, dc, rfl, _⟩ := h
    rfl
  · obtain ⟨S, p, dx, k0, c, dc, rfl, hp, hc, hk, ns, sc, size, q, e⟩ := h
    refine ⟨_, pss_cons (ps_if (pt_not (pt_val (pe_call GIC hr (by rfl) gIC kIC bIC .nil pass0 (pa_cons (pv 1) pa_nil)))) (pss_one (ps_raise rfl (takes_of rfl rfl rfl rfl) (pmk_B (Classical.choose_spec kS.made).1 GI (hr.mono (by decide)) (by rfl) gcS bI .nil pass0 (pa_cons pe_str pa_nil)))) pss_nil)
      (pss_cons (ps_if (pt_not (pt_val (pe_call GB (hr.mono (by decide)) (by rfl) gB kB bB .nil pass0 (pa_cons (pv 1) pa_nil)))) (pss_one (ps_raise rfl (takes_of rfl rfl rfl rfl) (pmk_B (Classical.choose_spec kS.made).1 GI (hr.mono (by decide)) (by rfl) gcS bI .nil pass0 (pa_cons pe_str pa_nil)))) pss_nil)
      (pss_cons (ps_if (pt_not (pt_val (pe_call GKp (hr.mono (by decide)) (by rfl) gKp kKp bKp .nil pass0 (pa_cons (pv 2) pa_nil)))) (pss_one (ps_raise rfl (takes_of rfl rfl rfl rfl) (pmk_B (Classical.choose_spec kS.made).1 GI (hr.mono (by decide)) (by rfl) gcS bI .nil pass0 (pa_cons pe_str pa_nil)))) pss_nil)
      (pss_cons (ps_fld (pv 0) (pv 1) rfl) (pss_one (ps_fld (pv 0) (pv 2) rfl))))), ?_⟩
    have out : ∀ {H1 : Hp}, Same H H1 → okD dc (.tuple []) = false → OutN E cS H1 := fun s1 z H' s' => e z H' (s1.trans s')
    refine ⟨_, rfl, S, c, dc, rfl, ns, hc, sc, fun H1 s1 => ⟨_, rfl, ?_⟩⟩
    cases h1 : codeD 3 dc with
    | false =>
      have z : okD dc (.tuple []) = false := by
        unfold okD
        rw [h1, Bool.false_and]
      exact iteT (mk0 kS (out s1 z))
    | true =>
      refine iteF ?_
      obtain ⟨ds, rfl, rows⟩ := code_tup h1
      refine ⟨_, rfl, S, c, ds, rfl, hc.mv (fun _ z => z) (fun b o _ z => s1 b o z), rows, size h1, fun H2 s2 => ⟨_, rfl, ?_⟩⟩
      have s12 := s1.trans s2
      cases h2 : bndD ds with
      | false =>
        have z : okD (.tuple ds) (.tuple []) = false := by
          unfold okD itemsD
          rw [h2, Bool.false_and, Bool.and_false]
        exact iteT (mk0 kS (out s12 z))
      | true =>
        refine iteF ⟨_, rfl, k0, rfl, hk, fun H3 s3 => ⟨_, rfl, ?_⟩⟩
        have s13 := s12.trans s3
        have h3 : keptD (.tuple []) = true := by decide +kernel
        have z : okD (.tuple ds) (.tuple []) = true := by
          unfold okD itemsD
          rw [h1, h2, h3]
          rfl
        refine iteF ⟨_, rfl, _, rfl, p, C, dx, [], rfl, s13 _ _ hp, T.cl, T.nc, (by show 0 < 1000; decide), _, rfl, _, rfl, p, C, dx, _, rfl, upd_same, T.cl, T.nk, (by show 1 < 1000; decide), ?_⟩
        refine q z _ (fun b o hb eb => ?_) upd_same
        rw [upd_ne hb, upd_ne hb]
        exact s13 b o eb
end
end OM

namespace OM
open PySem PySem.Spec PyProof.Rows L2
abbrev sStretchOf : Stmt := top 39
abbrev sCodeP : Stmt := inStK 38 1
abbrev sAddM : Stmt := inStK 38 11
/-- what the class Stretch must have -/
structure StrC (K : PySem.W.Frag) (mg : Str → Option Value) (C fS aS : Addr) (dS : FuncData) : Prop where
  T : StrT K mg C
  MS : Mk K C fS
  gSt : mg "Stretch" = some (.ref C)
  bS1 : ∃ ds, Vals [V.ref aS] ds ∧ Binds K dS ["self", "code", "keeps"] ds
  emp : Emp K aS
  ha : PySem.W.findIn K (.ref C) "__class__" = some (some (.builtin "object.__class__"))
  hn : PySem.W.specialIn K (.builtin "object.__class__") "__get__" = some (some (.builtin "getset_descriptor.__get__"))
  htk : PySem.W.takesIn K (.builtin "object.__class__") = some true
  hm : PySem.W.mroIn K C (.type "object") = some true
  kit : PySem.W.kitOne K (.ref C) (.ref C) = some true
def insS (C dx : Addr) (c k : V) : HO := .ins C dx [("_code", c), ("_keeps", k)]
def spOf (C : Addr) : Sp := fun vs H Q _ => ∃ c k : V, vs = [c, k] ∧ ∀ H' x dx, Same H H' → H x = none → H' x = some (insS C dx c k) → Q (.ref x) H'
def spAdd (K : PySem.W.Frag) (C : Addr) : Sp := fun vs H Q _ => ∃ (a b dx dy ca cb : Addr) (ka kb : V) (xs ys : List V), vs = [.ref a, .ref b] ∧ H a = some (insS C dx (.ref ca) ka) ∧ H b = some (insS C dy (.ref cb) kb) ∧ H ca = some (.tup xs) ∧ H cb = some (.tup ys) ∧ xs ≠ [] ∧ ys ≠ [] ∧ xs.length + ys.length ≤ sizeLine ∧
  ∀ H' x dz cz, Same H H' → H x = none → H cz = none → H' x = some (insS C dz (.ref cz) kb) → H' cz = some (.tup (xs ++ ys)) → Q (.ref x) H'
section
variable {P : Program} {w : World} {K : PySem.W.Frag} {mg : Str → Option Value} {base : Heap} {f fS fO C cS aS : Addr} {fd dS dO : FuncData}
theorem scOf : FnScope ["code", "keeps", "made"] ["code", "keeps"] (defScope sStretchOf) := ⟨rfl, rfl, rfl, by decide +kernel, rfl, by decide +kernel, by decide +kernel⟩
theorem ok_of (F : Fun K "stretch_of" "stretch_of" sStretchOf f fd) (R : StrC K mg C fS aS dS) (GS : FnOk P w K mg base (L2.CX P w) 15 fS dS ["self", "code", "keeps"] (spSI0 K C cS)) : FnOk P w K mg base CX0 17 f fd ["code", "keeps"] (spOf C) := by
  obtain ⟨dsv, hv, bS⟩ := R.bS1
  refine F.ok scOf (fun vs H Q E h => ?_) (fun cdv A outer s H vs Q E hr h => ?_)
  · obtain ⟨c, k, rfl, _⟩ := h
    rfl
  · obtain ⟨c, k, rfl, q⟩ := h
    refine ⟨_, pss_cons (ps_set (i := 2) scOf.nd rfl (Or.inl rfl) (pe_make R.MS GS hr (by rfl) R.gSt bS hv (passes_call L2.takes0 (fun _ _ _ _ h => h)) (pa_cons (pe_tup pa_nil) pa_nil)))
      (pss_cons (ps_fld (pv 2) (pv 0) rfl) (pss_cons (ps_fld (pv 2) (pv 1) rfl) (pss_one (ps_ret (pv 2))))), ?_⟩
    refine ⟨(by show 0 ≤ sizeLine; decide), fun pt hpt x dx hx hdx ne => ?_⟩
    have s1 := same_upd (o := .tup []) hpt
    have ndx : upd (upd H pt (.tup [])) dx (.own x) x = none := by
      rw [upd_ne (fun z => ne z.symm)]
      exact hx
    have s2 := (same_upd (o := .own x) hdx).trans (same_upd (o := .ins C dx []) ndx)
    refine ⟨fun _ => True, x, dx, aS, .ref pt, .tuple [], rfl, upd_same, .tup trivial (s2 _ _ upd_same) (by decide) .nil, R.emp, by decide +kernel, by decide +kernel, fun _ => by decide +kernel, fun _ H2 b2 e2 => ⟨rfl, ?_⟩, fun z => absurd z (by decide +kernel)⟩
    refine ⟨_, rfl, _, rfl, x, C, dx, _, rfl, e2, R.T.cl, R.T.nc, (by show 2 < 1000; decide), _, rfl, _, rfl, x, C, dx, _, rfl, upd_same, R.T.cl, R.T.nk, (by show 2 < 1000; decide), _, rfl, ?_⟩
    refine q _ x dx (fun b o eo => ?_) (s1.free hx) upd_same
    have nb : b ≠ x := ne_of_none eo (s1.free hx)
    rw [upd_ne nb, upd_ne nb]
    exact b2 b o nb (s2 _ _ (s1 _ _ eo))
theorem scAd : FnScope ["self", "other"] ["self", "other"] (defScope sAddM) := ⟨rfl, rfl, rfl, by decide +kernel, rfl, by decide +kernel, by decide +kernel⟩
theorem ok_add (F : Fun K "__add__" "Stretch.__add__" sAddM f fd) (R : StrC K mg C fS aS dS) (isi : mg "isinstance" = none) (gO : mg "stretch_of" = some (.ref fO)) (kO : PySem.W.keepIn K (.ref fO) = true) (bO : Binds K dO ["code", "keeps"] []) (GO : FnOk P w K mg base CX0 17 fO dO ["code", "keeps"] (spOf C)) :
    FnOk P w K mg base CX0 18 f fd ["self", "other"] (spAdd K C) := by
  refine F.ok scAd (fun vs H Q E h => ?_) (fun cdv A outer s H vs Q E hr h => ?_)
  · obtain ⟨a, b, dx, dy, ca, cb, ka, kb, xs, ys, rfl, _⟩ := h
    rfl
  · obtain ⟨a, b, dx, dy, ca, cb, ka, kb, xs, ys, rfl, ea, eb, eca, ecb, nx, ny, sz, q⟩ := h
    refine ⟨_, pss_cons (ps_if (pt_not (pt_val (pe_callB call_isi (by rfl) isi (by decide +kernel) (pa_cons (pv 1) (pa_cons (pe_glob (v := .ref C) (by rfl) R.gSt rfl) pa_nil))))) pss_never pss_nil)
      (pss_one (ps_ret (pe_call GO hr (by rfl) gO kO bO .nil pass0 (pa_cons (pe_op op_catA (pe_fld (pv 0) rfl) (pe_fld (pv 1) rfl)) (pa_cons (pe_fld (pv 1) rfl) pa_nil))))), ?_⟩
    refine ⟨_, rfl, .ref b, .ref C, .ref C, .ref C, true, rfl, .own C, .base (.ins eb R.T.cl R.ha R.hn R.htk R.hm), R.kit, _, rfl, iteF ?_⟩
    refine ⟨_, rfl, a, C, dx, _, _, rfl, ea, R.T.cl, R.T.nc, rfl, _, rfl, b, C, dy, _, _, rfl, eb, R.T.cl, R.T.nc, rfl, ca, cb, xs, ys, rfl, rfl, SqT.of eca, SqT.of ecb, sz, fun e => absurd e nx, fun _ e => absurd e ny, fun _ _ p hp => ?_⟩
    have sp := same_upd (o := .tup (xs ++ ys)) hp
    refine ⟨_, rfl, b, C, dy, _, _, rfl, sp _ _ eb, R.T.cl, R.T.nk, rfl, .ref p, kb, rfl, fun H' x dz s' nx' e' => ?_⟩
    exact q H' x dz p (sp.trans s') (sp.free nx') hp e' (s' _ _ upd_same)
end
end OM

namespace OM
open PySem PySem.Spec PyProof.Rows L2
section
variable {X : Cx} {k : Nat} {C f : Addr} {fd : FuncData} {sp : Sp}
/-- an own method of a class, as the rules ask for it -/
structure Own (X : Cx) (C f : Addr) (fd : FuncData) (name : Str) (k : Nat) (ps : List Str) (sp : Sp) : Prop where
  hs : PySem.W.findIn X.K (.ref C) name = some (some (.ref f))
  hf : PySem.W.isFn X.K (.ref f) = true
  F : FnOk X.prog X.w X.K X.mg X.base CX0 k f fd ps sp
  hb : Binds X.K fd ps []
theorem bind_at {X : Cx} {fd : FuncData} {ps : List Str} (hb : Binds X.K fd ps []) {pins : List (Addr × Obj)} {σ : L2.St} {H : Hp} {s : Shared} (I : Inv X pins σ H s) (us : List Value) (hl : us.length = ps.length) : BindsTo s fd ⟨us, []⟩ (ps.zip us) := by
  have q := hb s us I.kIn (by rw [List.append_nil]; exact hl)
  rw [List.append_nil] at q
  exact q
/-- len(x), by an own __len__ -/
theorem len_own {p : Str} (O : Own X C f fd "__len__" k [p] sp) (hr : Room (k + 1) X.A) :
    CallR X (.builtin "len") (fun xs H Q => ∃ (a dx : Addr) (fs : List (Str × V)), xs = [.ref a] ∧ H a = some (.ins C dx fs) ∧ sp [.ref a] H (fun v H' => ∃ n : Nat, v = .int n ∧ n < 1000 ∧ Q v H') E0) := by
  intro pins s σ H xs us Q I r h
  obtain ⟨a, dx, fs, rfl, ea, q⟩ := h
  obtain ⟨u, rfl, ru⟩ := vals1 r
  obtain rfl : u = Value.ref a := ru
  obtain ⟨_, Ob, _⟩ := ins_get I.hok ea
  obtain ⟨od, J, _⟩ := Ob.look
  obtain ⟨m, fr⟩ := I.fr
  refine PySem.W.len_K fr I.ok.mod.kin J O.hs O.hf ?_
  refine wpAny_call (codeAny_mono (O.F.run X.A.in1 X.stack s H ⟨[.ref a], []⟩ [.ref a] [.ref a] _ E0 hr.in1 I.env0.in1 (bind_at O.hb I _ rfl) (.cons rfl .nil) q) fun res z' hq => ?_)
  match res, hq with
  | .ok (.ret w), hq =>
    obtain ⟨v, H', I3, rv, ⟨n, er, hn, q3⟩⟩ := I.after hq
    subst er
    obtain ⟨t, rfl⟩ : ∃ t, w = Value.int (n : Int) t := rv
    have h2 : ((1000 : Nat) : Int) < 2 ^ 63 := by decide
    exact ⟨⟨by omega, by omega⟩, .int n, H', I3.tok _, ⟨_, rfl⟩, q3⟩
  | .error er, hq => exact hq.elim
/-- str(x), by an own __str__ -/
theorem str_own {p : Str} (O : Own X C f fd "__str__" k [p] sp) (hr : Room (k + 2) X.A) :
    CallR X (.type "str") (fun xs H Q => ∃ (a dx : Addr) (fs : List (Str × V)), xs = [.ref a] ∧ H a = some (.ins C dx fs) ∧ sp [.ref a] H (fun v H' => ∃ z : Str, v = .str z ∧ Q v H') E0) := by
  intro pins s σ H xs us Q I r h
  obtain ⟨a, dx, fs, rfl, ea, q⟩ := h
  obtain ⟨u, rfl, ru⟩ := vals1 r
  obtain rfl : u = Value.ref a := ru
  obtain ⟨_, Ob, _⟩ := ins_get I.hok ea
  obtain ⟨od, J, _⟩ := Ob.look
  have hu : X.A.in1.in1.units < cLine := by
    have := hr.un
    show X.A.units + 1 + 1 < _
    omega
  refine PySem.W.kso_call hu I.kIn J O.hs O.hf ?_
  refine wpAny_call (codeAny_mono (O.F.run X.A.in1.in1 X.stack s H ⟨[.ref a], []⟩ [.ref a] [.ref a] _ E0 hr.in1.in1 I.env0.in1.in1 (bind_at O.hb I _ rfl) (.cons rfl .nil) q) fun res z' hq => ?_)
  match res, hq with
  | .ok (.ret w), hq =>
    obtain ⟨v, H', I3, rv, ⟨z, er, q3⟩⟩ := I.after hq
    subst er
    obtain ⟨t, rfl⟩ : ∃ t, w = Value.str z t := rv
    exact ⟨.str z, H', I3, ⟨_, rfl⟩, q3⟩
  | .error er, hq => exact hq.elim
/-- x[i], by an own __getitem__ -/
theorem pe_ixOwn {e i : Expr} {pos : Pos} {te ti : TE} (O : Own X C f fd "__getitem__" k ["self", "at"] sp) (hfn : PySem.W.fnIn X.K f = true) (hr : Room (k + 1) X.A) (he : PE X e te) (hi : PE X i ti)
    (hsl : ∀ (a : Addr) (u : Value), subscripted i true (.ref a) u = runValue (.builtin "lifetime.subscript" ⟨[.ref a, u], []⟩) := by intro _ _; with_unfolding_all rfl) :
    PE X (.Subscript e i pos) (tOp (fun x y H Q => ∃ (a dx : Addr) (fs : List (Str × V)), x = .ref a ∧ H a = some (.ins C dx fs) ∧ sp [.ref a, y] H Q E0) te ti) := by
  refine ⟨fun pins s σ H Q I h => ?_⟩
  refine Subscript_ (binT he hi I h fun v u s2 x y H2 I2 rx ry q => ?_)
  obtain ⟨a, dx, fs, rfl, ea, q⟩ := q
  obtain rfl : v = Value.ref a := rx
  obtain ⟨_, Ob, _⟩ := ins_get I2.hok ea
  obtain ⟨od, J, _⟩ := Ob.look
  obtain ⟨m, fr⟩ := I2.fr
  refine PySem.W.sub_K fr I2.ok.mod.kin J O.hs hfn O.hf ?_ (hsl _ _)
  refine wpAny_call (codeAny_mono (O.F.run X.A.in1 X.stack s2 H2 ⟨[.ref a, u], []⟩ [.ref a, u] [.ref a, y] _ E0 hr.in1 I2.env0.in1 (bind_at O.hb I2 _ rfl) (.cons rfl (.cons ry .nil)) q) fun res z' hq => ?_)
  match res, hq with
  | .ok (.ret w), hq => exact I2.after hq
  | .error er, hq => exact hq.elim
/-- y in x, by an own __contains__ that answers a truth -/
theorem in_own {p : Str} (O : Own X C f fd "__contains__" k ["self", p] sp) (hr : Room k X.A) :
    OpR X (compareOp .In) (fun y x H Q => ∃ (a dx : Addr) (fs : List (Str × V)), x = .ref a ∧ H a = some (.ins C dx fs) ∧ sp [.ref a, y] H (fun v H' => ∃ b, v = .bl b ∧ Q v H') E0) := by
  intro pins s σ H y x u v Q I ry rx h
  obtain ⟨a, dx, fs, rfl, ea, q⟩ := h
  obtain rfl : v = Value.ref a := rx
  obtain ⟨_, Ob, _⟩ := ins_get I.hok ea
  obtain ⟨od, J, _⟩ := Ob.look
  obtain ⟨m, fr⟩ := I.fr
  refine PySem.W.in_K fr I.ok.mod.kin J O.hs O.hf ?_
  refine wpAny_call (codeAny_mono (O.F.run X.A X.stack s H ⟨[.ref a, u], []⟩ [.ref a, u] [.ref a, y] _ E0 hr I.env0 (bind_at O.hb I _ rfl) (.cons rfl (.cons ry .nil)) q) fun res z' hq => ?_)
  match res, hq with
  | .ok (.ret w), hq =>
    obtain ⟨r, H', I3, rv, ⟨b, er, q3⟩⟩ := I.after hq
    subst er
    obtain rfl : w = Value.bool b := rv
    exact wpAny_truthy_bool ⟨.bl b, H', I3, rfl, q3⟩
  | .error er, hq => exact hq.elim
/-- what an own == asks: the left one an instance, the right one anything that comes later -/
def rEqOwn (K : PySem.W.Frag) (C : Addr) (sp : Sp) (g : Bool → Bool) : V → V → Hp → VK → Prop := fun x y H Q => ∃ (a dx : Addr) (fs : List (Str × V)) (t : Value), x = .ref a ∧ H a = some (.ins C dx fs) ∧ TyX K H y t ∧ PySem.W.notFirst K C t = true ∧
  sp [.ref a, y] H (fun v H' => ∃ b, v = .bl b ∧ Q (.bl (g b)) H') E0
theorem eq_own (O : Own X C f fd "__eq__" k ["self", "other"] sp) (hr : Room k X.A) : OpR X (compareOp .Eq) (rEqOwn X.K C sp id) := by
  intro pins s σ H x y v u Q I rx ry h
  obtain ⟨a, dx, fs, t, rfl, ea, ty, nf, q⟩ := h
  obtain rfl : v = Value.ref a := rx
  obtain ⟨_, Ob, _⟩ := ins_get I.hok ea
  obtain ⟨od, J, _⟩ := Ob.look
  obtain ⟨m, fr⟩ := I.fr
  obtain ⟨P, Z, p, hx⟩ := kit_of I ry ty
  have hu : X.A.units < cLine := by
    have := hr.un
    omega
  unfold compareOp
  refine PySem.W.cmp_K (op := .Eq) hu fr I.ok.mod.kin J (Z.ty _ _ I.kIn p) nf O.hs O.hf ?_
  refine wpAny_call (codeAny_mono (O.F.run X.A X.stack s H ⟨[.ref a, u], []⟩ [.ref a, u] [.ref a, y] _ E0 hr I.env0 (bind_at O.hb I _ rfl) (.cons rfl (.cons ry .nil)) q) fun res z' hq => ?_)
  match res, hq with
  | .ok (.ret w), hq =>
    obtain ⟨r, H', I3, rv, ⟨b, er, q3⟩⟩ := I.after hq
    subst er
    obtain rfl : w = Value.bool b := rv
    exact ⟨.bl b, H', I3, rfl, q3⟩
  | .error er, hq => exact hq.elim
end
end OM

namespace OM
open PySem PySem.Spec PyProof.Rows L2
section
variable {prog : Program} {w : World} {A : Around} {E : Value → Shared → Prop} {s : Shared} {K : PySem.W.Frag} {x C f : Addr} {ox : Obj} {od : Option Obj} {b tb : Value}
open PySem.W in
/-- object.__ne__ by an own __eq__ -/
theorem objNe_K {Q : Fin → Shared → Prop} (hu : A.units < cLine) (X : K.In s.heap) (I : InstAt s.heap x ox C od) (hs : findIn K (.ref C) "__eq__" = some (some (.ref f))) (hf : isFn K (.ref f) = true)
    (h : wpAny (model prog w) A (call (.ref f) [.ref x, b]) (fun v s' => ∃ r, v = .bool r ∧ Q (.done (.ret (.bool (!r)))) s') E s) : wpAny (model prog w) A (Builtin.«object.__ne__» ⟨[.ref x, b], []⟩) Q E s := by
  unfold Builtin.«object.__ne__»
  repeat (first
    | with_reducible refine wpAny_cRoomFor hu ?_
    | (refine wpAny_bind (m := callSpecialIfBound? (.ref x) (Str.ofString "__eq__") [b])
        (ifBound_K X I hs hf (wpAny_mono h (fun r s' hr => by
          obtain ⟨b, rfl, hq⟩ := hr
          repeat (first | exact hq | exact wpAny_pure hq | exact wpAny_truthy_bool hq | (refine wpAny_bind (m := truthy (.bool _)) (wpAny_truthy_bool ?_)) | wp_step)) fun _ _ e => e)))
    | wp_step)
open PySem.W in
theorem boundNe_K {Q : Option Value → Shared → Prop} (hu : A.units + 1 < cLine) (X : K.In s.heap) (I : InstAt s.heap x ox C od) (hne : findIn K (.ref C) "__ne__" = some (some (.builtin "object.__ne__"))) (hin : mroIn K C (.type "object") = some true)
    (hs : findIn K (.ref C) "__eq__" = some (some (.ref f))) (hf : isFn K (.ref f) = true)
    (h : wpAny (model prog w) A.in1 (call (.ref f) [.ref x, b]) (fun v s' => ∃ r, v = .bool r ∧ Q (some (.bool (!r))) s') E s) : wpAny (model prog w) A (callSpecialIfBound? (.ref x) "__ne__" [b]) Q E s := by
  have hcall : wpAny (model prog w) A (call (.builtin "object.__ne__") (.ref x :: [b])) (fun v => Q (some v)) E s := by
    refine wpAny_call (codeAny_call_builtin F.cmp_object.ne.plain F.cmpEntry_ne (check_slot F.cmpKind_ne F.cmpSplit_ne ?_ (F.cmpArgs_ne _ _) (objNe_K (A := A.in1) hu X I hs hf (wpAny_mono h (fun v s' hv => ?_) fun _ _ e => e))))
    · exact I.type.andThen (looks_mroIn X hin)
    · obtain ⟨r, rfl, hq⟩ := hv
      exact ⟨r, rfl, hq⟩
  simp only [callSpecialIfBound?, bindSpecialIfBound?]
  refine wpAny_holding (wpAny_bind (wpAny_bind (wpAny_bind (I.type.here ((looks_findIn X hne).here ?_)))))
  simp only [F.cmp_object.ne.bind]
  refine wpAny_bind (wpAny_askSetting (wpAny_ite ?_))
  have fin : wpAny (model prog w) A (call (.builtin "object.__ne__") ([.ref x] ++ [b]) >>= fun v => pure (some v)) Q E s := wpAny_bind (wpAny_mono hcall (fun v s' h' => wpAny_pure h') fun _ _ h' => h')
  split
  · exact wpAny_bind (wpAny_pure (wpAny_pure fin))
  · exact wpAny_tryCatch (wpAny_bind (wpAny_pure (wpAny_pure fin)))
open PySem.W in
theorem ne_K {Q : Value → Shared → Prop} (hu : A.units + 1 < cLine) (X : K.In s.heap) (I : InstAt s.heap x ox C od) (hb : Looks (model prog w) s.heap (typeOf b) tb) (hn : notFirst K C tb = true) (hne : findIn K (.ref C) "__ne__" = some (some (.builtin "object.__ne__"))) (hin : mroIn K C (.type "object") = some true)
    (hs : findIn K (.ref C) "__eq__" = some (some (.ref f))) (hf : isFn K (.ref f) = true)
    (h : wpAny (model prog w) A.in1 (call (.ref f) [.ref x, b]) (fun v s' => ∃ r, v = .bool r ∧ Q (.bool (!r)) s') E s) : wpAny (model prog w) A (richCompare .NotEq (.ref x) b) Q E s := by
  have one : wpAny (model prog w) A (tryCompare (.ref x) "__ne__" b) (fun r s' => ∃ v, r = some v ∧ Q v s') E s := by
    unfold tryCompare
    refine wpAny_bind (boundNe_K hu X I hne hin hs hf (wpAny_mono h (fun v s' hv => ?_) fun _ _ e => e))
    obtain ⟨r, rfl, hq⟩ := hv
    exact ⟨r, rfl, wpAny_pure ⟨_, rfl, hq⟩⟩
  unfold richCompare
  simp only [oneThing_ref]
  refine wpAny_holding (wpAny_bind (wpAny_cRoomFor (Nat.lt_of_succ_lt hu) ?_))
  rw [cmpInfo_NotEq]
  dsimp only
  refine wpAny_bind (I.type.here (wpAny_bind (hb.here ?_)))
  split
  · rename_i q
    have e : subIn K tb (.ref C) = some false := by
      rcases Bool.or_eq_true_iff.mp hn with e | e
      · rw [beq_iff_eq.mp e] at q; simp at q
      · exact beq_iff_eq.mp e
    refine wpAny_bind ((looks_subIn X e).here ?_)
    simp only [Bool.false_eq_true, if_false]
    refine wpAny_bind (wpAny_mono one (fun r s' z => ?_) fun _ _ e => e)
    obtain ⟨v, rfl, hq⟩ := z
    exact wpAny_pure hq
  · refine wpAny_bind (wpAny_pure ?_)
    simp only [Bool.false_eq_true, if_false]
    refine wpAny_bind (wpAny_mono one (fun r s' z => ?_) fun _ _ e => e)
    obtain ⟨v, rfl, hq⟩ := z
    exact wpAny_pure hq
end
section
variable {X : Cx} {k : Nat} {C f : Addr} {fd : FuncData} {sp : Sp}
theorem ne_own (O : Own X C f fd "__eq__" k ["self", "other"] sp) (hne : PySem.W.findIn X.K (.ref C) "__ne__" = some (some (.builtin "object.__ne__"))) (hin : PySem.W.mroIn X.K C (.type "object") = some true) (hr : Room (k + 1) X.A) : OpR X (compareOp .NotEq) (rEqOwn X.K C sp not) := by
  intro pins s σ H x y v u Q I rx ry h
  obtain ⟨a, dx, fs, t, rfl, ea, ty, nf, q⟩ := h
  obtain rfl : v = Value.ref a := rx
  obtain ⟨_, Ob, _⟩ := ins_get I.hok ea
  obtain ⟨od, J, _⟩ := Ob.look
  obtain ⟨P, Z, p, hx⟩ := kit_of I ry ty
  have hu : X.A.units + 1 < cLine := by
    have := hr.un
    omega
  unfold compareOp
  refine ne_K hu I.kIn J (Z.ty _ _ I.kIn p) nf hne hin O.hs O.hf ?_
  refine wpAny_call (codeAny_mono (O.F.run X.A.in1 X.stack s H ⟨[.ref a, u], []⟩ [.ref a, u] [.ref a, y] _ E0 hr.in1 I.env0.in1 (bind_at O.hb I _ rfl) (.cons rfl (.cons ry .nil)) q) fun res z' hq => ?_)
  match res, hq with
  | .ok (.ret w), hq =>
    obtain ⟨r, H', I3, rv, ⟨b, er, q3⟩⟩ := I.after hq
    subst er
    obtain rfl : w = Value.bool b := rv
    exact ⟨b, rfl, .bl (!b), H', I3, rfl, q3⟩
  | .error er, hq => exact hq.elim
end
end OM

namespace OM
open PySem PySem.Spec PyProof.Rows L2
abbrev sCellsP : Stmt := inStK 38 3
abbrev sRegsP : Stmt := inStK 38 4
abbrev sFunsP : Stmt := inStK 38 5
abbrev sTestsP : Stmt := inStK 38 6
abbrev sStraightP : Stmt := inStK 38 7
abbrev sSizeP : Stmt := inStK 38 8
abbrev sKeeping : Stmt := inStK 38 10
abbrev sLenM : Stmt := inStK 38 14
/-- a stretch as it stands -/
def StI (K : PySem.W.Frag) (C : Addr) (H : Hp) (a : Addr) (ds : List PyData) (ks : List Str) : Prop :=
  ∃ (dx kb : Addr) (c : V), H a = some (insS C dx c (.ref kb)) ∧ Dt (fun _ => True) H c (.tuple ds) ∧ SqT K H kb (ks.map V.str) ∧ ds.all (rowD (cdOf 3)) = true ∧ (flatN 3 ds).length ≤ 100 ∧ keptD (strT ks) = true
theorem kept_len {ks : List Str} (h : keptD (strT ks) = true) : ks.length ≤ 4 := by
  have h : (setD (strT ks) && decide ((ks.map PyData.str).length ≤ 4)) = true := h
  rw [Bool.and_eq_true, decide_eq_true_eq, List.length_map] at h
  exact h.2
theorem StI.mv {K : PySem.W.Frag} {C : Addr} {H H' : Hp} {a : Addr} {ds : List PyData} {ks : List Str} (h : StI K C H a ds ks) (s : Same H H') : StI K C H' a ds ks := by
  obtain ⟨dx, kb, c, e, d, k, r, z, l⟩ := h
  exact ⟨dx, kb, c, s _ _ e, d.mv (fun _ z => z) fun b o _ z => s b o z, L2.SqT.ext k s, r, z, l⟩
def rolesS (role : Str) (ds : List PyData) : List Str := (flatN 3 ds).flatMap (namesD role)
def spRole (K : PySem.W.Frag) (C : Addr) (g : List PyData → List Str → List Str) : Sp := fun vs H Q _ => ∃ (a : Addr) (ds : List PyData) (ks : List Str), vs = [.ref a] ∧ StI K C H a ds ks ∧
  ∀ H' v, Same H H' → Dt (fun _ => True) H' v (strT (canon (g ds ks))) → Q v H'
def isIf : PyData → Bool
  | .tuple (.str w :: _) => decide (w = "if")
  | _ => false
def straightD (ds : List PyData) : Bool := ds.all fun d => !isIf d
def spTell (K : PySem.W.Frag) (C : Addr) (g : List PyData → V) : Sp := fun vs H Q _ => ∃ (a : Addr) (ds : List PyData) (ks : List Str), vs = [.ref a] ∧ StI K C H a ds ks ∧ ∀ H', Same H H' → Q (g ds) H'
theorem dt_strT {H : Hp} {p : Addr} {ys : List Str} (e : H p = some (.tup (ys.map V.str))) (hl : ys.length ≤ 1000) : Dt (fun _ => True) H (.ref p) (strT ys) := .tup trivial e (by rw [List.length_map]; exact hl) (dt_ofStrs ys)
theorem roles_few {role : Str} {ds : List PyData} (rows : ds.all (rowD (cdOf 3)) = true) (size : (flatN 3 ds).length ≤ 100) : (rolesS role ds).length ≤ 800 := by
  have l2 : (rolesS role ds).length ≤ 8 * (flatN 3 ds).length := flatMap_few fun e he => by
    obtain ⟨d1, hd1, hm1⟩ := List.mem_flatMap.mp he
    obtain ⟨m1, row1⟩ := rows_flatS (List.all_eq_true.mp rows d1 hd1) e hm1
    exact names_few row1
  omega
section
variable {P : Program} {w : World} {K : PySem.W.Frag} {mg : Str → Option Value} {base : Heap} {f fN C : Addr} {fd dN : FuncData}
theorem scRole {st : Stmt} (h : st = sCellsP ∨ st = sFunsP ∨ st = sTestsP) : FnScope ["self"] ["self"] (defScope st) := by
  rcases h with rfl | rfl | rfl <;> exact ⟨rfl, rfl, rfl, by decide +kernel, rfl, by decide +kernel, by decide +kernel⟩
theorem scRegs : FnScope ["self"] ["self"] (defScope sRegsP) := ⟨rfl, rfl, rfl, by decide +kernel, rfl, by decide +kernel, by decide +kernel⟩
section
variable (T : StrT K mg C) (gN : mg "names_in" = some (.ref fN)) (kN : PySem.W.keepIn K (.ref fN) = true) (bN : Binds K dN ["code", "role"] []) (GN : FnOk P w K mg base CX0 6 fN dN ["code", "role"] spNamesIn)
include T gN kN bN GN
theorem ok_cellsP (F : Fun K "cells" "Stretch.cells" sCellsP f fd) : FnOk P w K mg base CX0 7 f fd ["self"] (spRole K C fun ds _ => rolesS "cell" ds) := by
  refine F.ok (scRole (.inl rfl)) (fun vs H Q E h => ?_) (fun cdv A outer s H vs Q E hr h => ?_)
  · obtain ⟨a, ds, ks, rfl, _⟩ := h
    rfl
  · obtain ⟨a, ds, ks, rfl, ⟨dx, kb, c, ea, hd, hk, rows, size, lk⟩, q⟩ := h
    refine ⟨_, pss_one (ps_ret (pe_call GN hr (by rfl) gN kN bN .nil pass0 (pa_cons (pe_fld (pv 0) rfl) (pa_cons pe_str pa_nil)))), ?_⟩
    refine ⟨_, rfl, a, C, dx, _, c, rfl, ea, T.cl, T.nc, rfl, _, c, ds, "cell", rfl, by decide +kernel, hd, rows, Nat.le_trans size (by decide), fun H1 p ys s1 hp e1 pm so => ?_⟩
    have hy : ys = canon (rolesS "cell" ds) := IsSet.canon ⟨so, pm⟩
    have few := roles_few (role := "cell") rows size
    have l1 := pm.length_eq
    have l2 := len_firsts (rolesS "cell" ds) []
    refine q H1 _ s1 ?_
    rw [← hy]
    refine dt_strT e1 ?_
    have l3 : ys.length = (firsts [] (rolesS "cell" ds)).length := l1
    simp only [List.length_nil] at l2
    omega
theorem ok_funsP (F : Fun K "functions" "Stretch.functions" sFunsP f fd) : FnOk P w K mg base CX0 7 f fd ["self"] (spRole K C fun ds _ => rolesS "function" ds) := by
  refine F.ok (scRole (.inr (.inl rfl))) (fun vs H Q E h => ?_) (fun cdv A outer s H vs Q E hr h => ?_)
  · obtain ⟨a, ds, ks, rfl, _⟩ := h
    rfl
  · obtain ⟨a, ds, ks, rfl, ⟨dx, kb, c, ea, hd, hk, rows, size, lk⟩, q⟩ := h
    refine ⟨_, pss_one (ps_ret (pe_call GN hr (by rfl) gN kN bN .nil pass0 (pa_cons (pe_fld (pv 0) rfl) (pa_cons pe_str pa_nil)))), ?_⟩
    refine ⟨_, rfl, a, C, dx, _, c, rfl, ea, T.cl, T.nc, rfl, _, c, ds, "function", rfl, by decide +kernel, hd, rows, Nat.le_trans size (by decide), fun H1 p ys s1 hp e1 pm so => ?_⟩
    have hy : ys = canon (rolesS "function" ds) := IsSet.canon ⟨so, pm⟩
    have few := roles_few (role := "function") rows size
    have l1 := pm.length_eq
    have l2 := len_firsts (rolesS "function" ds) []
    refine q H1 _ s1 ?_
    rw [← hy]
    refine dt_strT e1 ?_
    have l3 : ys.length = (firsts [] (rolesS "function" ds)).length := l1
    simp only [List.length_nil] at l2
    omega
theorem ok_regsP (TS : TxtS mg) (hs : mg "set" = none) (F : Fun K "registers" "Stretch.registers" sRegsP f fd) : FnOk P w K mg base CX0 7 f fd ["self"] (spRole K C fun ds ks => ks ++ rolesS "register" ds) := by
  refine F.ok scRegs (fun vs H Q E h => ?_) (fun cdv A outer s H vs Q E hr h => ?_)
  · obtain ⟨a, ds, ks, rfl, _⟩ := h
    rfl
  · obtain ⟨a, ds, ks, rfl, ⟨dx, kb, c, ea, hd, hk, rows, size, lk⟩, q⟩ := h
    refine ⟨_, pss_one (ps_ret (pe_callTy call_tuple_of (by rfl) TS.tuple (by decide +kernel) (pa_cons (pe_callB (cr_sortX rfl) (by rfl) TS.sorted (by decide +kernel) (pa_cons (pe_callTy (cr_setX rfl) (by rfl) hs (by decide +kernel)
      (pa_cons (pe_op op_catA (pe_call GN hr (by rfl) gN kN bN .nil pass0 (pa_cons (pe_fld (pv 0) rfl) (pa_cons pe_str pa_nil))) (pe_fld (pv 0) rfl)) pa_nil)) pa_nil)) pa_nil))), ?_⟩
    refine ⟨_, rfl, a, C, dx, _, c, rfl, ea, T.cl, T.nc, rfl, _, c, ds, "register", rfl, by decide +kernel, hd, rows, Nat.le_trans size (by decide), fun H1 p ys s1 hp e1 pm so => ?_⟩
    have few := roles_few (role := "register") rows size
    have lk := kept_len lk
    have l1 : ys.length = (firsts [] (rolesS "register" ds)).length := pm.length_eq
    have l2 := len_firsts (rolesS "register" ds) []
    simp only [List.length_nil] at l2
    have line : (100000 : Nat) < sizeLine := by decide
    have fin : ∀ (p2 : Addr) (H2 : Hp), Same H H2 → SqT K H2 p2 ((ys ++ ks).map V.str) → rSetX K w [.ref p2] H2 (fun x H3 => rSortX w [x] H3 fun y H4 => rTupO K [y] H4 Q) := fun p2 H2 s2 e2 => by
      refine ⟨p2, ys ++ ks, rfl, .inr e2, ?_, fun p3 hp3 => ⟨p3, _, rfl, upd_same, fun zs p4 pm2 so2 hp4 => ⟨p4, _, rfl, .inl ⟨SqL.of upd_same, fun p5 hp5 => ?_⟩⟩⟩⟩
      · show (ys ++ ks).length < 4096
        rw [List.length_append]
        omega
      · have t3 := same_upd (o := SetTO w p3 (firsts [] (ys ++ ks))) hp3
        have t4 := same_upd (o := .lst (zs.map V.str)) hp4
        have t5 := same_upd (o := .tup (zs.map V.str)) hp5
        have hz : zs = canon (ys ++ ks) := IsSet.canon ⟨so2, pm2⟩
        have hc : canon (ys ++ ks) = canon (ks ++ rolesS "register" ds) := canon_congr fun x => by
          rw [List.mem_append, List.mem_append, pm.mem_iff, mem_firsts]
          show (x ∈ [] ∨ x ∈ rolesS "register" ds) ∨ x ∈ ks ↔ _
          simp [or_comm]
        refine q _ _ (((s2.trans t3).trans t4).trans t5) ?_
        show Dt _ _ _ (strT (canon (ks ++ rolesS "register" ds)))
        rw [← hc, ← hz]
        refine dt_strT upd_same ?_
        have l5 := pm2.length_eq
        have l6 := len_firsts (ys ++ ks) []
        rw [List.length_append] at l6
        simp only [List.length_nil] at l6
        omega
    refine ⟨_, rfl, a, C, dx, _, _, rfl, s1 _ _ ea, T.cl, T.nk, rfl, p, kb, _, _, rfl, rfl, SqT.of e1, L2.SqT.ext hk s1, by rw [List.length_map, List.length_map]; omega, fun z1 => ?_, fun z1 z2 => ?_, fun z1 z2 pc hpc => ?_⟩
    · rw [List.map_eq_nil_iff.mp z1] at fin
      exact fin kb H1 s1 (by simpa using L2.SqT.ext hk s1)
    · have z2 := List.map_eq_nil_iff.mp z2
      refine fin p H1 s1 ?_
      rw [z2, List.append_nil]
      exact SqT.of e1
    · have tc := same_upd (o := .tup (ys.map V.str ++ ks.map V.str)) hpc
      refine fin pc _ (s1.trans tc) (SqT.of ?_)
      rw [upd_same, List.map_append]
end
end
end OM

namespace OM
open PySem PySem.Spec PyProof.Rows L2
abbrev sNumber : Stmt := top 12
abbrev sWhole : Stmt := top 13
abbrev sGetItem : Stmt := inStK 38 12
abbrev sContains : Stmt := inStK 38 15
abbrev sEqM : Stmt := inStK 38 16
abbrev sStrM : Stmt := inStK 38 17
theorem code_dp {K : PySem.W.Frag} {S : Addr → Prop} {H : Hp} {v : V} {ds : List PyData} (rows : ds.all (rowD (cdOf 3)) = true) (h : Dt S H v (.tuple ds)) : Dp K H v (.tuple ds) ∧ SeqAt.shaped (.tuple ds) = true :=
  ⟨h.dp (rows_pure rows), code_shaped rows (code_small rows).1⟩
def spWhole : Sp := fun vs H Q _ => ∃ i : Int, vs = [.int i] ∧ ∀ H', Same H H' → Q (.bl true) H'
def spNumber : Sp := fun vs H Q _ => ∃ i lo hi : Int, vs = [.int i, .int lo, .int hi] ∧ lo ≤ i ∧ i ≤ hi ∧ ∀ H', Same H H' → Q (.bl true) H'
def spGetItem (K : PySem.W.Frag) (C : Addr) : Sp := fun vs H Q _ => ∃ (a : Addr) (ds : List PyData) (ks : List Str) (i : Nat) (d : PyData), vs = [.ref a, .int (i : Int)] ∧ StI K C H a ds ks ∧ ds[i]? = some d ∧ ∀ H' v, Same H H' → Dt (fun _ => True) H' v d → Q v H'
section
variable {P : Program} {w : World} {K : PySem.W.Frag} {mg : Str → Option Value} {base : Heap} {f fF fW fN fO fK C : Addr} {fd dF dW dN dO dK : FuncData}
theorem scSelf {st : Stmt} (h : st = sSizeP ∨ st = sLenM ∨ st = sStrM) : FnScope ["self"] ["self"] (defScope st) := by
  rcases h with rfl | rfl | rfl <;> exact ⟨rfl, rfl, rfl, by decide +kernel, rfl, by decide +kernel, by decide +kernel⟩
theorem ok_sizeP (F : Fun K "size" "Stretch.size" sSizeP f fd) (T : StrT K mg C) (ln : mg "len" = none) (gF : mg "flattened" = some (.ref fF)) (kF : PySem.W.keepIn K (.ref fF) = true) (bF : Binds K dF ["code"] []) (GF : FnOk P w K mg base CX0 5 fF dF ["code"] (spFlatAt 4)) :
    FnOk P w K mg base CX0 6 f fd ["self"] (spTell K C fun ds => .int ((flatN 3 ds).length : Nat)) := by
  refine F.ok (scSelf (.inl rfl)) (fun vs H Q E h => ?_) (fun cdv A outer s H vs Q E hr h => ?_)
  · obtain ⟨a, ds, ks, rfl, _⟩ := h
    rfl
  · obtain ⟨a, ds, ks, rfl, ⟨dx, kb, c, ea, hd, hk, rows, size, lk⟩, q⟩ := h
    refine ⟨_, pss_one (ps_ret (pe_callB call_len_seq (by rfl) ln PySem.boot_len (pa_cons (pe_call GF hr (by rfl) gF kF bF .nil pass0 (pa_cons (pe_fld (pv 0) rfl) pa_nil)) pa_nil))), ?_⟩
    refine ⟨_, rfl, a, C, dx, _, c, rfl, ea, T.cl, T.nc, rfl, _, c, ds, rfl, hd, rows, Nat.le_trans size (by decide), fun H1 p xs s1 hp e1 d1 => ⟨p, xs, rfl, .inl (SqL.of e1), ?_⟩⟩
    rw [d1.length]
    exact q H1 s1
theorem ok_lenM (F : Fun K "__len__" "Stretch.__len__" sLenM f fd) (T : StrT K mg C) (ln : mg "len" = none) : FnOk P w K mg base CX0 1 f fd ["self"] (spTell K C fun ds => .int (ds.length : Nat)) := by
  refine F.ok (scSelf (.inr (.inl rfl))) (fun vs H Q E h => ?_) (fun cdv A outer s H vs Q E hr h => ?_)
  · obtain ⟨a, ds, ks, rfl, _⟩ := h
    rfl
  · obtain ⟨a, ds, ks, rfl, ⟨dx, kb, c, ea, hd, hk, rows, size, lk⟩, q⟩ := h
    refine ⟨_, pss_one (ps_ret (pe_callB call_len_seq (by rfl) ln PySem.boot_len (pa_cons (pe_fld (pv 0) rfl) pa_nil))), ?_⟩
    obtain ⟨b, xs, rfl, eb, hl, hx⟩ := hd.tup_of
    refine ⟨_, rfl, a, C, dx, _, _, rfl, ea, T.cl, T.nc, rfl, b, xs, rfl, .inr (SqT.of eb), ?_⟩
    rw [hx.length]
    exact q H (Same.refl H)
theorem scWh : FnScope ["value"] ["value"] (defScope sWhole) := ⟨rfl, rfl, rfl, by decide +kernel, rfl, by decide +kernel, by decide +kernel⟩
theorem ok_whole (F : Fun K "is_whole" "is_whole" sWhole f fd) (isi : mg "isinstance" = none) (it : mg "int" = none) (bo : mg "bool" = none) : FnOk P w K mg base CX0 1 f fd ["value"] spWhole := by
  refine F.ok scWh (fun vs H Q E h => ?_) (fun cdv A outer s H vs Q E hr h => ?_)
  · obtain ⟨i, rfl, _⟩ := h
    rfl
  · obtain ⟨i, rfl, q⟩ := h
    refine ⟨_, pss_one (ps_ret (pe_and (pe_callB call_isi (by rfl) isi (by decide +kernel) (pa_cons (pv 0) (pa_cons (pe_bltn (v := .ty "int") (u := .type "int") (by rfl) it (by decide +kernel) rfl) pa_nil)))
      (pe_one (pe_not (pe_callB call_isi (by rfl) isi (by decide +kernel) (pa_cons (pv 0) (pa_cons (pe_bltn (v := .ty "bool") (u := .type "bool") (by rfl) bo (by decide +kernel) rfl) pa_nil))))))), ?_⟩
    refine isi_te (x := .int i) rfl (Dt.tyx (S := fun _ => True) (.at (.int i))) (r := true) (show kitB "int" "int" = some true by decide +kernel) ⟨_, rfl, iteT ?_⟩
    refine isi_te (x := .int i) rfl (Dt.tyx (S := fun _ => True) (.at (.int i))) (r := false) (show kitB "int" "bool" = some false by decide +kernel) ⟨_, rfl, q H (Same.refl H)⟩
theorem scNu : FnScope ["value", "low", "high"] ["value", "low", "high"] (defScope sNumber) := ⟨rfl, rfl, rfl, by decide +kernel, rfl, by decide +kernel, by decide +kernel⟩
theorem ok_number (F : Fun K "is_number" "is_number" sNumber f fd) (gW : mg "is_whole" = some (.ref fW)) (kW : PySem.W.keepIn K (.ref fW) = true) (bW : Binds K dW ["value"] []) (GW : FnOk P w K mg base CX0 1 fW dW ["value"] spWhole) : FnOk P w K mg base CX0 2 f fd ["value", "low", "high"] spNumber := by
  refine F.ok scNu (fun vs H Q E h => ?_) (fun cdv A outer s H vs Q E hr h => ?_)
  · obtain ⟨i, lo, hi, rfl, _⟩ := h
    rfl
  · obtain ⟨i, lo, hi, rfl, h1, h2, q⟩ := h
    refine ⟨_, pss_one (ps_ret (pe_and (pe_call GW hr (by rfl) gW kW bW .nil pass0 (pa_cons (pv 0) pa_nil)) (pe_one (pe_chain op_le op_le (pv 1) (pv 0) (pv 2))))), ?_⟩
    refine ⟨_, rfl, i, rfl, fun H1 s1 => ⟨_, rfl, iteT ?_⟩⟩
    refine ⟨_, rfl, _, rfl, lo, i, rfl, rfl, _, rfl, ?_⟩
    rw [decide_eq_true h1]
    refine iteT ⟨_, rfl, i, hi, rfl, rfl, ?_⟩
    show Q (.bl (decide (i ≤ hi))) H1
    rw [decide_eq_true h2]
    exact q _ s1
theorem scGI : FnScope ["self", "at"] ["self", "at"] (defScope sGetItem) := ⟨rfl, rfl, rfl, by decide +kernel, rfl, by decide +kernel, by decide +kernel⟩
theorem ok_getitem (F : Fun K "__getitem__" "Stretch.__getitem__" sGetItem f fd) (T : StrT K mg C) (ln : mg "len" = none) (gN : mg "is_number" = some (.ref fN)) (kN : PySem.W.keepIn K (.ref fN) = true) (bN : Binds K dN ["value", "low", "high"] []) (GN : FnOk P w K mg base CX0 2 fN dN ["value", "low", "high"] spNumber) :
    FnOk P w K mg base CX0 3 f fd ["self", "at"] (spGetItem K C) := by
  refine F.ok scGI (fun vs H Q E h => ?_) (fun cdv A outer s H vs Q E hr h => ?_)
  · obtain ⟨a, ds, ks, i, d, rfl, _⟩ := h
    rfl
  · obtain ⟨a, ds, ks, i, d, rfl, ⟨dx, kb, c, ea, hd, hk, rows, size, lk⟩, hi, q⟩ := h
    refine ⟨_, pss_cons (ps_if (pt_not (pt_val (pe_call GN hr (by rfl) gN kN bN .nil pass0 (pa_cons (pv 1) (pa_cons pe_int (pa_cons (pe_op op_sub (pe_callB call_len_seq (by rfl) ln PySem.boot_len (pa_cons (pe_fld (pv 0) rfl) pa_nil)) pe_int) pa_nil)))))) pss_never pss_nil)
      (pss_one (ps_ret (pe_ix ix_tup (pe_fld (pv 0) rfl) (pv 1) (fun _ _ => rfl)))), ?_⟩
    obtain ⟨b, xs, rfl, eb, hl, hx⟩ := hd.tup_of
    have lx := hx.length
    have li : i < ds.length := (List.getElem?_eq_some_iff.mp hi).1
    obtain ⟨x, hxi, hdx⟩ := hx.get' hi
    refine ⟨_, rfl, _, rfl, a, C, dx, _, _, rfl, ea, T.cl, T.nc, rfl, b, xs, rfl, .inr (SqT.of eb), _, _, rfl, rfl, (i : Int), 0, (xs.length : Int) - 1, rfl, by omega, by omega, fun H1 s1 => ⟨_, rfl, iteF ?_⟩⟩
    refine ⟨_, rfl, a, C, dx, _, _, rfl, s1 _ _ ea, T.cl, T.nc, rfl, _, rfl, b, xs, (i : Int), x, rfl, rfl, SqT.of (s1 _ _ eb), atI_nat hxi, q H1 x s1 (hdx.mv (fun _ z => z) fun b o _ z => s1 b o z)⟩
end
/-- own == : code and kept registers -/
def spEqM (K : PySem.W.Frag) (C : Addr) : Sp := fun vs H Q _ => ∃ (a : Addr) (ds : List PyData) (ks : List Str) (y : V), vs = [.ref a, y] ∧ StI K C H a ds ks ∧
  ((∃ (b : Addr) (es : List PyData) (ls : List Str), y = .ref b ∧ StI K C H b es ls ∧ ∀ H', Same H H' → Q (.bl (PyData.eqv (.tuple ds) (.tuple es) && PyData.eqv (strT ks) (strT ls))) H') ∨
    (∃ t : Value, TyX K H y t ∧ PySem.W.kitOne K t (.ref C) = some false ∧ ∀ H', Same H H' → Q (.bl false) H'))
theorem keeps_sh {ks : List Str} (h : keptD (strT ks) = true) : pureD (strT ks) = true ∧ smlD (strT ks) = true ∧ (strT ks).weight ≤ 36 ∧ SeqAt.shaped (strT ks) = true := by
  have h0 := kept_len h
  have h : (setD (strT ks) && decide ((ks.map PyData.str).length ≤ 4)) = true := h
  have h1 : setD (strT ks) = true := (Bool.and_eq_true_iff.mp h).1
  have h2 : (ks.map PyData.str).all isNameD = true := (Bool.and_eq_true_iff.mp h1).1
  obtain ⟨a, b⟩ := names_pure h2
  obtain ⟨c, e⟩ := all_small (m := 8) fun x hx => name_small (List.all_eq_true.mp h2 x hx)
  rw [List.length_map] at e
  have p : pureD (strT ks) = true := pure_tup a
  have sm : smlD (strT ks) = true := (sml_tup _).trans c
  refine ⟨p, sm, ?_, ?_⟩
  · show (PyData.tuple (ks.map PyData.str)).weight ≤ 36
    rw [weight_tup]
    omega
  · have q := lay_pure (strT ks) p sm
    show (PyData.canLay0 (strT ks) && decide ((strT ks).depth ≤ 64)) = true
    rw [q, decide_eq_true (show (strT ks).depth ≤ 64 by unfold strT; rw [dep_tup, b]; decide)]
    rfl
theorem dp_strs {K : PySem.W.Frag} {H : Hp} : ∀ l : List Str, DpAll K H (l.map V.str) (l.map PyData.str)
  | [] => .nil
  | x :: l => .cons (.str x) (dp_strs l)
section
variable {P : Program} {w : World} {K : PySem.W.Frag} {mg : Str → Option Value} {base : Heap} {f fE fC fO fK C : Addr} {fd dE dC dO dK : FuncData}
theorem scEqM : FnScope ["self", "other"] ["self", "other"] (defScope sEqM) := ⟨rfl, rfl, rfl, by decide +kernel, rfl, by decide +kernel, by decide +kernel⟩
theorem ok_eqM {fS aS : Addr} {dS : FuncData} (F : Fun K "__eq__" "Stretch.__eq__" sEqM f fd) (R : StrC K mg C fS aS dS) (isi : mg "isinstance" = none) : FnOk P w K mg base CX0 1 f fd ["self", "other"] (spEqM K C) := by
  refine F.ok scEqM (fun vs H Q E h => ?_) (fun cdv A outer s H vs Q E hr h => ?_)
  · obtain ⟨a, ds, ks, y, rfl, _⟩ := h
    rfl
  · obtain ⟨a, ds, ks, y, rfl, ⟨dx, kb, c, ea, hd, hk, rows, size, lk⟩, q⟩ := h
    have un := hr.un
    have hu : (A.deeper (envOfC "Stretch.__eq__" (defScope sEqM) s.heap.objs.size f cdv)).units + 64 < cLine := by omega
    refine ⟨_, pss_one (ps_ret (pe_and (pe_callB call_isi (by rfl) isi (by decide +kernel) (pa_cons (pv 1) (pa_cons (pe_glob (v := .ref C) (by rfl) R.gSt rfl) pa_nil)))
      (pe_and (pe_cmpR (op_eqD hu) (pe_fld (pv 0) rfl) (pe_fld (pv 1) rfl) (nomark _)) (pe_one (pe_cmpR (op_eqD hu) (pe_fld (pv 0) rfl) (pe_fld (pv 1) rfl) (nomark _)))))), ?_⟩
    obtain ⟨dp1, sh1⟩ := code_dp (K := K) rows hd
    rcases q with ⟨b, es, ls, rfl, ⟨dy, lb, c2, eb, hd2, hk2, rows2, size2, lk2⟩, q⟩ | ⟨t, ty, no, q⟩
    · obtain ⟨dp2, sh2⟩ := code_dp (K := K) rows2 hd2
      refine ⟨_, rfl, .ref b, .ref C, .ref C, .ref C, true, rfl, .own C, .base (.ins eb R.T.cl R.ha R.hn R.htk R.hm), R.kit, _, rfl, iteT ?_⟩
      refine ⟨_, rfl, a, C, dx, _, c, rfl, ea, R.T.cl, R.T.nc, rfl, _, rfl, b, C, dy, _, c2, rfl, eb, R.T.cl, R.T.nc, rfl, .tuple ds, .tuple es, dp1, dp2, sh1, sh2, _, rfl, ?_⟩
      have q := q H (Same.refl H)
      refine ite2 (fun k1 => ?_) (fun k1 => ?_)
      · rw [k1, Bool.true_and] at q
        exact ⟨_, rfl, a, C, dx, _, .ref kb, rfl, ea, R.T.cl, R.T.nk, rfl, _, rfl, b, C, dy, _, .ref lb, rfl, eb, R.T.cl, R.T.nk, rfl, strT ks, strT ls, .tup hk (dp_strs ks), .tup hk2 (dp_strs ls), (keeps_sh lk).2.2.2, (keeps_sh lk2).2.2.2, q⟩
      · rw [Bool.eq_false_iff.mpr k1, Bool.false_and] at q
        exact q
    · refine ⟨_, rfl, y, .ref C, t, .ref C, false, rfl, .own C, ty, no, _, rfl, iteF ?_⟩
      exact q H (Same.refl H)
def spContains (K : PySem.W.Frag) (C : Addr) : Sp := fun vs H Q _ => ∃ (a : Addr) (ds : List PyData) (ks : List Str) (y : V), vs = [.ref a, y] ∧ StI K C H a ds ks ∧
  ((∃ x : Str, y = .str x ∧ ∀ H', Same H H' → Q (.bl ((canon (rolesS "cell" ds)).contains x)) H') ∨ (∃ d : PyData, Dt (fun _ => True) H y d ∧ (∀ z, d ≠ .str z) ∧ ∀ H', Same H H' → Q (.bl false) H') ∨
    (∃ (b : Addr) (es : List PyData) (ls : List Str), y = .ref b ∧ StI K C H b es ls ∧ ∀ H', Same H H' → Q (.bl false) H'))
theorem inV_strs (x : Str) : ∀ l : List Str, inV (.str x) (l.map V.str) = l.contains x
  | [] => rfl
  | y :: l => by
    have h := inV_strs x l
    unfold inV at h ⊢
    rw [List.map_cons, List.any_cons, h, List.contains_cons]
    congr 1
    show (y == x) = (x == y)
    rw [Bool.eq_iff_iff, beq_iff_eq, beq_iff_eq, eq_comm]
theorem scCn : FnScope ["self", "x"] ["self", "x"] (defScope sContains) := ⟨rfl, rfl, rfl, by decide +kernel, rfl, by decide +kernel, by decide +kernel⟩
end
end OM

namespace OM
open PySem PySem.Spec PyProof.Rows L2
def PropM (P : Program) (w : World) (K : PySem.W.Frag) (mg : Str → Option Value) (base : Heap) (C : Addr) (name : Str) (k : Nat) (sp : Sp) : Prop := ∃ (p g : Addr) (d : FuncData), PropOf K C name p g ∧ FnOk P w K mg base CX0 k g d ["self"] sp ∧ Binds K d ["self"] []
abbrev sThr : Stmt := top 45
abbrev sChk : Stmt := top 59
abbrev sWrC : Stmt := top 50
abbrev sChS : Stmt := top 47
abbrev sWrS : Stmt := top 51
/-- what a thread takes -/
structure ThrOk (ds : List PyData) : Prop where
  rows : ds.all (rowD (cdOf 3)) = true
  few : (flatN 3 ds).length ≤ 60
  iff : mostN 3 "if" ds ≤ 6
  st : mostN 3 "set" ds ≤ 6
theorem NearOk.thr {C : Prop} {e : List PyData} (h : NearOk C e) : ThrOk e := by
  have m : ∀ k, mostN 3 k e ≤ W (ownD k) 3 e := fun k => (most_sum k 3).2 e
  exact ⟨h.rows, Nat.le_trans h.few (by decide), Nat.le_trans (m _) (Nat.le_trans h.iff (by decide)), Nat.le_trans (m _) (Nat.le_trans h.st (by decide))⟩
theorem ThrOk.size {ds : List PyData} (h : ThrOk ds) : (wssN 3 ds).length ≤ 180 := by
  have := code_lines h.rows
  have := h.few
  omega
theorem rows_small {ds : List PyData} (h : ds.all (rowD (cdOf 3)) = true) : smlAll ds = true :=
  (all_small (m := PyData.weightAll ds) fun d hd => ⟨(row_small 3 d (List.all_eq_true.mp h d hd)).1, by
    clear h
    induction ds with
    | nil => cases hd
    | cons x r ih =>
      rw [weightAll_cons]
      rcases List.mem_cons.mp hd with rfl | hd
      · omega
      · have := ih hd
        omega⟩).1
/-- code with show, at a depth -/
def spThr : Sp := fun vs H Q _ => ∃ (v : V) (ds : List PyData), vs = [v] ∧ Dt (fun _ => True) H v (.tuple ds) ∧ ThrOk ds ∧ ∀ H', Same H H' → Q (.bl true) H'
def spChk : Sp := fun vs H Q _ => ∃ (v : V) (ds : List PyData), vs = [v] ∧ Dt (fun _ => True) H v (.tuple ds) ∧ ThrOk ds ∧ ∀ H', Same H H' → Q .non H'
def spWrC : Sp := fun vs H Q _ => ∃ (v : V) (ds : List PyData), vs = [v] ∧ Dt (fun _ => True) H v (.tuple ds) ∧ ThrOk ds ∧ ∀ H', Same H H' → Q (.str (linesT (wssN 3 ds))) H'
def spChS (C : Addr) : Sp := fun vs H Q _ => ∃ (a dx : Addr) (fs : List (Str × V)), vs = [.ref a] ∧ H a = some (.ins C dx fs) ∧ Q .non H
/-- the lines of a stretch -/
def wssT (ds : List PyData) (ks : List Str) : List (List Str) := (("keeps" : Str) :: ks) :: wssN 3 ds
def spWrS (K : PySem.W.Frag) (C : Addr) : Sp := fun vs H Q _ => ∃ (a dx kb : Addr) (c : V) (ds : List PyData) (ks : List Str), vs = [.ref a] ∧ H a = some (insS C dx c (.ref kb)) ∧ Dt (fun _ => True) H c (.tuple ds) ∧ SqT K H kb (ks.map V.str) ∧ ds.all (rowD (cdOf 3)) = true ∧ (flatN 3 ds).length ≤ 100 ∧ keptD (strT ks) = true ∧
  ∀ H', Same H H' → Q (.str (linesT (wssT ds ks))) H'
theorem kept_ws {ks : List Str} (h : keptD (strT ks) = true) : WsOk (("keeps" : Str) :: ks) := by
  have l := kept_len h
  have h : (setD (strT ks) && decide ((ks.map PyData.str).length ≤ 4)) = true := h
  have h1 : setD (strT ks) = true := (Bool.and_eq_true_iff.mp h).1
  have h2 : (ks.map PyData.str).all isNameD = true := (Bool.and_eq_true_iff.mp h1).1
  refine ⟨by simp, by simp; omega, fun x hx => ?_⟩
  rcases List.mem_cons.mp hx with rfl | hx
  · decide +kernel
  · exact name_word (List.all_eq_true.mp h2 _ (List.mem_map.mpr ⟨x, hx, rfl⟩))
theorem wssT_ok {ds : List PyData} {ks : List Str} (rows : ds.all (rowD (cdOf 3)) = true) (hk : keptD (strT ks) = true) : ∀ ws ∈ wssT ds ks, WsOk ws := fun ws h => by
  rcases List.mem_cons.mp h with rfl | h
  · exact kept_ws hk
  · exact code_ws rows ws h
theorem lines_sum {wss : List (List Str)} (h : ∀ ws ∈ wss, WsOk ws) (l : wss.length ≤ 1000) : ((wss.map lineW).map (·.length)).sum + (wss.map lineW).length * nlT.length ≤ 16777216 := by
  have e : nlT.length = 1 := by decide +kernel
  rw [e, List.length_map]
  have key : ∀ {l : List (List Str)}, (∀ x ∈ l, WsOk x) → ((l.map lineW).map (·.length)).sum ≤ 45 * l.length := fun {l} => by
    induction l with
    | nil => intro _; exact Nat.le_refl _
    | cons x r ih =>
      intro o
      have a := line_len (o x (List.mem_cons_self ..))
      have b := ih fun y hy => o y (List.mem_cons_of_mem _ hy)
      rw [List.map_cons, List.map_cons, List.sum_cons, List.length_cons]
      omega
  have := key h
  omega
theorem map_vL (wss : List (List Str)) : wss.map vL = (wss.map lineW).map V.str := by
  rw [List.map_map]
  rfl
section
variable {P : Program} {w : World} {K : PySem.W.Frag} {mg : Str → Option Value} {base : Heap} {f fF fC fO fN fS fFt fI fM fA fK fT fL fH C : Addr} {fd dF dC dO dN dS dFt dI dM dA dK dT dL dH : FuncData}
theorem scTh : FnScope ["value"] ["value"] (defScope sThr) := ⟨rfl, rfl, rfl, by decide +kernel, rfl, by decide +kernel, by decide +kernel⟩
theorem ok_thr (F : Fun K "is_thread_code" "is_thread_code" sThr f fd) (CF : CodeF K mg fN fS fFt fI dN dS dFt dI) (TF : TxtF K w mg) (TS : TxtS mg) (FF : FlatF K mg fF fC fO dF dC dO) (M : MostF K mg fM fA fK dM dA dK) (gD : ∃ t, mg "MAX_DEPTH" = some (.int 3 t)) (gC : ∃ t, mg "MAX_CODE" = some (.int 60 t)) (gP : ∃ t, mg "MAX_ON_PATH" = some (.int 6 t)) :
    FnOk P w K mg base CX0 14 f fd ["value"] spThr := by
  have GN : FnOk P w K mg base CX0 13 fN dN ["value", "depth", "shows"] (spNestedAtS 4) := ok_nested CF TF 4
  have GF : FnOk P w K mg base CX0 5 fF dF ["code"] (spFlatAt 4) := ok_flat FF 4
  have GM : FnOk P w K mg base CX0 9 fM dM ["code", "kind"] (spMost 4) := ok_most M FF TS 4
  obtain ⟨t1, g1⟩ := gD
  obtain ⟨t2, g2⟩ := gC
  obtain ⟨t3, g3⟩ := gP
  refine F.ok scTh (fun vs H Q E h => ?_) (fun cdv A outer s H vs Q E hr h => ?_)
  · obtain ⟨v, ds, rfl, _⟩ := h
    rfl
  · obtain ⟨v, ds, rfl, hd, ok, q⟩ := h
    refine ⟨_, pss_one (ps_ret (pe_and (pe_call GN hr (by rfl) CF.gN CF.FN.kp CF.bN .nil pass0 (pa_cons (pv 0) (pa_cons (pe_glob (v := .int 3) (by rfl) g1 ⟨t1, rfl⟩) (pa_cons pe_bl pa_nil))))
      (pe_and (pe_cmpR op_le (pe_callB call_len_seq (by rfl) TS.len PySem.boot_len (pa_cons (pe_call GF (hr.mono (by decide)) (by rfl) FF.gF FF.FF.kp FF.bF .nil pass0 (pa_cons (pv 0) pa_nil)) pa_nil)) (pe_glob (v := .int 60) (by rfl) g2 ⟨t2, rfl⟩) (nomark _))
      (pe_and (pe_cmpR op_le (pe_call GM (hr.mono (by decide)) (by rfl) M.gM M.FM.kp M.bM .nil pass0 (pa_cons (pv 0) (pa_cons pe_str pa_nil))) (pe_glob (v := .int 6) (by rfl) g3 ⟨t3, rfl⟩) (nomark _))
      (pe_one (pe_cmpR op_le (pe_call GM (hr.mono (by decide)) (by rfl) M.gM M.FM.kp M.bM .nil pass0 (pa_cons (pv 0) (pa_cons pe_str pa_nil))) (pe_glob (v := .int 6) (by rfl) g3 ⟨t3, rfl⟩) (nomark _))))))), ?_⟩
    have cd : codeD 3 (.tuple ds) = true := by
      rw [codeD_tup]
      exact ok.rows
    refine ⟨_, rfl, _, v, .tuple ds, true, rfl, .inl rfl, hd, by rw [sml_tup]; exact rows_small ok.rows, fun H1 s1 => ⟨_, rfl, ?_⟩⟩
    rw [cd]
    have hd1 := hd.mv (fun _ z => z) (fun b o _ z => s1 b o z)
    have lf := ok.few
    refine iteT ⟨_, rfl, _, v, ds, rfl, hd1, ok.rows, Nat.le_trans lf (by decide), fun H2 p2 xs2 s2 hp2 e2 d2 => ⟨p2, _, rfl, .inl (SqL.of e2), _, _, rfl, rfl, _, rfl, ?_⟩⟩
    rw [d2.length, decide_eq_true (show ((flatN 3 ds).length : Int) ≤ 60 by omega)]
    have hd2 := hd1.mv (fun _ z => z) (fun b o _ z => s2 b o z)
    refine iteT ⟨_, rfl, _, v, ds, "if", rfl, hd2, ok.rows, fun H3 s3 => ⟨_, _, rfl, rfl, _, rfl, ?_⟩⟩
    have li := ok.iff
    have ls := ok.st
    rw [decide_eq_true (show ((mostN 3 "if" ds : Nat) : Int) ≤ 6 by omega)]
    have hd3 := hd2.mv (fun _ z => z) (fun b o _ z => s3 b o z)
    refine iteT ⟨_, rfl, _, v, ds, "set", rfl, hd3, ok.rows, fun H4 s4 => ⟨_, _, rfl, rfl, ?_⟩⟩
    show Q (.bl (decide (((mostN 3 "set" ds : Nat) : Int) ≤ 6))) H4
    rw [decide_eq_true (show ((mostN 3 "set" ds : Nat) : Int) ≤ 6 by omega)]
    exact q _ (((s1.trans s2).trans s3).trans s4)
theorem scCk6 : FnScope ["code"] ["code"] (defScope sChk) := ⟨rfl, rfl, rfl, by decide +kernel, rfl, by decide +kernel, by decide +kernel⟩
theorem pss_no {X : Cx} {b : List Stmt} : PSs X b (fun _ _ _ => False) := ⟨fun _ _ _ _ _ _ h => h.elim⟩
theorem ok_chk (F : Fun K "_check_code" "_check_code" sChk f fd) (gT : mg "is_thread_code" = some (.ref fT)) (kT : PySem.W.keepIn K (.ref fT) = true) (bT : Binds K dT ["value"] []) (GT : FnOk P w K mg base CX0 14 fT dT ["value"] spThr) : FnOk P w K mg base CX0 15 f fd ["code"] spChk := by
  refine F.ok scCk6 (fun vs H Q E h => ?_) (fun cdv A outer s H vs Q E hr h => ?_)
  · obtain ⟨v, ds, rfl, _⟩ := h
    rfl
  · obtain ⟨v, ds, rfl, hd, ok, q⟩ := h
    refine ⟨_, pss_one (ps_if (pt_not (pt_val (pe_call GT hr (by rfl) gT kT bT .nil pass0 (pa_cons (pv 0) pa_nil)))) pss_no pss_nil), ?_⟩
    exact ⟨_, rfl, v, ds, rfl, hd, ok, fun H1 s1 => ⟨_, rfl, iteF (q _ s1)⟩⟩
theorem scWC : FnScope ["code"] ["code"] (defScope sWrC) := ⟨rfl, rfl, rfl, by decide +kernel, rfl, by decide +kernel, by decide +kernel⟩
theorem ok_wrc (F : Fun K "write_code" "write_code" sWrC f fd) (gH : mg "_check_code" = some (.ref fH)) (kH : PySem.W.keepIn K (.ref fH) = true) (bH : Binds K dH ["code"] []) (GH : FnOk P w K mg base CX0 15 fH dH ["code"] spChk)
    (gL : mg "_lines_of" = some (.ref fL)) (kL : PySem.W.keepIn K (.ref fL) = true) (bL : Binds K dL ["code"] []) (GL : FnOk P w K mg base CX0 4 fL dL ["code"] (spLinesAt 4)) : FnOk P w K mg base CX0 16 f fd ["code"] spWrC := by
  refine F.ok scWC (fun vs H Q E h => ?_) (fun cdv A outer s H vs Q E hr h => ?_)
  · obtain ⟨v, ds, rfl, _⟩ := h
    rfl
  · obtain ⟨v, ds, rfl, hd, ok, q⟩ := h
    refine ⟨_, pss_cons (ps_expr (pe_call GH hr (by rfl) gH kH bH .nil pass0 (pa_cons (pv 0) pa_nil)))
      (pss_one (ps_ret (pe_bm PySem.F.plainAttrs_str PySem.F.slot_str_join PySem.F.type_str_join mt_join pe_str (pa_cons (pe_call GL (hr.mono (by decide)) (by rfl) gL kL bL .nil pass0 (pa_cons (pv 0) pa_nil)) pa_nil)))), ?_⟩
    refine ⟨_, rfl, v, ds, rfl, hd, ok, fun H1 s1 => ?_⟩
    have sz := ok.size
    refine ⟨rfl, _, rfl, v, ds, rfl, hd.mv (fun _ z => z) (fun b o _ z => s1 b o z), ok.rows, Nat.le_trans sz (by decide), fun H2 p s2 hp e2 => ?_⟩
    refine ⟨_, p, (wssN 3 ds).map lineW, rfl, rfl, .inl (by rw [← map_vL]; exact SqL.of e2), lines_sum (code_ws ok.rows) (by omega), q _ (s1.trans s2)⟩
theorem scCS : FnScope ["value"] ["value"] (defScope sChS) := ⟨rfl, rfl, rfl, by decide +kernel, rfl, by decide +kernel, by decide +kernel⟩
theorem ok_chs {fS aS : Addr} {dS : FuncData} (F : Fun K "check_stretch" "check_stretch" sChS f fd) (R : StrC K mg C fS aS dS) (isi : mg "isinstance" = none) : FnOk P w K mg base CX0 1 f fd ["value"] (spChS C) := by
  refine F.ok scCS (fun vs H Q E h => ?_) (fun cdv A outer s H vs Q E hr h => ?_)
  · obtain ⟨a, dx, fs, rfl, _⟩ := h
    rfl
  · obtain ⟨a, dx, fs, rfl, ea, q⟩ := h
    refine ⟨_, pss_one (ps_if (pt_not (pt_val (pe_callB call_isi (by rfl) isi (by decide +kernel) (pa_cons (pv 0) (pa_cons (pe_glob (v := .ref C) (by rfl) R.gSt rfl) pa_nil))))) pss_no pss_nil), ?_⟩
    exact ⟨_, rfl, .ref a, .ref C, .ref C, .ref C, true, rfl, .own C, .base (.ins ea R.T.cl R.ha R.hn R.htk R.hm), R.kit, _, rfl, iteF q⟩
theorem scWS : FnScope ["stretch"] ["stretch"] (defScope sWrS) := ⟨rfl, rfl, rfl, by decide +kernel, rfl, by decide +kernel, by decide +kernel⟩
theorem ok_wrs {fS aS : Addr} {dS : FuncData} (F : Fun K "write_stretch" "write_stretch" sWrS f fd) (T : StrT K mg C) (gH : mg "check_stretch" = some (.ref fH)) (kH : PySem.W.keepIn K (.ref fH) = true) (bH : Binds K dH ["value"] []) (GH : FnOk P w K mg base CX0 1 fH dH ["value"] (spChS C))
    (gL : mg "_lines_of" = some (.ref fL)) (kL : PySem.W.keepIn K (.ref fL) = true) (bL : Binds K dL ["code"] []) (GL : FnOk P w K mg base CX0 4 fL dL ["code"] (spLinesAt 4)) (pc : PropM P w K mg base C "code" 1 (getSp C "_code")) (pk : PropM P w K mg base C "keeps" 1 (getSp C "_keeps")) : FnOk P w K mg base CX0 5 f fd ["stretch"] (spWrS K C) := by
  obtain ⟨p1, g1, d1, h1, G1, b1⟩ := pc
  obtain ⟨p2, g2, d2, h2, G2, b2⟩ := pk
  refine F.ok scWS (fun vs H Q E h => ?_) (fun cdv A outer s H vs Q E hr h => ?_)
  · obtain ⟨a, dx, kb, c, ds, ks, rfl, _⟩ := h
    rfl
  · obtain ⟨a, dx, kb, c, ds, ks, rfl, ea, hd, ek, rows, size, kept, q⟩ := h
    refine ⟨_, pss_cons (ps_expr (pe_call GH (hr.mono (by decide)) (by rfl) gH kH bH .nil pass0 (pa_cons (pv 0) pa_nil)))
      (pss_one (ps_ret (pe_bm PySem.F.plainAttrs_str PySem.F.slot_str_join PySem.F.type_str_join mt_join pe_str (pa_cons (pe_op op_cat (pe_lst (pa_cons (pe_bm PySem.F.plainAttrs_str PySem.F.slot_str_join PySem.F.type_str_join mt_join pe_str (pa_cons (pe_lst (pa_cons pe_str (StX.pa_star (pe_prop (E := E0) (pv 0) T.cl h2 G2 (hr.mono (by decide)) b2 .nil pass0 (by rfl)) pa_nil))) pa_nil)) pa_nil))
        (pe_call GL hr (by rfl) gL kL bL .nil pass0 (pa_cons (pe_prop (E := E0) (pv 0) T.cl h1 G1 (hr.mono (by decide)) b1 .nil pass0 (by rfl)) pa_nil))) pa_nil)))), ?_⟩
    have lk := kept_len kept
    have line : (1000 : Nat) < sizeLine := by decide
    have lw2 : (wssN 3 ds).length ≤ 300 := by
      have := code_lines rows
      omega
    refine ⟨_, rfl, a, dx, _, rfl, ea, ?_⟩
    refine ⟨rfl, rfl, _, rfl, a, dx, _, rfl, ea, a, dx, _, _, rfl, ea, rfl, kb, ks.map V.str, rfl, .inl ek, ?_⟩
    have ev : ([.str "keeps"] ++ (ks.map V.str ++ []) : List V) = (("keeps" : Str) :: ks).map V.str := by
      rw [List.append_nil]
      rfl
    refine ⟨?_, fun q1 hq1 => ?_⟩
    · show (.str "keeps" :: (ks.map V.str ++ [])).length ≤ sizeLine
      rw [List.append_nil, List.length_cons, List.length_map]
      omega
    have ev : (V.str "keeps" :: (ks.map V.str ++ [])) = (("keeps" : Str) :: ks).map V.str := by
      rw [List.append_nil]
      rfl
    rw [ev]
    have s1 := same_upd (o := .lst ((("keeps" : Str) :: ks).map V.str)) hq1
    refine ⟨_, q1, ("keeps" : Str) :: ks, rfl, rfl, .inl (SqL.of upd_same), join_sum (kept_ws kept), (by show 1 ≤ sizeLine; decide), fun q2 hq2 => ?_⟩
    have s2 := s1.trans (same_upd (o := .lst [vL (("keeps" : Str) :: ks)]) hq2)
    refine ⟨_, rfl, a, dx, _, rfl, s2 _ _ ea, a, dx, _, _, rfl, s2 _ _ ea, rfl, c, ds, rfl, hd.mv (fun _ z => z) (fun b o _ z => s2 b o z), rows, Nat.le_trans lw2 (by decide), fun H3 p3 s3 hp3 e3 => ?_⟩
    refine ⟨q2, p3, [vL (("keeps" : Str) :: ks)], _, rfl, rfl, s3 _ _ upd_same, e3, by rw [List.length_map]; exact Nat.le_trans (Nat.add_le_add_left lw2 1) (Nat.le_trans (by decide : 1 + 300 ≤ 1000) (Nat.le_of_lt line)), fun q3 hq3 => ?_⟩
    have s4 := (s2.trans s3).trans (same_upd (o := .lst ([vL (("keeps" : Str) :: ks)] ++ (wssN 3 ds).map vL)) hq3)
    have e4 : upd H3 q3 (.lst ([vL (("keeps" : Str) :: ks)] ++ (wssN 3 ds).map vL)) q3 = some (.lst (((wssT ds ks).map lineW).map V.str)) := by
      rw [upd_same, ← map_vL]
      rfl
    refine ⟨_, q3, (wssT ds ks).map lineW, rfl, rfl, .inl (SqL.of e4), lines_sum (wssT_ok rows kept) (by show (wssN 3 ds).length + 1 ≤ 1000; omega), q _ s4⟩
end
end OM

namespace OM
open PySem PySem.Spec PyProof.Rows L2
abbrev sStOf : Stmt := top 57
def spStOf : Sp := fun vs H Q _ => ∃ (p : Addr) (d : PyData), vs = [.ref p] ∧ rowD (cdOf 0) d = true ∧ H p = some (.lst ((wordsD d).map V.str)) ∧ ∀ H' v, Same H H' → Dt (fun _ => True) H' v d → Q v H'
theorem dt_stR : ∀ {H : Hp} (l : List Str), DtAll (fun _ => True) H (l.map V.str) (l.map PyData.str)
  | _, [] => .nil
  | _, x :: r => .cons (.at (.str x)) (dt_stR r)
section
variable {P : Program} {w : World} {K : PySem.W.Frag} {mg : Str → Option Value} {base : Heap} {f fI : Addr} {fd dI : FuncData}
theorem scSO : FnScope ["words", "is_right", "word"] ["words"] (defScope sStOf) := ⟨rfl, rfl, rfl, by decide +kernel, rfl, by decide +kernel, by decide +kernel⟩
theorem ok_stof (F : Fun K "_statement_of" "_statement_of" sStOf f fd) (T : TxtN K mg) (TF : TxtF K w mg) (gM : ∃ t, mg "MAX_SET_WORDS" = some (.int 5 t)) (gI : mg "is_name" = some (.ref fI)) (kI : PySem.W.keepIn K (.ref fI) = true) (bI : Binds K dI ["value"] []) (GI : FnOk P w K mg base CX0 1 fI dI ["value"] spName) :
    FnOk P w K mg base CX0 2 f fd ["words"] spStOf := by
  obtain ⟨t5, g5⟩ := gM
  obtain ⟨fa, es, nn, gF, KD, hno, hyes⟩ := TF.forms
  refine F.ok scSO (fun vs H Q E h => ?_) (fun cdv A outer s H vs Q E hr h => ?_)
  · obtain ⟨p, d, rfl, _⟩ := h
    rfl
  · obtain ⟨p, d, rfl, row, ep, q⟩ := h
    refine ⟨_, pss_cons (ps_if (PW.pt (pw_or (pt_cmpR (op_notIn_kd KD) (pe_ix (r := rIxL K) ix_list (pv 0) pe_int (fun _ _ => rfl)) (pe_glob (v := .ref fa) (by rfl) gF rfl) (by rfl))
        (pw_or1 (pt_not (pt_val (pe_callB (cr_all rfl) (by rfl) T.all (by decide +kernel) (pa_cons (pe_lc (own := [("word", 2)]) rfl scSO.nd (pi_list (pe_slice sl_list (pv 0) (po_some pe_int) po_none)) (blkOk_by (N := ["words", "is_right", "word"]) (sc := defScope sStOf) (by decide +kernel))
          (fun _ _ _ _ _ => pg_name (i := 2) scSO.nd rfl (Or.inl rfl)) (fun _ _ _ _ _ => pts_nil) (fun _ _ _ _ _ => pe_call GI hr (by rfl) gI kI bI .nil pass0 (pa_cons (pv 2) pa_nil))) pa_nil))))))) (pss_one (ps_ret pe_non)) pss_nil)
      (pss_cons (ps_if (pt_cmpR op_eq (pe_ix (r := rIxL K) ix_list (pv 0) pe_int (fun _ _ => rfl)) pe_str (nomark _))
        (pss_cons (ps_set (i := 1) scSO.nd rfl (Or.inl rfl) (pe_chain op_le op_le (pe_op op_sub (pe_glob (v := .int 5) (by rfl) g5 ⟨t5, rfl⟩) pe_int) (pe_callB call_len_seq (by rfl) T.len PySem.boot_len (pa_cons (pv 0) pa_nil)) (pe_glob (v := .int 5) (by rfl) g5 ⟨t5, rfl⟩)))
        (pss_one (ps_ret (pe_ifExp (pt_val (pv 1)) (pe_tup (pa_cons pe_str (pa_cons (pe_ix (r := rIxL K) ix_list (pv 0) pe_int (fun _ _ => rfl)) (pa_cons (pe_ix (r := rIxL K) ix_list (pv 0) pe_int (fun _ _ => rfl)) (pa_cons (pe_callTy call_tuple_of (by rfl) TF.tup (by decide +kernel) (pa_cons (pe_slice sl_list (pv 0) (po_some pe_int) po_none) pa_nil)) pa_nil))))) pe_non)))) pss_nil)
      (pss_one (ps_ret (pe_ifExp (pt_cmpR op_eq (pe_callB call_len_seq (by rfl) T.len PySem.boot_len (pa_cons (pv 0) pa_nil)) (pe_op op_add (pe_callB call_len_seq (by rfl) T.len PySem.boot_len (pa_cons (pe_ix ix_kdict (pe_glob (v := .ref fa) (by rfl) gF rfl) (pe_ix (r := rIxL K) ix_list (pv 0) pe_int (fun _ _ => rfl)) (fun _ _ => rfl)) pa_nil)) pe_int) (nomark _)) (pe_callTy call_tuple_of (by rfl) TF.tup (by decide +kernel) (pa_cons (pv 0) pa_nil)) pe_non)))), ?_⟩
    obtain ⟨wd, ws, ew, n1, n2, n3, hf, l4, nm, ok⟩ := leaf_ok row
    obtain ⟨rs, hrs⟩ := Option.isSome_iff_exists.mp hf
    obtain ⟨pf, hnf, hsf⟩ := hyes wd rs hrs
    have line : (1000 : Nat) < sizeLine := by decide
    rw [ew, List.map_cons] at ep
    refine ⟨_, rfl, p, _, 0, _, rfl, rfl, SqL.of ep, at0, wd, _, rfl, rfl, hnf, _, rfl, iteF ?_⟩
    refine ⟨_, rfl, 1, rfl, p, _, rfl, SqL.of ep, fun pc hpc => ⟨pc, rfl, ⟨_, SqL.of upd_same⟩, fun Dl hD => ?_⟩⟩
    have s1 : Same H (upd H pc (.lst (cutV (V.str wd :: ws.map V.str) (some 1) none))) := same_upd hpc
    have ec : cutV (V.str wd :: ws.map V.str) (some 1) none = ws.map V.str := cut_tail
    have epc : upd H pc (.lst (cutV (V.str wd :: ws.map V.str) (some 1) none)) pc = some (.lst (ws.map V.str)) := by rw [upd_same, ec]
    refine lc_list (xs := ws.map V.str) (PvM _ Dl ((ws.map PyData.str).map isNameD)) (PvM.zero hD) (fun i H' _ p => SqL.of (p.1 _ _ epc)) (fun i x H3 hi p => ?_) (fun H5 p5 => ?_)
    · rw [List.getElem?_map] at hi
      obtain ⟨y, hy, rfl⟩ := Option.map_eq_some_iff.mp hi
      have ny := nm y (List.mem_of_getElem? hy)
      refine ⟨rfl, _, rfl, fun _ => True, .str y, .str y, rfl, .at (.str y), (name_small ny).1, fun H4 s4 => p.step hD (by rw [List.length_map, List.length_map]; omega) (by rw [List.getElem?_map, List.getElem?_map, hy]; rfl) s4⟩
    · obtain ⟨s5, e5⟩ := p5.all (by rw [List.length_map, List.length_map, List.length_map])
      have al : (((ws.map PyData.str).map isNameD).all id) = true := by
        rw [List.all_map, List.all_map]
        exact List.all_eq_true.mpr fun y hy => nm y hy
      refine ⟨Dl, _, rfl, SqL.of e5, _, rfl, ?_⟩
      rw [al]
      have s15 := s1.trans s5
      have ep5 := s15 _ _ ep
      refine iteF ⟨_, rfl, p, _, 0, _, rfl, rfl, SqL.of ep5, at0, rfl, _, rfl, ?_⟩
      obtain ⟨w0, rest, rfl, _, _, _, hcase⟩ := leaf_words row
      rcases hcase with ⟨ns, hn, ew2, hs2, hl2⟩ | ⟨rfl, y1, y2, as, rfl, _, _, hl2, ha, ew2⟩
      · obtain ⟨rfl, rfl⟩ := List.cons.inj (ew.symm.trans ew2)
        have nf2 : decide (V.str wd = V.str "set") = false := decide_eq_false fun z => ns (V.str.inj z)
        rw [nf2]
        rw [hrs] at hl2
        have hl2 : rs.length = rest.length := hl2
        refine iteF ⟨_, rfl, p, _, rfl, .inl (SqL.of ep5), _, rfl, p, _, 0, _, rfl, rfl, SqL.of ep5, at0, fa, wd, .ref pf, rfl, rfl, ⟨es, nn, _, KD.at_, KD.lit, hnf, rfl⟩, ?_⟩
        refine ⟨pf, _, rfl, .inr (hsf _), _, _, rfl, rfl, rfl, _, rfl, ?_⟩
        rw [decide_eq_true (by
          simp only [List.length_cons, List.length_map]
          rw [hl2]
          rfl)]
        refine iteT ⟨_, rfl, p, _, rfl, .inl ⟨SqL.of ep5, fun l hl => q _ _ (s15.trans (same_upd hl)) ?_⟩⟩
        have hlen : rest.length ≤ 4 := by
          rw [← hl2]
          exact form_len hrs
        refine .tup trivial upd_same (by simp only [List.length_cons, List.length_map]; omega) (.cons (.at (.str _)) ?_)
        have e := (strs_names hn).1
        have z := dt_stR (H := upd H5 l (.tup (V.str wd :: (rest.map strD).map V.str))) (rest.map strD)
        rw [e] at z
        exact z
      · obtain ⟨rfl, rfl⟩ := List.cons.inj (ew.symm.trans ew2)
        refine iteT ⟨_, _, rfl, rfl, _, rfl, p, _, rfl, .inl (SqL.of ep5), _, _, rfl, rfl, _, rfl, ?_⟩
        rw [decide_eq_true (by simp only [List.length_cons, List.length_map]; omega)]
        refine iteT ⟨_, _, rfl, rfl, _, rfl, _, rfl, ?_⟩
        refine ite2 (fun _ => ?_) (fun k => absurd (decide_eq_true (by simp only [List.length_cons, List.length_map]; omega)) k)
        refine ⟨_, rfl, p, _, 1, .str y1, rfl, rfl, SqL.of ep5, (by show atI _ ((1 : Nat) : Int) = _; exact atI_nat rfl), _, rfl, p, _, 2, .str y2, rfl, rfl, SqL.of ep5, (by show atI _ ((2 : Nat) : Int) = _; exact atI_nat rfl), _, rfl, 3, rfl, p, _, rfl, SqL.of ep5, fun pq hpq => ⟨pq, _, rfl, .inl ⟨SqL.of upd_same, fun pt hpt => ?_⟩⟩⟩
        have ea3 : cutV (V.str "set" :: (y1 :: y2 :: as).map V.str) (some 3) none = as.map V.str := by
          unfold cutV
          have l : (V.str "set" :: (y1 :: y2 :: as).map V.str).length = as.length + 3 := by simp
          rw [l, show (some (3 : Int)) = some ((3 : Nat) : Int) from rfl, HT.sIx_nat, HT.sIx_none, Nat.min_eq_left (Nat.le_add_left 3 as.length)]
          show ((as.map V.str).take (as.length + 3 - 3)) = as.map V.str
          rw [Nat.add_sub_cancel]
          exact List.take_of_length_le (by rw [List.length_map]; exact Nat.le_refl _)
        rw [ea3] at hpt ⊢
        have t1 : Same H5 (upd H5 pq (.lst (as.map V.str))) := same_upd hpq
        have t2 := t1.trans (same_upd (o := .tup (as.map V.str)) hpt)
        refine ⟨(by show 4 ≤ sizeLine; decide), fun pr hpr => ?_⟩
        have t3 := t2.trans (same_upd (o := .tup [.str "set", .str y1, .str y2, .ref pt]) hpr)
        refine q _ _ (s15.trans t3) (.tup trivial upd_same (by show 4 ≤ 1000; decide) (.cons (.at (.str _)) (.cons (.at (.str _)) (.cons (.at (.str _)) (.cons (.tup trivial (same_upd hpr _ _ upd_same) (by rw [List.length_map]; omega) (dt_stR as)) .nil)))))
end
end OM

namespace OM
open PySem PySem.Spec PyProof.Rows L2
/-! ### a reader, as it stands -/
def TupS (H H' : Hp) : Prop := ∀ b xs, H b = some (.tup xs) → H' b = some (.tup xs)
theorem TupS.trans {H H1 H2 : Hp} (a : TupS H H1) (b : TupS H1 H2) : TupS H H2 := fun c xs e => b c xs (a c xs e)
theorem TupS.same {H H' : Hp} (s : Same H H') : TupS H H' := fun b xs e => s b _ e
theorem TupS.lst {H : Hp} {a : Addr} {xs : List V} {o : HO} (h : H a = some (.lst xs)) : TupS H (upd H a o) := fun b ys e => by
  rw [upd_ne (fun z => by rw [z, h] at e; cases e)]
  exact e
mutual
theorem Dt.tupS {H H' : Hp} (s : TupS H H') : ∀ {v : V} {x : PyData}, pureD x = true → Dt (fun _ => True) H v x → Dt (fun _ => True) H' v x
  | _, _, _, .at h => .at h
  | _, _, p, .tup (a := a) t y hl h => .tup t (s _ _ y) hl (DtAll.tupS s (by unfold pureD at p; exact p) h)
  | _, _, p, .lst t y hl h => by unfold pureD at p; cases p
  | _, _, p, .dic0 t y => by unfold pureD at p; cases p
  | _, _, p, .dic1 t y h => by unfold pureD at p; cases p
theorem DtAll.tupS {H H' : Hp} (s : TupS H H') : ∀ {vs : List V} {xs : List PyData}, pureAll xs = true → DtAll (fun _ => True) H vs xs → DtAll (fun _ => True) H' vs xs
  | _, _, _, .nil => .nil
  | _, _, p, .cons h r => by
    unfold pureAll at p
    rw [Bool.and_eq_true] at p
    exact .cons (Dt.tupS s p.1 h) (DtAll.tupS s p.2 r)
end
theorem pureAll_cons' (x : PyData) (r : List PyData) : pureAll (x :: r) = (pureD x && pureAll r) := by rw [pureAll]
theorem pureAll_app : ∀ {a b : List PyData}, pureAll (a ++ b) = (pureAll a && pureAll b)
  | [], b => by
    show pureAll b = _
    rw [show pureAll [] = true by unfold pureAll; rfl, Bool.true_and]
  | x :: r, b => by
    rw [List.cons_append, pureAll_cons', pureAll_cons', pureAll_app, Bool.and_assoc]
theorem pureAll_one {d : PyData} : pureAll [d] = pureD d := by
  unfold pureAll
  unfold pureAll
  rw [Bool.and_true]
/-- the lists of a reader -/
inductive RowsAt (H : Hp) : List Addr → List (List PyData) → Prop where
  | nil : RowsAt H [] []
  | cons {a : Addr} {as : List Addr} {ys : List V} {r : List PyData} {rs : List (List PyData)} (e : H a = some (.lst ys)) (d : DtAll (fun _ => True) H ys r) (t : RowsAt H as rs) : RowsAt H (a :: as) (r :: rs)
def pureRows (rs : List (List PyData)) : Prop := ∀ r ∈ rs, pureAll r = true
theorem RowsAt.len {H : Hp} : ∀ {as : List Addr} {rs : List (List PyData)}, RowsAt H as rs → as.length = rs.length
  | _, _, .nil => rfl
  | _, _, .cons _ _ t => congrArg (· + 1) t.len
theorem RowsAt.live {H : Hp} : ∀ {as : List Addr} {rs : List (List PyData)}, RowsAt H as rs → ∀ a ∈ as, ∃ ys, H a = some (.lst ys)
  | _, _, .nil, _, h => by cases h
  | _, _, .cons e _ t, a, h => by
    rcases List.mem_cons.mp h with rfl | h
    · exact ⟨_, e⟩
    · exact t.live a h
theorem RowsAt.keep {H H' : Hp} : ∀ {as : List Addr} {rs : List (List PyData)}, RowsAt H as rs → pureRows rs → (∀ a ∈ as, H' a = H a) → TupS H H' → RowsAt H' as rs
  | _, _, .nil, _, _, _ => .nil
  | _, _, .cons e d t, p, k, s => .cons (by rw [k _ (List.mem_cons_self ..)]; exact e) (d.tupS s (p _ (List.mem_cons_self ..))) (t.keep (fun r hr => p r (List.mem_cons_of_mem _ hr)) (fun a ha => k a (List.mem_cons_of_mem _ ha)) s)
theorem RowsAt.snoc {H : Hp} {a : Addr} {ys : List V} {r : List PyData} (e : H a = some (.lst ys)) (d : DtAll (fun _ => True) H ys r) : ∀ {as : List Addr} {rs : List (List PyData)}, RowsAt H as rs → RowsAt H (as ++ [a]) (rs ++ [r])
  | _, _, .nil => .cons e d .nil
  | _, _, .cons e' d' t => .cons e' d' (RowsAt.snoc e d t)
theorem RowsAt.split {H : Hp} {r : List PyData} : ∀ {rs : List (List PyData)} {as : List Addr}, RowsAt H as (rs ++ [r]) → ∃ as' a ys, as = as' ++ [a] ∧ RowsAt H as' rs ∧ H a = some (.lst ys) ∧ DtAll (fun _ => True) H ys r
  | [], _, .cons e d .nil => ⟨[], _, _, rfl, .nil, e, d⟩
  | x :: rs, _, .cons e d t => by
    obtain ⟨as', a, ys, rfl, t', e', d'⟩ := RowsAt.split (rs := rs) t
    exact ⟨_ :: as', a, ys, rfl, .cons e d t', e', d'⟩
def insR (C dx : Addr) (sh : Bool) (o r : Addr) : HO := .ins C dx [("shows", .bl sh), ("opened", .ref o), ("rows", .ref r)]
/-- a reader of code: its lists (F), how many lines it took (k), what is open, what was read -/
structure Rd (C : Addr) (sh : Bool) (H : Hp) (F : List Addr) (me : Addr) (k : Nat) (op : List PyData) (rs : List (List PyData)) : Prop where
  ex : ∃ dx o r as xs, F = o :: r :: as ∧ H me = some (insR C dx sh o r) ∧ H o = some (.lst xs) ∧ DtAll (fun _ => True) H xs op ∧ H r = some (.lst (as.map V.ref)) ∧ RowsAt H as rs
  nd : F.Nodup
  po : pureAll op = true
  pr : pureRows rs
  lo : op.length ≤ k
  lr : rs.length ≤ k + 1
  ll : ∀ r ∈ rs, r.length ≤ k
  lk : k ≤ 900
/-- what a reader may change: its own lists, that were not there in H0 -/
structure Own0 (H0 H : Hp) (F : List Addr) : Prop where
  same : Same H0 H
  own : ∀ b ∈ F, H0 b = none
theorem Own0.put {H0 H : Hp} {F : List Addr} {b : Addr} {o : HO} (h : Own0 H0 H F) (hb : b ∈ F) : Own0 H0 (upd H b o) F := ⟨same_put (h.own b hb) h.same, h.own⟩
theorem Own0.new {H0 H : Hp} {F : List Addr} {b : Addr} {o : HO} (h : Own0 H0 H F) (hb : H b = none) : Own0 H0 (upd H b o) F := ⟨h.same.trans (same_upd hb), h.own⟩
theorem Own0.to {H0 H H' : Hp} {F : List Addr} (h : Own0 H0 H F) (s : Same H H') : Own0 H0 H' F := ⟨h.same.trans s, h.own⟩
theorem insR_ne {C dx : Addr} {sh : Bool} {o r : Addr} {xs : List V} : insR C dx sh o r ≠ .lst xs := fun z => nomatch z
/-- nothing of a reader changes -/
theorem Rd.mv {C : Addr} {sh : Bool} {H H' : Hp} {F : List Addr} {me : Addr} {k : Nat} {op : List PyData} {rs : List (List PyData)} (h : Rd C sh H F me k op rs) (s : Same H H') : Rd C sh H' F me k op rs := by
  obtain ⟨⟨dx, o, r, as, xs, rfl, e1, e2, d, e3, R⟩, a1, a2, a3, a4, a5, a6, a7⟩ := h
  exact ⟨⟨dx, o, r, as, xs, rfl, s _ _ e1, s _ _ e2, d.tupS (.same s) a2, s _ _ e3, R.keep a3 (fun a ha => by
    obtain ⟨ys, e⟩ := R.live a ha
    rw [e]
    exact s _ _ e) (.same s)⟩, a1, a2, a3, a4, a5, a6, a7⟩
end OM

namespace OM
open PySem PySem.Spec PyProof.Rows L2
abbrev sRIn : Stmt := inStK 54 0
abbrev sTake : Stmt := inStK 54 1
abbrev sTIf : Stmt := inStK 54 2
abbrev sTEl : Stmt := inStK 54 3
abbrev sTEn : Stmt := inStK 54 4
abbrev sIsC : Stmt := inStK 54 5
abbrev sAllC : Stmt := inStK 54 6
/-- what the class CodeReader must have -/
structure RdC (K : PySem.W.Frag) (C : Addr) : Prop where
  cl : Cls K C
  ns : NoAttr K C "shows"
  no : NoAttr K C "opened"
  nr : NoAttr K C "rows"
def spTIf (C : Addr) : Sp := fun vs H Q _ => ∃ (H0 : Hp) (F : List Addr) (sh : Bool) (me p : Addr) (k : Nat) (op : List PyData) (rs : List (List PyData)) (pn rn : Str), vs = [.ref me, .ref p] ∧ H p = some (.lst [.str "if", .str pn, .str rn]) ∧ isNameD (.str pn) = true ∧ isNameD (.str rn) = true ∧ Rd C sh H F me k op rs ∧ Own0 H0 H F ∧ k < 900 ∧
  ∀ H' F', Own0 H0 H' F' → Rd C sh H' F' me (k + 1) (op ++ [.tuple [.str pn, .str rn]]) (rs ++ [[]]) → Q (.bl true) H'
theorem pure2 (p r : Str) : pureD (.tuple [.str p, .str r]) = true := by
  unfold pureD pureAll pureD pureAll pureD pureAll
  rfl
section
variable {P : Program} {w : World} {K : PySem.W.Frag} {mg : Str → Option Value} {base : Heap} {f fI C : Addr} {fd dI : FuncData}
theorem scTI : FnScope ["self", "words"] ["self", "words"] (defScope sTIf) := ⟨rfl, rfl, rfl, by decide +kernel, rfl, by decide +kernel, by decide +kernel⟩
theorem ok_takeIf (F : Fun K "take_if" "CodeReader.take_if" sTIf f fd) (R : RdC K C) (ln : mg "len" = none) (gI : mg "is_name" = some (.ref fI)) (kI : PySem.W.keepIn K (.ref fI) = true) (bI : Binds K dI ["value"] []) (GI : FnOk P w K mg base CX0 1 fI dI ["value"] spName) :
    FnOk P w K mg base CX0 2 f fd ["self", "words"] (spTIf C) := by
  refine F.ok scTI (fun vs H Q E h => ?_) (fun cdv A outer s H vs Q E hr h => ?_)
  · obtain ⟨H0, Fp, sh, me, p, k, op, rs, pn, rn, rfl, _⟩ := h
    rfl
  · obtain ⟨H0, Fp, sh, me, p, k, op, rs, pn, rn, rfl, ep, np, nr, rd, ow, lk, q⟩ := h
    refine ⟨_, pss_cons (ps_if (PW.pt (pw_or (pt_cmpR op_ne (pe_callB call_len_seq (by rfl) ln PySem.boot_len (pa_cons (pv 1) pa_nil)) pe_int (nomark _))
        (pw_or (pt_not (pt_val (pe_call GI hr (by rfl) gI kI bI .nil pass0 (pa_cons (pe_ix (r := rIxL K) ix_list (pv 1) pe_int (fun _ _ => rfl)) pa_nil))))
        (pw_or1 (pt_not (pt_val (pe_call GI hr (by rfl) gI kI bI .nil pass0 (pa_cons (pe_ix (r := rIxL K) ix_list (pv 1) pe_int (fun _ _ => rfl)) pa_nil)))))))) (pss_one (ps_ret pe_bl)) pss_nil)
      (pss_cons (ps_expr (pe_bm PySem.F.plainAttrs_list PySem.F.slot_list_append PySem.F.type_list_append mt_append (pe_fld (pv 0) rfl) (pa_cons (pe_tup (pa_cons (pe_ix (r := rIxL K) ix_list (pv 1) pe_int (fun _ _ => rfl)) (pa_cons (pe_ix (r := rIxL K) ix_list (pv 1) pe_int (fun _ _ => rfl)) pa_nil))) pa_nil)))
      (pss_cons (ps_expr (pe_bm PySem.F.plainAttrs_list PySem.F.slot_list_append PySem.F.type_list_append mt_append (pe_fld (pv 0) rfl) (pa_cons (pe_lst pa_nil) pa_nil)))
      (pss_one (ps_ret pe_bl)))), ?_⟩
    obtain ⟨⟨dx, o, r, as, xs, rfl, e1, e2, d, e3, RR⟩, nd, po, pr, lo, lr, ll, l9⟩ := rd
    have line : (1000 : Nat) < sizeLine := by decide
    have lx := d.length
    have la := RR.len
    refine ⟨_, rfl, p, _, rfl, .inl (SqL.of ep), rfl, _, rfl, iteF ?_⟩
    refine ⟨_, rfl, p, _, 1, .str pn, rfl, rfl, SqL.of ep, rfl, fun _ => True, .str pn, .str pn, rfl, .at (.str _), (name_small np).1, fun H1 s1 => ⟨_, rfl, ?_⟩⟩
    rw [np]
    refine iteF ⟨_, rfl, p, _, 2, .str rn, rfl, rfl, SqL.of (s1 _ _ ep), rfl, fun _ => True, .str rn, .str rn, rfl, .at (.str _), (name_small nr).1, fun H2 s2 => ⟨_, rfl, ?_⟩⟩
    rw [nr]
    have s12 := s1.trans s2
    refine iteF ⟨_, rfl, me, C, dx, _, .ref o, rfl, s12 _ _ e1, R.cl, R.no, rfl, ?_⟩
    have n1 : o ≠ r := fun z => (List.nodup_cons.mp nd).1 (by rw [z]; exact List.mem_cons_self ..)
    have n2 : ∀ a ∈ as, a ≠ o := fun a ha z => (List.nodup_cons.mp nd).1 (by rw [← z]; exact List.mem_cons_of_mem _ ha)
    have n3 : ∀ a ∈ as, a ≠ r := fun a ha z => (List.nodup_cons.mp (List.nodup_cons.mp nd).2).1 (by rw [← z]; exact ha)
    have mo : o ∈ o :: r :: as := List.mem_cons_self ..
    have mr : r ∈ o :: r :: as := List.mem_cons_of_mem _ (List.mem_cons_self ..)
    refine ⟨.inl ⟨rfl, xs, SqL.of (s12 _ _ e2)⟩, _, rfl, p, _, 1, .str pn, rfl, rfl, SqL.of (s12 _ _ ep), rfl, _, rfl, p, _, 2, .str rn, rfl, rfl, SqL.of (s12 _ _ ep), rfl, (by show 2 ≤ sizeLine; decide), fun t ht => ?_⟩
    have s3 := s12.trans (same_upd (o := .tup [.str pn, .str rn]) ht)
    have e2' := s3 _ _ e2
    refine ⟨o, xs, .ref t, rfl, rfl, e2', by omega, ?_⟩
    have w1 : Own0 H0 _ _ := ((ow.to s3).put (o := .lst (xs ++ [.ref t])) mo)
    have neo : me ≠ o := fun z => by rw [z, e2] at e1; cases e1
    have ner : me ≠ r := fun z => by rw [z, e3] at e1; cases e1
    refine ⟨_, rfl, me, C, dx, _, .ref r, rfl, by rw [upd_ne neo]; exact s3 _ _ e1, R.cl, R.nr, rfl, .inl ⟨rfl, as.map V.ref, SqL.of (by rw [upd_ne n1.symm]; exact s3 _ _ e3)⟩, (by show 0 ≤ sizeLine; decide), fun nq hq => ?_⟩
    have nqo : nq ≠ o := fun z => by rw [z, upd_same] at hq; cases hq
    have hq3 : upd H2 t (.tup [.str pn, .str rn]) nq = none := by rw [upd_ne nqo] at hq; exact hq
    have nqa : ∀ a ∈ as, a ≠ nq := fun a ha z => by
      obtain ⟨ys, e⟩ := RR.live a ha
      rw [← z, s3 _ _ e] at hq3
      cases hq3
    have nqr : nq ≠ r := fun z => by rw [z, s3 _ _ e3] at hq3; cases hq3
    have nqm : nq ≠ me := fun z => by rw [z, s3 _ _ e1] at hq3; cases hq3
    refine ⟨r, as.map V.ref, .ref nq, rfl, rfl, by rw [upd_ne nqr.symm, upd_ne n1.symm]; exact s3 _ _ e3, by rw [List.length_map]; omega, ?_⟩
    have w2 := (w1.new (o := .lst []) hq).put (o := .lst (as.map V.ref ++ [.ref nq])) mr
    have w3 : Own0 H0 _ (o :: r :: (as ++ [nq])) := ⟨w2.same, fun b hb => by
      rcases List.mem_cons.mp hb with rfl | hb
      · exact w2.own _ mo
      · rcases List.mem_cons.mp hb with rfl | hb
        · exact w2.own _ mr
        · rcases List.mem_append.mp hb with hb | hb
          · exact w2.own _ (List.mem_cons_of_mem _ (List.mem_cons_of_mem _ hb))
          · rw [List.mem_singleton.mp hb]
            exact w1.same.free hq⟩
    have t1 : TupS H (upd H2 t (.tup [.str pn, .str rn])) := .same s3
    have t2 := t1.trans (TupS.lst (o := .lst (xs ++ [.ref t])) e2')
    have t3 := t2.trans (.same (same_upd (o := .lst []) hq))
    have er3 : (upd (upd (upd H2 t (.tup [.str pn, .str rn])) o (.lst (xs ++ [.ref t]))) nq (.lst [])) r = some (.lst (as.map V.ref)) := by
      rw [upd_ne nqr.symm, upd_ne n1.symm]
      exact s3 _ _ e3
    have t4 := t3.trans (TupS.lst (o := .lst (as.map V.ref ++ [.ref nq])) er3)
    refine q _ (o :: r :: (as ++ [nq])) w3 ⟨⟨dx, o, r, as ++ [nq], xs ++ [.ref t], rfl, ?_, ?_, ?_, ?_, ?_⟩, ?_, ?_, ?_, ?_, ?_, ?_, ?_⟩
    · rw [upd_ne ner, upd_ne nqm.symm, upd_ne neo]
      exact s3 _ _ e1
    · rw [upd_ne n1, upd_ne nqo.symm, upd_same]
    · refine DtAll.app (d.tupS t4 po) (.cons (.tup trivial ?_ (by show 2 ≤ 1000; decide) (.cons (.at (.str _)) (.cons (.at (.str _)) .nil))) .nil)
      have nto : t ≠ o := fun z => by rw [z, s12 _ _ e2] at ht; cases ht
      have ntr : t ≠ r := fun z => by rw [z, s12 _ _ e3] at ht; cases ht
      have ntq : t ≠ nq := fun z => by rw [← z, upd_same] at hq3; cases hq3
      rw [upd_ne ntr, upd_ne ntq, upd_ne nto, upd_same]
    · rw [upd_same, List.map_append]
      rfl
    · refine RowsAt.snoc (ys := []) (by rw [upd_ne nqr, upd_same]) .nil (RR.keep pr (fun a ha => ?_) t4)
      obtain ⟨ys, e⟩ := RR.live a ha
      rw [upd_ne (n3 a ha), upd_ne (nqa a ha), upd_ne (n2 a ha), s3 _ _ e, e]
    · refine List.nodup_cons.mpr ⟨fun z => ?_, List.nodup_cons.mpr ⟨fun z => ?_, ?_⟩⟩
      · rcases List.mem_cons.mp z with z | z
        · exact n1 z
        · rcases List.mem_append.mp z with z | z
          · exact n2 _ z rfl
          · exact nqo (List.mem_singleton.mp z).symm
      · rcases List.mem_append.mp z with z | z
        · exact n3 _ z rfl
        · exact nqr (List.mem_singleton.mp z).symm
      · refine List.nodup_append.mpr ⟨(List.nodup_cons.mp (List.nodup_cons.mp nd).2).2, by simp, fun a ha b hb => ?_⟩
        rw [List.mem_singleton.mp hb]
        exact nqa a ha
    · rw [pureAll_app, po, pureAll_one, pure2]
      rfl
    · intro r' hr'
      rcases List.mem_append.mp hr' with h | h
      · exact pr r' h
      · rw [List.mem_singleton.mp h]
        unfold pureAll
        rfl
    · rw [List.length_append]
      show _ + 1 ≤ _
      omega
    · rw [List.length_append]
      show _ + 1 ≤ _
      omega
    · intro r' hr'
      rcases List.mem_append.mp hr' with h | h
      · exact Nat.le_succ_of_le (ll r' h)
      · rw [List.mem_singleton.mp h]
        exact Nat.zero_le _
    · omega
end
end OM

namespace OM
open PySem PySem.Spec PyProof.Rows L2
theorem DtAll.last {S : Addr → Prop} {H : Hp} {d : PyData} : ∀ {ds : List PyData} {xs : List V}, DtAll S H xs (ds ++ [d]) → ∃ xs' x, xs = xs' ++ [x] ∧ DtAll S H xs' ds ∧ Dt S H x d
  | [], _, .cons h .nil => ⟨[], _, rfl, .nil, h⟩
  | e :: ds, _, .cons h t => by
    obtain ⟨xs', x, rfl, t', h'⟩ := DtAll.last (ds := ds) t
    exact ⟨_ :: xs', x, rfl, .cons h t', h'⟩
theorem at_last {xs : List V} {x : V} : atI (xs ++ [x]) (-1) = some x := by
  unfold atI
  have e : ixN (xs ++ [x]).length (-1) = some xs.length := by
    unfold ixN
    rw [List.length_append, if_neg (by decide), if_pos (by simp; omega)]
    congr 1
    simp
    try omega
  rw [e]
  simp
theorem last_get {xs : List V} {x : V} : (xs ++ [x])[(xs ++ [x]).length - 1]? = some x := by
  simp
def spTEl (C : Addr) : Sp := fun vs H Q _ => ∃ (H0 : Hp) (F : List Addr) (sh : Bool) (me : Addr) (k : Nat) (op : List PyData) (rs : List (List PyData)) (pn rn : Str) (ys : List PyData), vs = [.ref me] ∧ Rd C sh H F me k (op ++ [.tuple [.str pn, .str rn]]) (rs ++ [ys]) ∧ Own0 H0 H F ∧ k < 900 ∧
  ∀ H' F', Own0 H0 H' F' → Rd C sh H' F' me (k + 1) (op ++ [.tuple [.str pn, .str rn, .tuple ys]]) (rs ++ [[]]) → Q (.bl true) H'
theorem pure3 {p r : Str} {ys : List PyData} (h : pureAll ys = true) : pureD (.tuple [.str p, .str r, .tuple ys]) = true := by
  have a : pureD (.tuple ys) = true := pure_tup h
  refine pure_tup ?_
  rw [pureAll_cons', pureAll_cons', pureAll_one, a]
  unfold pureD
  rfl
section
variable {P : Program} {w : World} {K : PySem.W.Frag} {mg : Str → Option Value} {base : Heap} {f C : Addr} {fd : FuncData}
theorem scTE : FnScope ["self", "test", "name"] ["self"] (defScope sTEl) := ⟨rfl, rfl, rfl, by decide +kernel, rfl, by decide +kernel, by decide +kernel⟩
theorem ok_takeElse (F : Fun K "take_else" "CodeReader.take_else" sTEl f fd) (R : RdC K C) (ln : mg "len" = none) (tp : mg "tuple" = none) : FnOk P w K mg base CX0 1 f fd ["self"] (spTEl C) := by
  refine F.ok scTE (fun vs H Q E h => ?_) (fun cdv A outer s H vs Q E hr h => ?_)
  · obtain ⟨H0, Fp, sh, me, k, op, rs, pn, rn, ys, rfl, _⟩ := h
    rfl
  · obtain ⟨H0, Fp, sh, me, k, op, rs, pn, rn, ys, rfl, rd, ow, lk, q⟩ := h
    refine ⟨_, pss_cons (ps_if (PW.pt (pw_or (pt_not (pt_truth (pe_fld (pv 0) rfl) (fun _ => rfl)))
        (pw_or1 (pt_cmpR op_eq (pe_callB call_len_seq (by rfl) ln PySem.boot_len (pa_cons (pe_ix (r := rIxL K) ix_list (pe_fld (pv 0) rfl) (pe_un un_neg pe_int) (fun _ _ => rfl)) pa_nil)) pe_int (nomark _))))) (pss_one (ps_ret pe_bl)) pss_nil)
      (pss_cons (ps_asg (pe_bm0 PySem.F.plainAttrs_list PySem.F.slot_list_pop PySem.F.type_list_pop mt_pop (pe_fld (pv 0) rfl)) (pg_tup rfl (pgs_cons (pg_name (i := 1) scTE.nd rfl (Or.inl rfl)) (pgs_cons (pg_name (i := 2) scTE.nd rfl (Or.inl rfl)) pgs_nil))))
      (pss_cons (ps_expr (pe_bm PySem.F.plainAttrs_list PySem.F.slot_list_append PySem.F.type_list_append mt_append (pe_fld (pv 0) rfl) (pa_cons (pe_tup (pa_cons (pv 1) (pa_cons (pv 2) (pa_cons (pe_callTy call_tuple_of (by rfl) tp (by decide +kernel) (pa_cons (pe_bm0 PySem.F.plainAttrs_list PySem.F.slot_list_pop PySem.F.type_list_pop mt_pop (pe_fld (pv 0) rfl)) pa_nil)) pa_nil)))) pa_nil)))
      (pss_cons (ps_expr (pe_bm PySem.F.plainAttrs_list PySem.F.slot_list_append PySem.F.type_list_append mt_append (pe_fld (pv 0) rfl) (pa_cons (pe_lst pa_nil) pa_nil)))
      (pss_one (ps_ret pe_bl))))), ?_⟩
    obtain ⟨⟨dx, o, r, as0, xs0, rfl, e1, e2, d, e3, RR⟩, nd, po, pr, lo, lr, ll, l9⟩ := rd
    have line : (1000 : Nat) < sizeLine := by decide
    obtain ⟨xs, x, rfl, d', hx⟩ := d.last
    obtain ⟨as, a, zs, rfl, RA, ea, dz⟩ := RR.split
    obtain ⟨b, xb, rfl, eb, lb, hb⟩ := hx.tup_of
    cases hb with
    | @cons x1 _ _ _ k1 hb =>
      cases hb with
      | @cons x2 _ _ _ k2 hb =>
        cases hb
        obtain rfl : x1 = .str pn := by
          cases k1 with
          | «at» a => cases a <;> rfl
        obtain rfl : x2 = .str rn := by
          cases k2 with
          | «at» a => cases a <;> rfl
        rw [pureAll_app, Bool.and_eq_true] at po
        have prs : pureRows rs := fun r hr => pr r (List.mem_append_left _ hr)
        have pys : pureAll ys = true := pr ys (List.mem_append_right _ (List.mem_singleton.mpr rfl))
        have lys := ll ys (List.mem_append_right _ (List.mem_singleton.mpr rfl))
        have lz := dz.length
        have lx := d'.length
        have la := RA.len
        rw [List.length_append] at lo lr
        have lo : op.length + 1 ≤ k := lo
        have lr : rs.length + 1 ≤ k + 1 := lr
        refine ⟨_, rfl, me, C, dx, _, .ref o, rfl, e1, R.cl, R.no, rfl, true, .inl ⟨_, SqL.of e2, by simp⟩, iteF ?_⟩
        refine ⟨_, rfl, me, C, dx, _, .ref o, rfl, e1, R.cl, R.no, rfl, 1, rfl, o, _, -1, .ref b, rfl, rfl, SqL.of e2, at_last, b, _, rfl, .inr (SqT.of eb), rfl, _, rfl, iteF ?_⟩
        have n1 : o ≠ r := fun z => (List.nodup_cons.mp nd).1 (by rw [z]; exact List.mem_cons_self ..)
        have n2 : ∀ c ∈ as, c ≠ o := fun c hc z => (List.nodup_cons.mp nd).1 (by rw [← z]; exact List.mem_cons_of_mem _ (List.mem_append_left _ hc))
        have n3 : ∀ c ∈ as, c ≠ r := fun c hc z => (List.nodup_cons.mp (List.nodup_cons.mp nd).2).1 (by rw [← z]; exact List.mem_append_left _ hc)
        have nao : a ≠ o := fun z => (List.nodup_cons.mp nd).1 (by rw [← z]; exact List.mem_cons_of_mem _ (List.mem_append_right _ (List.mem_singleton.mpr rfl)))
        have nar : a ≠ r := fun z => (List.nodup_cons.mp (List.nodup_cons.mp nd).2).1 (by rw [← z]; exact List.mem_append_right _ (List.mem_singleton.mpr rfl))
        have mo : o ∈ o :: r :: (as ++ [a]) := List.mem_cons_self ..
        have mr : r ∈ o :: r :: (as ++ [a]) := List.mem_cons_of_mem _ (List.mem_cons_self ..)
        have neo : me ≠ o := fun z => by rw [z, e2] at e1; cases e1
        have ner : me ≠ r := fun z => by rw [z, e3] at e1; cases e1
        have nbo : b ≠ o := fun z => by rw [z, e2] at eb; cases eb
        have nbr : b ≠ r := fun z => by rw [z, e3] at eb; cases eb
        refine ⟨_, rfl, me, C, dx, _, .ref o, rfl, e1, R.cl, R.no, rfl, .inl ⟨rfl, _, SqL.of e2⟩, o, _, .ref b, rfl, rfl, e2, last_get, ?_⟩
        rw [List.dropLast_concat]
        have t1 : TupS H (upd H o (.lst xs)) := TupS.lst e2
        have w1 := ow.put (o := .lst xs) mo
        have e3m : H r = some (.lst (as.map V.ref ++ [.ref a])) := by
          rw [e3, List.map_append]
          rfl
        have e31 : upd H o (.lst xs) r = some (.lst (as.map V.ref ++ [.ref a])) := by
          rw [upd_ne n1.symm]
          exact e3m
        have me1 : upd H o (.lst xs) me = some (insR C dx sh o r) := by
          rw [upd_ne neo]
          exact e1
        refine ⟨b, [.str pn, .str rn], rfl, SqT.of (by rw [upd_ne nbo]; exact eb), rfl, _, _, rfl, _, _, rfl, rfl, ?_⟩
        refine ⟨_, rfl, me, C, dx, _, .ref o, rfl, me1, R.cl, R.no, rfl, .inl ⟨rfl, _, SqL.of upd_same⟩, _, rfl, _, rfl, _, rfl, me, C, dx, _, .ref r, rfl, me1, R.cl, R.nr, rfl, .inl ⟨rfl, _, SqL.of e31⟩, r, _, .ref a, rfl, rfl, e31, last_get, ?_⟩
        rw [List.dropLast_concat]
        have t2 := t1.trans (TupS.lst (o := .lst (as.map V.ref)) e31)
        have w2 := w1.put (o := .lst (as.map V.ref)) mr
        have ea2 : upd (upd H o (.lst xs)) r (.lst (as.map V.ref)) a = some (.lst zs) := by
          rw [upd_ne nar, upd_ne nao]
          exact ea
        refine ⟨a, zs, rfl, .inl ⟨SqL.of ea2, fun l hl => ?_⟩⟩
        have t3 := t2.trans (.same (same_upd (o := .tup zs) hl))
        have w3 := w2.new (o := .tup zs) hl
        refine ⟨(by show 3 ≤ sizeLine; decide), fun t ht => ?_⟩
        have t4 := t3.trans (.same (same_upd (o := .tup [.str pn, .str rn, .ref l]) ht))
        have w4 := w3.new (o := .tup [.str pn, .str rn, .ref l]) ht
        have hlo : l ≠ o := fun z => by
          rw [z, upd_ne n1, upd_same] at hl
          cases hl
        have hlr : l ≠ r := fun z => by
          rw [z, upd_same] at hl
          cases hl
        have hto : t ≠ o := fun z => by
          rw [z, upd_ne hlo.symm, upd_ne n1, upd_same] at ht
          cases ht
        have htr : t ≠ r := fun z => by
          rw [z, upd_ne hlr.symm, upd_same] at ht
          cases ht
        have htl : t ≠ l := fun z => by
          rw [z, upd_same] at ht
          cases ht
        have eo4 : upd (upd (upd (upd H o (.lst xs)) r (.lst (as.map V.ref))) l (.tup zs)) t (.tup [.str pn, .str rn, .ref l]) o = some (.lst xs) := by
          rw [upd_ne hto.symm, upd_ne hlo.symm, upd_ne n1, upd_same]
        refine ⟨o, xs, .ref t, rfl, rfl, eo4, by omega, ?_⟩
        have t5 := t4.trans (TupS.lst (o := .lst (xs ++ [.ref t])) eo4)
        have w5 := w4.put (o := .lst (xs ++ [.ref t])) mo
        have hlm : l ≠ me := fun z => by
          rw [z, upd_ne ner, upd_ne neo, e1] at hl
          cases hl
        have htm : t ≠ me := fun z => by
          rw [z, upd_ne hlm.symm, upd_ne ner, upd_ne neo, e1] at ht
          cases ht
        have me5 : upd (upd (upd (upd (upd H o (.lst xs)) r (.lst (as.map V.ref))) l (.tup zs)) t (.tup [.str pn, .str rn, .ref l])) o (.lst (xs ++ [.ref t])) me = some (insR C dx sh o r) := by
          rw [upd_ne neo, upd_ne htm.symm, upd_ne hlm.symm, upd_ne ner, upd_ne neo]
          exact e1
        have er5 : upd (upd (upd (upd (upd H o (.lst xs)) r (.lst (as.map V.ref))) l (.tup zs)) t (.tup [.str pn, .str rn, .ref l])) o (.lst (xs ++ [.ref t])) r = some (.lst (as.map V.ref)) := by
          rw [upd_ne n1.symm, upd_ne htr.symm, upd_ne hlr.symm, upd_same]
        refine ⟨_, rfl, me, C, dx, _, .ref r, rfl, me5, R.cl, R.nr, rfl, .inl ⟨rfl, as.map V.ref, SqL.of er5⟩, (by show 0 ≤ sizeLine; decide), fun nq hq => ?_⟩
        have nqr : nq ≠ r := fun z => by rw [z, er5] at hq; cases hq
        refine ⟨r, as.map V.ref, .ref nq, rfl, rfl, by rw [upd_ne nqr.symm]; exact er5, by rw [List.length_map]; omega, ?_⟩
        have t6 := t5.trans (.same (same_upd (o := .lst []) hq))
        have er6 : upd (upd (upd (upd (upd (upd H o (.lst xs)) r (.lst (as.map V.ref))) l (.tup zs)) t (.tup [.str pn, .str rn, .ref l])) o (.lst (xs ++ [.ref t]))) nq (.lst []) r = some (.lst (as.map V.ref)) := by
          rw [upd_ne nqr.symm]
          exact er5
        have t7 := t6.trans (TupS.lst (o := .lst (as.map V.ref ++ [.ref nq])) er6)
        have nq0 := w5.same.free hq
        have w7 := (w5.new (o := .lst []) hq).put (o := .lst (as.map V.ref ++ [.ref nq])) mr
        have nqo : nq ≠ o := fun z => by rw [z, upd_same] at hq; cases hq
        have nqm : nq ≠ me := fun z => by rw [z, me5] at hq; cases hq
        have nqt : nq ≠ t := fun z => by rw [z, upd_ne hto, upd_same] at hq; cases hq
        have nql : nq ≠ l := fun z => by rw [z, upd_ne hlo, upd_ne htl.symm, upd_same] at hq; cases hq
        have live : ∀ c ∈ as, c ≠ nq ∧ c ≠ l ∧ c ≠ t := fun c hc => by
          obtain ⟨vs, ec⟩ := RA.live c hc
          have c1 : upd (upd H o (.lst xs)) r (.lst (as.map V.ref)) c = some (.lst vs) := by
            rw [upd_ne (n3 c hc), upd_ne (n2 c hc)]
            exact ec
          have cl : c ≠ l := ne_of_none c1 hl
          have c2 : upd (upd (upd H o (.lst xs)) r (.lst (as.map V.ref))) l (.tup zs) c = some (.lst vs) := by
            rw [upd_ne cl]
            exact c1
          have ct : c ≠ t := ne_of_none c2 ht
          have c3 : upd (upd (upd (upd (upd H o (.lst xs)) r (.lst (as.map V.ref))) l (.tup zs)) t (.tup [.str pn, .str rn, .ref l])) o (.lst (xs ++ [.ref t])) c = some (.lst vs) := by
            rw [upd_ne (n2 c hc), upd_ne ct]
            exact c2
          exact ⟨ne_of_none c3 hq, cl, ct⟩
        have w8 : Own0 H0 _ (o :: r :: (as ++ [nq])) := ⟨w7.same, fun c hc => by
          rcases List.mem_cons.mp hc with rfl | hc
          · exact w7.own _ mo
          · rcases List.mem_cons.mp hc with rfl | hc
            · exact w7.own _ mr
            · rcases List.mem_append.mp hc with hc | hc
              · exact w7.own _ (List.mem_cons_of_mem _ (List.mem_cons_of_mem _ (List.mem_append_left _ hc)))
              · rw [List.mem_singleton.mp hc]
                exact nq0⟩
        refine q _ (o :: r :: (as ++ [nq])) w8 ⟨⟨dx, o, r, as ++ [nq], xs ++ [.ref t], rfl, ?_, ?_, ?_, ?_, ?_⟩, ?_, ?_, ?_, ?_, ?_, ?_, ?_⟩
        · rw [upd_ne ner, upd_ne nqm.symm]
          exact me5
        · rw [upd_ne n1, upd_ne nqo.symm, upd_same]
        · have dl : Dt (fun _ => True) _ (.ref l) (.tuple ys) := .tup trivial (by rw [upd_ne hlr, upd_ne nql.symm, upd_ne hlo, upd_ne htl.symm, upd_same]) (by omega) (dz.tupS t7 pys)
          exact DtAll.app (d'.tupS t7 po.1) (.cons (.tup trivial (by rw [upd_ne htr, upd_ne nqt.symm, upd_ne hto, upd_same]) (by show 3 ≤ 1000; decide) (.cons (.at (.str _)) (.cons (.at (.str _)) (.cons dl .nil)))) .nil)
        · rw [upd_same, List.map_append]
          rfl
        · refine RowsAt.snoc (ys := []) (by rw [upd_ne nqr, upd_same]) .nil (RA.keep prs (fun c hc => ?_) t7)
          obtain ⟨c1, c2, c3⟩ := live c hc
          rw [upd_ne (n3 c hc), upd_ne c1, upd_ne (n2 c hc), upd_ne c3, upd_ne c2, upd_ne (n3 c hc), upd_ne (n2 c hc)]
        · refine List.nodup_cons.mpr ⟨fun z => ?_, List.nodup_cons.mpr ⟨fun z => ?_, ?_⟩⟩
          · rcases List.mem_cons.mp z with z | z
            · exact n1 z
            · rcases List.mem_append.mp z with z | z
              · exact n2 _ z rfl
              · exact nqo (List.mem_singleton.mp z).symm
          · rcases List.mem_append.mp z with z | z
            · exact n3 _ z rfl
            · exact nqr (List.mem_singleton.mp z).symm
          · have nda := (List.nodup_append.mp (List.nodup_cons.mp (List.nodup_cons.mp nd).2).2).1
            refine List.nodup_append.mpr ⟨nda, by simp, fun c hc b hb => ?_⟩
            rw [List.mem_singleton.mp hb]
            exact (live c hc).1
        · rw [pureAll_app, po.1, pureAll_one, pure3 pys]
          rfl
        · intro r' hr'
          rcases List.mem_append.mp hr' with h | h
          · exact prs r' h
          · rw [List.mem_singleton.mp h]
            unfold pureAll
            rfl
        · rw [List.length_append]
          show _ + 1 ≤ _
          omega
        · rw [List.length_append]
          show _ + 1 ≤ _
          omega
        · intro r' hr'
          rcases List.mem_append.mp hr' with h | h
          · exact Nat.le_succ_of_le (ll r' (List.mem_append_left _ h))
          · rw [List.mem_singleton.mp h]
            exact Nat.zero_le _
        · omega
end
end OM

namespace OM
open PySem PySem.Spec PyProof.Rows L2
def spTEn (C : Addr) : Sp := fun vs H Q _ => ∃ (H0 : Hp) (F : List Addr) (sh : Bool) (me : Addr) (k : Nat) (op : List PyData) (rs : List (List PyData)) (pn rn : Str) (rr ys ns : List PyData), vs = [.ref me] ∧ Rd C sh H F me k (op ++ [.tuple [.str pn, .str rn, .tuple ys]]) (rs ++ [rr] ++ [ns]) ∧ Own0 H0 H F ∧ k < 900 ∧
  ∀ H' F', Own0 H0 H' F' → Rd C sh H' F' me (k + 1) op (rs ++ [rr ++ [.tuple [.str "if", .str pn, .str rn, .tuple ys, .tuple ns]]]) → Q (.bl true) H'
theorem pure5 {w p r : Str} {ys ns : List PyData} (h : pureAll ys = true) (h2 : pureAll ns = true) : pureD (.tuple [.str w, .str p, .str r, .tuple ys, .tuple ns]) = true := by
  have a : pureD (.tuple ys) = true := pure_tup h
  have b : pureD (.tuple ns) = true := pure_tup h2
  have s : ∀ x : Str, pureD (.str x) = true := fun x => by unfold pureD; rfl
  refine pure_tup ?_
  rw [pureAll_cons', pureAll_cons', pureAll_cons', pureAll_cons', pureAll_one, a, b, s, s, s]
  rfl
section
variable {P : Program} {w : World} {K : PySem.W.Frag} {mg : Str → Option Value} {base : Heap} {f C : Addr} {fd : FuncData}
theorem scTn : FnScope ["self", "test", "name", "yes", "no"] ["self"] (defScope sTEn) := ⟨rfl, rfl, rfl, by decide +kernel, rfl, by decide +kernel, by decide +kernel⟩
theorem ok_takeEnd (F : Fun K "take_end" "CodeReader.take_end" sTEn f fd) (R : RdC K C) (ln : mg "len" = none) (tp : mg "tuple" = none) : FnOk P w K mg base CX0 1 f fd ["self"] (spTEn C) := by
  refine F.ok scTn (fun vs H Q E h => ?_) (fun cdv A outer s H vs Q E hr h => ?_)
  · obtain ⟨H0, Fp, sh, me, k, op, rs, pn, rn, rr, ys, ns, rfl, _⟩ := h
    rfl
  · obtain ⟨H0, Fp, sh, me, k, op, rs, pn, rn, rr, ys, ns, rfl, rd, ow, lk, q⟩ := h
    refine ⟨_, pss_cons (ps_if (PW.pt (pw_or (pt_not (pt_truth (pe_fld (pv 0) rfl) (fun _ => rfl)))
        (pw_or1 (pt_cmpR op_eq (pe_callB call_len_seq (by rfl) ln PySem.boot_len (pa_cons (pe_ix (r := rIxL K) ix_list (pe_fld (pv 0) rfl) (pe_un un_neg pe_int) (fun _ _ => rfl)) pa_nil)) pe_int (nomark _))))) (pss_one (ps_ret pe_bl)) pss_nil)
      (pss_cons (ps_asg (pe_bm0 PySem.F.plainAttrs_list PySem.F.slot_list_pop PySem.F.type_list_pop mt_pop (pe_fld (pv 0) rfl)) (pg_tup rfl (pgs_cons (pg_name (i := 1) scTn.nd rfl (Or.inl rfl)) (pgs_cons (pg_name (i := 2) scTn.nd rfl (Or.inl rfl)) (pgs_cons (pg_name (i := 3) scTn.nd rfl (Or.inl rfl)) pgs_nil)))))
      (pss_cons (ps_set (i := 4) scTn.nd rfl (Or.inl rfl) (pe_callTy call_tuple_of (by rfl) tp (by decide +kernel) (pa_cons (pe_bm0 PySem.F.plainAttrs_list PySem.F.slot_list_pop PySem.F.type_list_pop mt_pop (pe_fld (pv 0) rfl)) pa_nil)))
      (pss_cons (ps_expr (pe_bm PySem.F.plainAttrs_list PySem.F.slot_list_append PySem.F.type_list_append mt_append (pe_ix (r := rIxL K) ix_list (pe_fld (pv 0) rfl) (pe_un un_neg pe_int) (fun _ _ => rfl)) (pa_cons (pe_tup (pa_cons pe_str (pa_cons (pv 1) (pa_cons (pv 2) (pa_cons (pv 3) (pa_cons (pv 4) pa_nil)))))) pa_nil)))
      (pss_one (ps_ret pe_bl))))), ?_⟩
    obtain ⟨⟨dx, o, r, as0, xs0, rfl, e1, e2, d, e3, RR⟩, nd, po, pr, lo, lr, ll, l9⟩ := rd
    have line : (1000 : Nat) < sizeLine := by decide
    obtain ⟨xs, x, rfl, d', hx⟩ := d.last
    obtain ⟨as1, a, zs, rfl, RA1, ea, dz⟩ := RR.split
    obtain ⟨as, b, us, rfl, RA, ebb, du⟩ := RA1.split
    obtain ⟨c, xb, rfl, ec, lb, hb⟩ := hx.tup_of
    cases hb with
    | @cons x1 _ _ _ k1 hb =>
      cases hb with
      | @cons x2 _ _ _ k2 hb =>
        cases hb with
        | @cons x3 _ _ _ k3 hb =>
        cases hb
        obtain rfl : x1 = .str pn := by
          cases k1 with
          | «at» a => cases a <;> rfl
        obtain rfl : x2 = .str rn := by
          cases k2 with
          | «at» a => cases a <;> rfl
        rw [pureAll_app, Bool.and_eq_true, pureAll_one] at po
        have prs : pureRows rs := fun r hr => pr r (List.mem_append_left _ (List.mem_append_left _ hr))
        have prr : pureAll rr = true := pr rr (List.mem_append_left _ (List.mem_append_right _ (List.mem_singleton.mpr rfl)))
        have pns : pureAll ns = true := pr ns (List.mem_append_right _ (List.mem_singleton.mpr rfl))
        have pys : pureAll ys = true := by
          have := po.2
          unfold pureD at this
          rw [pureAll_cons', pureAll_cons', pureAll_one, Bool.and_eq_true, Bool.and_eq_true] at this
          have := this.2.2
          unfold pureD at this
          exact this
        have lns := ll ns (List.mem_append_right _ (List.mem_singleton.mpr rfl))
        have lrr := ll rr (List.mem_append_left _ (List.mem_append_right _ (List.mem_singleton.mpr rfl)))
        have lz := dz.length
        have lu := du.length
        have lx := d'.length
        have la := RA.len
        rw [List.length_append] at lo
        rw [List.length_append, List.length_append] at lr
        have lo : op.length + 1 ≤ k := lo
        have lr : rs.length + 1 + 1 ≤ k + 1 := lr
        refine ⟨_, rfl, me, C, dx, _, .ref o, rfl, e1, R.cl, R.no, rfl, true, .inl ⟨_, SqL.of e2, by simp⟩, iteF ?_⟩
        refine ⟨_, rfl, me, C, dx, _, .ref o, rfl, e1, R.cl, R.no, rfl, 1, rfl, o, _, -1, .ref c, rfl, rfl, SqL.of e2, at_last, c, _, rfl, .inr (SqT.of ec), rfl, _, rfl, iteF ?_⟩
        have ndr := (List.nodup_cons.mp nd).2
        have n1 : o ≠ r := fun z => (List.nodup_cons.mp nd).1 (by rw [z]; exact List.mem_cons_self ..)
        have mas : ∀ z ∈ as ++ [b], z ∈ as ++ [b] ++ [a] := fun z hz => List.mem_append_left _ hz
        have n2 : ∀ z ∈ as ++ [b], z ≠ o := fun z hz e => (List.nodup_cons.mp nd).1 (by rw [← e]; exact List.mem_cons_of_mem _ (mas z hz))
        have n3 : ∀ z ∈ as ++ [b], z ≠ r := fun z hz e => (List.nodup_cons.mp ndr).1 (by rw [← e]; exact mas z hz)
        have mb : b ∈ as ++ [b] := List.mem_append_right _ (List.mem_singleton.mpr rfl)
        have nao : a ≠ o := fun z => (List.nodup_cons.mp nd).1 (by rw [← z]; exact List.mem_cons_of_mem _ (List.mem_append_right _ (List.mem_singleton.mpr rfl)))
        have nar : a ≠ r := fun z => (List.nodup_cons.mp ndr).1 (by rw [← z]; exact List.mem_append_right _ (List.mem_singleton.mpr rfl))
        have ndas := (List.nodup_append.mp (List.nodup_cons.mp ndr).2).1
        have nab : ∀ z ∈ as, z ≠ b := fun z hz => (List.nodup_append.mp ndas).2.2 z hz b (List.mem_singleton.mpr rfl)
        have mo : o ∈ o :: r :: (as ++ [b] ++ [a]) := List.mem_cons_self ..
        have mr : r ∈ o :: r :: (as ++ [b] ++ [a]) := List.mem_cons_of_mem _ (List.mem_cons_self ..)
        have mbF : b ∈ o :: r :: (as ++ [b] ++ [a]) := List.mem_cons_of_mem _ (List.mem_cons_of_mem _ (mas b mb))
        have neo : me ≠ o := fun z => by rw [z, e2] at e1; cases e1
        have ner : me ≠ r := fun z => by rw [z, e3] at e1; cases e1
        have neb : me ≠ b := fun z => by rw [z, ebb] at e1; cases e1
        have nco : c ≠ o := fun z => by rw [z, e2] at ec; cases ec
        have ncr : c ≠ r := fun z => by rw [z, e3] at ec; cases ec
        refine ⟨_, rfl, me, C, dx, _, .ref o, rfl, e1, R.cl, R.no, rfl, .inl ⟨rfl, _, SqL.of e2⟩, o, _, .ref c, rfl, rfl, e2, last_get, ?_⟩
        rw [List.dropLast_concat]
        have t1 : TupS H (upd H o (.lst xs)) := TupS.lst e2
        have w1 := ow.put (o := .lst xs) mo
        have e3m : H r = some (.lst ((as ++ [b]).map V.ref ++ [.ref a])) := by
          rw [e3, List.map_append]
          rfl
        have e31 : upd H o (.lst xs) r = some (.lst ((as ++ [b]).map V.ref ++ [.ref a])) := by
          rw [upd_ne n1.symm]
          exact e3m
        have me1 : upd H o (.lst xs) me = some (insR C dx sh o r) := by
          rw [upd_ne neo]
          exact e1
        refine ⟨c, [.str pn, .str rn, x3], rfl, SqT.of (by rw [upd_ne nco]; exact ec), rfl, _, _, rfl, _, _, rfl, _, _, rfl, rfl, ?_⟩
        refine ⟨_, rfl, me, C, dx, _, .ref r, rfl, me1, R.cl, R.nr, rfl, .inl ⟨rfl, _, SqL.of e31⟩, r, _, .ref a, rfl, rfl, e31, last_get, ?_⟩
        rw [List.dropLast_concat]
        have t2 := t1.trans (TupS.lst (o := .lst ((as ++ [b]).map V.ref)) e31)
        have w2 := w1.put (o := .lst ((as ++ [b]).map V.ref)) mr
        have ea2 : upd (upd H o (.lst xs)) r (.lst ((as ++ [b]).map V.ref)) a = some (.lst zs) := by
          rw [upd_ne nar, upd_ne nao]
          exact ea
        refine ⟨a, zs, rfl, .inl ⟨SqL.of ea2, fun l hl => ?_⟩⟩
        have t3 := t2.trans (.same (same_upd (o := .tup zs) hl))
        have w3 := w2.new (o := .tup zs) hl
        have hlo : l ≠ o := fun z => by
          rw [z, upd_ne n1, upd_same] at hl
          cases hl
        have hlr : l ≠ r := fun z => by
          rw [z, upd_same] at hl
          cases hl
        have hlm : l ≠ me := fun z => by
          rw [z, upd_ne ner, upd_ne neo, e1] at hl
          cases hl
        have hlb : l ≠ b := fun z => by
          rw [z, upd_ne (n3 b mb), upd_ne (n2 b mb), ebb] at hl
          cases hl
        have me3 : upd (upd (upd H o (.lst xs)) r (.lst ((as ++ [b]).map V.ref))) l (.tup zs) me = some (insR C dx sh o r) := by
          rw [upd_ne hlm.symm, upd_ne ner, upd_ne neo]
          exact e1
        have er3 : upd (upd (upd H o (.lst xs)) r (.lst ((as ++ [b]).map V.ref))) l (.tup zs) r = some (.lst (as.map V.ref ++ [.ref b])) := by
          rw [upd_ne hlr.symm, upd_same, List.map_append]
          rfl
        have eb3 : upd (upd (upd H o (.lst xs)) r (.lst ((as ++ [b]).map V.ref))) l (.tup zs) b = some (.lst us) := by
          rw [upd_ne hlb.symm, upd_ne (n3 b mb), upd_ne (n2 b mb)]
          exact ebb
        refine ⟨_, rfl, me, C, dx, _, .ref r, rfl, me3, R.cl, R.nr, rfl, 1, rfl, r, _, -1, .ref b, rfl, rfl, SqL.of er3, at_last, .inl ⟨rfl, us, SqL.of eb3⟩, _, rfl, _, rfl, _, rfl, _, rfl, (by show 5 ≤ sizeLine; decide), fun t ht => ?_⟩
        have t4 := t3.trans (.same (same_upd (o := .tup [.str "if", .str pn, .str rn, x3, .ref l]) ht))
        have w4 := w3.new (o := .tup [.str "if", .str pn, .str rn, x3, .ref l]) ht
        have htl : t ≠ l := fun z => by
          rw [z, upd_same] at ht
          cases ht
        have htb : t ≠ b := fun z => by
          rw [z, eb3] at ht
          cases ht
        have htm : t ≠ me := fun z => by
          rw [z, me3] at ht
          cases ht
        have htr : t ≠ r := fun z => by
          rw [z, er3] at ht
          cases ht
        have hto : t ≠ o := fun z => by
          rw [z, upd_ne hlo.symm, upd_ne n1, upd_same] at ht
          cases ht
        have eb4 : upd (upd (upd (upd H o (.lst xs)) r (.lst ((as ++ [b]).map V.ref))) l (.tup zs)) t (.tup [.str "if", .str pn, .str rn, x3, .ref l]) b = some (.lst us) := by
          rw [upd_ne htb.symm]
          exact eb3
        refine ⟨b, us, .ref t, rfl, rfl, eb4, by omega, ?_⟩
        have t5 := t4.trans (TupS.lst (o := .lst (us ++ [.ref t])) eb4)
        have w5 := w4.put (o := .lst (us ++ [.ref t])) mbF
        have w8 : Own0 H0 _ (o :: r :: (as ++ [b])) := ⟨w5.same, fun z hz => by
          rcases List.mem_cons.mp hz with rfl | hz
          · exact w5.own _ mo
          · rcases List.mem_cons.mp hz with rfl | hz
            · exact w5.own _ mr
            · exact w5.own _ (List.mem_cons_of_mem _ (List.mem_cons_of_mem _ (mas z hz)))⟩
        have live : ∀ z ∈ as, z ≠ l ∧ z ≠ t := fun z hz => by
          obtain ⟨vs, ez⟩ := RA.live z hz
          have hz' : z ∈ as ++ [b] := List.mem_append_left _ hz
          have c1 : upd (upd H o (.lst xs)) r (.lst ((as ++ [b]).map V.ref)) z = some (.lst vs) := by
            rw [upd_ne (n3 z hz'), upd_ne (n2 z hz')]
            exact ez
          have cl : z ≠ l := ne_of_none c1 hl
          have c2 : upd (upd (upd H o (.lst xs)) r (.lst ((as ++ [b]).map V.ref))) l (.tup zs) z = some (.lst vs) := by
            rw [upd_ne cl]
            exact c1
          exact ⟨cl, ne_of_none c2 ht⟩
        refine q _ (o :: r :: (as ++ [b])) w8 ⟨⟨dx, o, r, as ++ [b], xs, rfl, ?_, ?_, d'.tupS t5 po.1, ?_, ?_⟩, ?_, po.1, ?_, ?_, ?_, ?_, ?_⟩
        · rw [upd_ne neb, upd_ne htm.symm]
          exact me3
        · rw [upd_ne (n2 b mb).symm, upd_ne hto.symm, upd_ne hlo.symm, upd_ne n1, upd_same]
        · rw [upd_ne (n3 b mb).symm, upd_ne htr.symm, upd_ne hlr.symm, upd_same]
        · refine RowsAt.snoc (ys := us ++ [.ref t]) upd_same (DtAll.app (du.tupS t5 prr) (.cons (.tup trivial (by rw [upd_ne htb, upd_same]) (by show 5 ≤ 1000; decide) (.cons (.at (.str _)) (.cons (.at (.str _)) (.cons (.at (.str _)) (.cons (k3.tupS t5 (pure_tup pys)) (.cons (.tup trivial (by rw [upd_ne hlb, upd_ne htl.symm, upd_same]) (by omega) (dz.tupS t5 pns)) .nil)))))) .nil)) (RA.keep prs (fun z hz => ?_) t5)
          obtain ⟨c1, c2⟩ := live z hz
          have hz' : z ∈ as ++ [b] := List.mem_append_left _ hz
          rw [upd_ne (nab z hz), upd_ne c2, upd_ne c1, upd_ne (n3 z hz'), upd_ne (n2 z hz')]
        · exact List.nodup_cons.mpr ⟨fun z => by
            rcases List.mem_cons.mp z with z | z
            · exact n1 z
            · exact n2 _ z rfl, List.nodup_cons.mpr ⟨fun z => n3 _ z rfl, ndas⟩⟩
        · intro r' hr'
          rcases List.mem_append.mp hr' with h | h
          · exact prs r' h
          · rw [List.mem_singleton.mp h, pureAll_app, prr, pureAll_one, pure5 pys pns]
            rfl
        · omega
        · rw [List.length_append]
          show _ + 1 ≤ _
          omega
        · intro r' hr'
          rcases List.mem_append.mp hr' with h | h
          · exact Nat.le_succ_of_le (ll r' (List.mem_append_left _ (List.mem_append_left _ h)))
          · rw [List.mem_singleton.mp h, List.length_append]
            show _ + 1 ≤ _
            omega
        · omega
end
end OM

namespace OM
open PySem PySem.Spec PyProof.Rows L2
theorem eqv_strs : ∀ xs ys : List Str, PyData.eqvAll (xs.map PyData.str) (ys.map PyData.str) = decide (xs = ys)
  | [], [] => rfl
  | x :: xs, [] => by
    show PyData.eqvAll (.str x :: xs.map PyData.str) [] = false
    unfold PyData.eqvAll
    rfl
  | [], y :: ys => by
    show PyData.eqvAll [] (.str y :: ys.map PyData.str) = false
    unfold PyData.eqvAll
    rfl
  | x :: xs, y :: ys => by
    have h := eqv_strs xs ys
    show PyData.eqvAll (.str x :: xs.map PyData.str) (.str y :: ys.map PyData.str) = _
    unfold PyData.eqvAll
    have e : PyData.eqv (.str x) (.str y) = (x == y) := by unfold PyData.eqv; rfl
    rw [h, e, Bool.eq_iff_iff]
    simp
theorem eqv_listS (xs ys : List Str) : PyData.eqv (.list (xs.map PyData.str)) (.list (ys.map PyData.str)) = decide (xs = ys) := by
  rw [← eqv_strs]
  unfold PyData.eqv
  rfl
theorem lay_strs : ∀ xs : List Str, (∀ x ∈ xs, PyData.strOk x = true) → PyData.canLayAll0 (xs.map PyData.str) = true
  | [], _ => rfl
  | x :: xs, h => by
    show (PyData.canLay0 (.str x) && PyData.canLayAll0 (xs.map PyData.str)) = true
    rw [lay_strs xs fun y hy => h y (List.mem_cons_of_mem _ hy), Bool.and_true]
    have := h x (List.mem_cons_self ..)
    unfold PyData.canLay0
    exact this
theorem dep_strs : ∀ xs : List Str, PyData.depthAll (xs.map PyData.str) = 0
  | [] => rfl
  | x :: xs => by
    show max (PyData.depth (.str x)) (PyData.depthAll (xs.map PyData.str)) = 0
    rw [dep_strs xs]
    rfl
theorem sh_strs (xs : List Str) (h : ∀ x ∈ xs, PyData.strOk x = true) : SeqAt.shaped (.list (xs.map PyData.str)) = true := by
  show (PyData.canLay0 (.list (xs.map PyData.str)) && decide (PyData.depth (.list (xs.map PyData.str)) ≤ 64)) = true
  have h1 : PyData.canLay0 (.list (xs.map PyData.str)) = true := by
    unfold PyData.canLay0
    exact lay_strs xs h
  have h2 : PyData.depth (.list (xs.map PyData.str)) ≤ 64 := by
    unfold PyData.depth
    rw [dep_strs]
    decide
  rw [h1, decide_eq_true h2]
  rfl
theorem word_strOk {x : Str} (h : wordOk x = true) : PyData.strOk x = true := by
  unfold wordOk at h
  simp only [Bool.and_eq_true] at h
  unfold PyData.strOk
  rw [Array.all_eq_true']
  intro c hc
  have := List.all_eq_true.mp h.2.2 c (by simpa using hc)
  unfold let1 at this
  simp only [Bool.and_eq_true, decide_eq_true_eq] at this
  exact decide_eq_true (by omega)
theorem ws_sh {ws : List Str} (h : WsOk ws) : SeqAt.shaped (.list (ws.map PyData.str)) = true := sh_strs ws fun x hx => word_strOk (h.2.2 x hx)
theorem else_sh : SeqAt.shaped (.list (([("else" : Str)] : List Str).map PyData.str)) = true := by decide +kernel
theorem end_sh : SeqAt.shaped (.list (([("end" : Str)] : List Str).map PyData.str)) = true := by decide +kernel
def spTake (C : Addr) : Sp := fun vs H Q _ => ∃ (H0 : Hp) (F : List Addr) (sh : Bool) (me : Addr) (k : Nat) (s s' : RSt) (ws : List Str), vs = [.ref me, .str (lineW ws)] ∧ Rd C sh H F me k s.1 s.2 ∧ Own0 H0 H F ∧ k < 900 ∧ Step sh ws s s' ∧
  ∀ H' F', Own0 H0 H' F' → Rd C sh H' F' me (k + 1) s'.1 s'.2 → Q (.bl true) H'
section
variable {P : Program} {w : World} {K : PySem.W.Frag} {mg : Str → Option Value} {base : Heap} {f fE fN fI fS C : Addr} {fd dE dN dI dS : FuncData}
theorem scTk : FnScope ["self", "line", "words", "statement"] ["self", "line"] (defScope sTake) := ⟨rfl, rfl, rfl, by decide +kernel, rfl, by decide +kernel, by decide +kernel⟩
theorem ok_take (F : Fun K "take" "CodeReader.take" sTake f fd) (R : RdC K C) (mE : Meth K C "take_else" fE) (bE : Binds K dE ["self"] []) (GE : FnOk P w K mg base CX0 1 fE dE ["self"] (spTEl C)) (mN : Meth K C "take_end" fN) (bN : Binds K dN ["self"] []) (GN : FnOk P w K mg base CX0 1 fN dN ["self"] (spTEn C))
    (mI : Meth K C "take_if" fI) (bI : Binds K dI ["self", "words"] []) (GI : FnOk P w K mg base CX0 2 fI dI ["self", "words"] (spTIf C)) (gS : mg "_statement_of" = some (.ref fS)) (kS : PySem.W.keepIn K (.ref fS) = true) (bS : Binds K dS ["words"] []) (GS : FnOk P w K mg base CX0 2 fS dS ["words"] spStOf) :
    FnOk P w K mg base CX0 3 f fd ["self", "line"] (spTake C) := by
  refine F.ok scTk (fun vs H Q E h => ?_) (fun cdv A outer s H vs Q E hr h => ?_)
  · obtain ⟨H0, Fp, sh, me, k, st, st', ws, rfl, _⟩ := h
    rfl
  · obtain ⟨H0, Fp, sh, me, k, st, st', ws, rfl, rd, ow, lk, step, q⟩ := h
    have hu : (A.deeper (envOfC "CodeReader.take" (defScope sTake) s.heap.objs.size f cdv)).units + 64 < cLine := by
      have := hr.un
      omega
    refine ⟨_, pss_cons (ps_set (i := 2) scTk.nd rfl (Or.inl rfl) (pe_bm PySem.F.plainAttrs_str PySem.F.slot_str_split PySem.F.type_str_split mt_split (pv 1) (pa_cons pe_str pa_nil)))
      (pss_cons (ps_if (pt_cmpR (op_eqD hu) (pv 2) (pe_lst (pa_cons pe_str pa_nil)) (nomark _)) (pss_one (ps_ret (pe_meth0 (pv 0) R.cl mE GE (hr.mono (by decide)) bE .nil pass0))) pss_nil)
      (pss_cons (ps_if (pt_cmpR (op_eqD hu) (pv 2) (pe_lst (pa_cons pe_str pa_nil)) (nomark _)) (pss_one (ps_ret (pe_meth0 (pv 0) R.cl mN GN (hr.mono (by decide)) bN .nil pass0))) pss_nil)
      (pss_cons (ps_if (pt_cmpR op_eq (pe_ix (r := rIxL K) ix_list (pv 2) pe_int (fun _ _ => rfl)) pe_str (nomark _)) (pss_one (ps_ret (pe_meth (pv 0) R.cl mI GI hr bI .nil pass0 (pa_cons (pv 2) pa_nil)))) pss_nil)
      (pss_cons (ps_set (i := 3) scTk.nd rfl (Or.inl rfl) (pe_call GS hr (by rfl) gS kS bS .nil pass0 (pa_cons (pv 2) pa_nil)))
      (pss_cons (ps_if (PW.pt (pw_or (pt_cmp (pc_isN (pv 3))) (pw_or1 (PW.pt (pw_and (pt_cmpR op_eq (pe_ix (r := rIxL K) ix_list (pv 2) pe_int (fun _ _ => rfl)) pe_str (nomark _)) (pw_and1 (pt_not (pt_val (pe_fld (pv 0) rfl))))))))) (pss_one (ps_ret pe_bl)) pss_nil)
      (pss_cons (ps_expr (pe_bm PySem.F.plainAttrs_list PySem.F.slot_list_append PySem.F.type_list_append mt_append (pe_ix (r := rIxL K) ix_list (pe_fld (pv 0) rfl) (pe_un un_neg pe_int) (fun _ _ => rfl)) (pa_cons (pv 3) pa_nil)))
      (pss_one (ps_ret pe_bl)))))))), ?_⟩
    have ok := step_ok step
    have ll := line_len ok
    have line : (1000 : Nat) < sizeLine := by decide
    refine ⟨_, rfl, rfl, lineW ws, spS, rfl, rfl, by decide +kernel, by omega, fun p hp => ?_⟩
    rw [split_words ok.1 ok.2.2]
    have s1 := same_upd (o := .lst (ws.map V.str)) hp
    refine ⟨_, rfl, (by show 1 ≤ sizeLine; decide), fun p1 hp1 => ?_⟩
    have s2 := s1.trans (same_upd (o := .lst [.str "else"]) hp1)
    have ep2 := same_upd (o := .lst [.str "else"]) hp1 _ _ (upd_same (H := H) (a := p) (o := .lst (ws.map V.str)))
    refine ⟨.list (ws.map PyData.str), .list (([("else" : Str)] : List Str).map PyData.str), .lst (SqL.of ep2) (dp_strs ws), .lst (SqL.of upd_same) (dp_strs [("else" : Str)]), ws_sh ok, else_sh, ?_⟩
    rw [eqv_listS]
    have rd2 := rd.mv s2
    have ow2 := ow.to s2
    have tru : ∀ {a b : List Str}, a = b → decide (a = b) = true := fun h => decide_eq_true h
    refine ⟨_, rfl, ?_⟩
    generalize hws : ws = ws' at step
    generalize hst : st = st0 at step
    cases step with
    | els =>
      subst hws
      subst hst
      rw [decide_eq_true rfl]
      obtain ⟨⟨dx, o, r, as, xs, eF, e1, _⟩, _⟩ := rd2
      exact iteT ⟨_, rfl, me, dx, _, rfl, e1, rfl, H0, Fp, sh, me, k, _, _, _, _, _, rfl, rd.mv s2, ow2, lk, q⟩
    | fin =>
      subst hws
      subst hst
      rw [decide_eq_false (by decide +kernel)]
      refine iteF ⟨_, rfl, (by show 1 ≤ sizeLine; decide), fun p2 hp2 => ?_⟩
      have s3 := s2.trans (same_upd (o := .lst [.str "end"]) hp2)
      have ep3 := same_upd (o := .lst [.str "end"]) hp2 _ _ ep2
      refine ⟨.list (List.map PyData.str _), .list (([("end" : Str)] : List Str).map PyData.str), .lst (SqL.of ep3) (dp_strs _), .lst (SqL.of upd_same) (dp_strs [("end" : Str)]), ws_sh ok, end_sh, ?_⟩
      rw [eqv_listS, decide_eq_true rfl]
      have rd3 := rd.mv s3
      obtain ⟨⟨dx, o, r, as, xs, eF, e1, _⟩, _⟩ := rd3
      exact ⟨_, rfl, iteT ⟨_, rfl, me, dx, _, rfl, e1, rfl, H0, Fp, sh, me, k, _, _, _, _, _, _, _, rfl, rd.mv s3, ow.to s3, lk, q⟩⟩
    | iff hp0 hr0 =>
      subst hws
      subst hst
      rw [decide_eq_false (fun z => by injection z with z1 _; exact absurd z1 (by decide +kernel))]
      refine iteF ⟨_, rfl, (by show 1 ≤ sizeLine; decide), fun p2 hp2 => ?_⟩
      have s3 := s2.trans (same_upd (o := .lst [.str "end"]) hp2)
      have ep3 := same_upd (o := .lst [.str "end"]) hp2 _ _ ep2
      refine ⟨.list (List.map PyData.str _), .list (([("end" : Str)] : List Str).map PyData.str), .lst (SqL.of ep3) (dp_strs _), .lst (SqL.of upd_same) (dp_strs [("end" : Str)]), ws_sh ok, end_sh, ?_⟩
      rw [eqv_listS, decide_eq_false (fun z => by injection z with z1 _; exact absurd z1 (by decide +kernel))]
      have rd3 := rd.mv s3
      obtain ⟨⟨dx, o, r, as, xs, eF, e1, _⟩, _⟩ := rd3
      exact ⟨_, rfl, iteF ⟨_, rfl, p, _, 0, _, rfl, rfl, SqL.of ep3, at0, rfl, _, rfl, iteT ⟨_, rfl, me, dx, _, rfl, e1, rfl, _, rfl, H0, Fp, sh, me, p, k, _, _, _, _, rfl, ep3, hp0, hr0, rd.mv s3, ow.to s3, lk, q⟩⟩⟩
    | @leaf dd op rs rr row hsh =>
      subst hws
      subst hst
      obtain ⟨w0, wr, ew, n1, n2, n3, hf, l4, nm, okw⟩ := leaf_ok row
      rw [decide_eq_false (show ¬ wordsD dd = [("else" : Str)] from fun z => by rw [ew] at z; injection z with z1 _; exact n2 z1)]
      refine iteF ⟨_, rfl, (by show 1 ≤ sizeLine; decide), fun p2 hp2 => ?_⟩
      have s3 := s2.trans (same_upd (o := .lst [.str "end"]) hp2)
      have ep3 := same_upd (o := .lst [.str "end"]) hp2 _ _ ep2
      refine ⟨.list (List.map PyData.str _), .list (([("end" : Str)] : List Str).map PyData.str), .lst (SqL.of ep3) (dp_strs _), .lst (SqL.of upd_same) (dp_strs [("end" : Str)]), ws_sh ok, end_sh, ?_⟩
      rw [eqv_listS, decide_eq_false (show ¬ wordsD dd = [("end" : Str)] from fun z => by rw [ew] at z; injection z with z1 _; exact n3 z1)]
      have ep3' := ep3.trans (show some (HO.lst ((wordsD dd).map V.str)) = some (HO.lst (V.str w0 :: wr.map V.str)) by rw [ew, List.map_cons])
      refine ⟨_, rfl, iteF ⟨_, rfl, p, _, 0, _, rfl, rfl, SqL.of ep3', at0, rfl, _, rfl, ?_⟩⟩
      rw [decide_eq_false (fun z => n1 (V.str.inj z))]
      refine iteF ⟨_, rfl, p, dd, rfl, row, ep3, fun H4 v4 s4 d4 => ?_⟩
      have s34 := s3.trans s4
      obtain ⟨wd, rest, ed, _⟩ := leaf_words row
      have hd4 := d4
      rw [ed] at hd4
      obtain ⟨va, xv, rfl, ev, lv, _⟩ := hd4.tup_of
      have rd4 := rd.mv s34
      have ow4 := ow.to s34
      have ep4 := s4 _ _ ep3'
      obtain ⟨⟨dx, o, r, as0, xs, rfl, e1, e2, d, e3, RR⟩, nd, po, pr, lo, lr, l8, l9⟩ := rd4
      obtain ⟨as, a, zs, rfl, RA, ea, dz⟩ := RR.split
      have e3m : H4 r = some (.lst (as.map V.ref ++ [.ref a])) := by
        rw [e3, List.map_append]
        rfl
      have lz := dz.length
      have lrr := l8 rr (List.mem_append_right _ (List.mem_singleton.mpr rfl))
      have prd : pureD dd = true := (row_pure 0 dd row).1
      have mA : a ∈ o :: r :: (as ++ [a]) := List.mem_cons_of_mem _ (List.mem_cons_of_mem _ (List.mem_append_right _ (List.mem_singleton.mpr rfl)))
      refine ⟨_, rfl, _, rfl, ?_⟩
      rw [decide_eq_false (show ¬ V.ref va = V.non from fun z => nomatch z)]
      refine cutHs (fun c => iteF ⟨_, rfl, p, _, 0, _, rfl, rfl, SqL.of ep4, at0, rfl, _, rfl, ite2 (fun kk => ?_) (fun _ => iteF c)⟩) ?_
      · have shT : sh = true := hsh.resolve_right fun z => by
          have e0 : w0 = "show" := V.str.inj (of_decide_eq_true kk)
          rw [ed] at z
          obtain ⟨w9, rest9, ed9, _, _, _, hc9⟩ := leaf_words row
          rw [ed] at ed9
          injection ed9 with ed9
          injection ed9 with q1 q2
          injection q1 with q1
          have : wd = w0 := by
            rcases hc9 with ⟨_, _, ew9, _⟩ | ⟨rfl, y1, y2, as9, _, _, _, _, _, ew9⟩
            · rw [ew] at ew9
              exact q1.trans (List.cons.inj ew9).1.symm
            · rw [ew] at ew9
              exact q1.trans (List.cons.inj ew9).1.symm
          exact z (this.trans e0)
        subst shT
        exact ⟨_, rfl, me, C, dx, _, .bl true, rfl, e1, R.cl, R.ns, rfl, _, rfl, iteF c⟩
      refine ⟨_, rfl, me, C, dx, _, .ref r, rfl, e1, R.cl, R.nr, rfl, 1, rfl, r, _, -1, .ref a, rfl, rfl, SqL.of e3m, at_last, .inl ⟨rfl, zs, SqL.of ea⟩, _, rfl, a, zs, .ref va, rfl, rfl, ea, by omega, ?_⟩
      have t5 : TupS H4 (upd H4 a (.lst (zs ++ [.ref va]))) := TupS.lst ea
      have ndr := (List.nodup_cons.mp nd).2
      have nda := (List.nodup_cons.mp ndr).2
      have nab : ∀ z ∈ as, z ≠ a := fun z hz => (List.nodup_append.mp nda).2.2 z hz a (List.mem_singleton.mpr rfl)
      have nao : a ≠ o := fun z => (List.nodup_cons.mp nd).1 (by rw [← z]; exact List.mem_cons_of_mem _ (List.mem_append_right _ (List.mem_singleton.mpr rfl)))
      have nar : a ≠ r := fun z => (List.nodup_cons.mp ndr).1 (by rw [← z]; exact List.mem_append_right _ (List.mem_singleton.mpr rfl))
      have nam : me ≠ a := fun z => by rw [z, ea] at e1; cases e1
      have prs : pureRows rs := fun x hx => pr x (List.mem_append_left _ hx)
      have prr : pureAll rr = true := pr rr (List.mem_append_right _ (List.mem_singleton.mpr rfl))
      rw [List.length_append] at lr
      have lr : rs.length + 1 ≤ k + 1 := lr
      refine q _ (o :: r :: (as ++ [a])) (ow4.put (o := .lst (zs ++ [.ref va])) mA) ⟨⟨dx, o, r, as ++ [a], xs, rfl, ?_, ?_, d.tupS t5 po, ?_, ?_⟩, nd, po, ?_, ?_, ?_, ?_, ?_⟩
      · rw [upd_ne nam]
        exact e1
      · rw [upd_ne nao.symm]
        exact e2
      · rw [upd_ne nar.symm]
        exact e3
      · exact RowsAt.snoc upd_same (DtAll.app (dz.tupS t5 prr) (.cons (d4.tupS t5 prd) .nil)) (RA.keep prs (fun z hz => upd_ne (nab z hz)) t5)
      · intro r' hr'
        rcases List.mem_append.mp hr' with h | h
        · exact prs r' h
        · rw [List.mem_singleton.mp h, pureAll_app, prr, pureAll_one, prd]
          rfl
      · exact Nat.le_succ_of_le lo
      · show (rs ++ [rr ++ [dd]]).length ≤ _
        rw [List.length_append]
        show _ + 1 ≤ _
        omega
      · intro r' hr'
        rcases List.mem_append.mp hr' with h | h
        · exact Nat.le_succ_of_le (l8 r' (List.mem_append_left _ h))
        · rw [List.mem_singleton.mp h, List.length_append]
          show _ + 1 ≤ _
          omega
      · omega
end
end OM

namespace OM
open PySem PySem.Spec PyProof.Rows L2
def spRIn (C : Addr) : Sp := fun vs H Q _ => ∃ (me dx : Addr) (b : Bool), vs = [.ref me, .bl b] ∧ H me = some (.ins C dx []) ∧ ∀ H' F, But me H H' → (∀ x ∈ F, H x = none) → Rd C b H' F me 0 [] [[]] → Q .non H'
def spIsC (C : Addr) : Sp := fun vs H Q _ => ∃ (F : List Addr) (sh : Bool) (me : Addr) (k : Nat) (rs : List (List PyData)), vs = [.ref me] ∧ Rd C sh H F me k [] rs ∧ Q (.bl true) H
def spAllC (C : Addr) : Sp := fun vs H Q _ => ∃ (F : List Addr) (sh : Bool) (me : Addr) (k : Nat) (op ds : List PyData), vs = [.ref me] ∧ Rd C sh H F me k op [ds] ∧ ∀ H' v, Same H H' → Dt (fun _ => True) H' v (.tuple ds) → Q v H'
section
variable {P : Program} {w : World} {K : PySem.W.Frag} {mg : Str → Option Value} {base : Heap} {f C : Addr} {fd : FuncData}
theorem scRIn : FnScope ["self", "shows"] ["self", "shows"] (defScope sRIn) := ⟨rfl, rfl, rfl, by decide +kernel, rfl, by decide +kernel, by decide +kernel⟩
theorem ok_rin (F : Fun K "__init__" "CodeReader.__init__" sRIn f fd) (R : RdC K C) : FnOk P w K mg base CX0 1 f fd ["self", "shows"] (spRIn C) := by
  refine F.ok scRIn (fun vs H Q E h => ?_) (fun cdv A outer s H vs Q E hr h => ?_)
  · obtain ⟨me, dx, b, rfl, _⟩ := h
    rfl
  · obtain ⟨me, dx, b, rfl, e, q⟩ := h
    refine ⟨_, pss_cons (ps_fld (pv 0) (pv 1) rfl) (pss_cons (ps_fld (pv 0) (pe_lst pa_nil) rfl) (pss_one (ps_fld (pv 0) (pe_lst (pa_cons (pe_lst pa_nil) pa_nil)) rfl))), ?_⟩
    refine ⟨_, rfl, _, rfl, me, C, dx, [], rfl, e, R.cl, R.ns, (by show 0 < 1000; decide), (by show 0 ≤ sizeLine; decide), fun o ho => ?_⟩
    have nom : o ≠ me := fun z => by rw [z, upd_same] at ho; cases ho
    have ho0 : H o = none := by rw [upd_ne nom] at ho; exact ho
    refine ⟨_, rfl, me, C, dx, _, rfl, by rw [upd_ne nom.symm, upd_same], R.cl, R.no, (by show 1 < 1000; decide), (by show 0 ≤ sizeLine; decide), fun q0 hq0 => ⟨(by show 1 ≤ sizeLine; decide), fun r hr0 => ?_⟩⟩
    have nqm : q0 ≠ me := fun z => by rw [z, upd_same] at hq0; cases hq0
    have nqo : q0 ≠ o := fun z => by rw [z, upd_ne nom, upd_same] at hq0; cases hq0
    have hq1 : H q0 = none := by rw [upd_ne nqm, upd_ne nqo, upd_ne nqm] at hq0; exact hq0
    have nrq : r ≠ q0 := fun z => by rw [z, upd_same] at hr0; cases hr0
    have nrm : r ≠ me := fun z => by rw [z, upd_ne nqm.symm, upd_same] at hr0; cases hr0
    have nro : r ≠ o := fun z => by rw [z, upd_ne nqo.symm, upd_ne nom, upd_same] at hr0; cases hr0
    have hr1 : H r = none := by rw [upd_ne nrq, upd_ne nrm, upd_ne nro, upd_ne nrm] at hr0; exact hr0
    refine ⟨_, rfl, me, C, dx, _, rfl, by rw [upd_ne nrm.symm, upd_ne nqm.symm, upd_same], R.cl, R.nr, (by show 2 < 1000; decide), ?_⟩
    refine q _ [o, r, q0] (fun c u hc ec => ?_) (fun x hx => ?_) ⟨⟨dx, o, r, [q0], [], rfl, upd_same, ?_, .nil, ?_, ?_⟩, ?_, ?_, ?_, Nat.zero_le _, by decide, ?_, by decide⟩
    · rw [upd_ne hc, upd_ne (ne_of_none ec hr1), upd_ne (ne_of_none ec hq1), upd_ne hc, upd_ne (ne_of_none ec ho0), upd_ne hc]
      exact ec
    · rcases List.mem_cons.mp hx with rfl | hx
      · exact ho0
      rcases List.mem_cons.mp hx with rfl | hx
      · exact hr1
      rw [List.mem_singleton.mp hx]
      exact hq1
    · rw [upd_ne nom, upd_ne nro.symm, upd_ne nqo.symm, upd_ne nom, upd_same]
    · rw [upd_ne nrm, upd_same]
      rfl
    · exact .cons (by rw [upd_ne nqm, upd_ne nrq.symm, upd_same]) .nil .nil
    · simp [nro.symm, nqo.symm, nrq]
    · unfold pureAll
      rfl
    · intro x hx
      rw [List.mem_singleton.mp hx]
      unfold pureAll
      rfl
    · intro x hx
      rw [List.mem_singleton.mp hx]
      exact Nat.le_refl _
theorem scIsC : FnScope ["self"] ["self"] (defScope sIsC) := ⟨rfl, rfl, rfl, by decide +kernel, rfl, by decide +kernel, by decide +kernel⟩
theorem ok_isc (F : Fun K "is_complete" "CodeReader.is_complete" sIsC f fd) (R : RdC K C) : FnOk P w K mg base CX0 1 f fd ["self"] (spIsC C) := by
  refine F.ok scIsC (fun vs H Q E h => ?_) (fun cdv A outer s H vs Q E hr h => ?_)
  · obtain ⟨Fp, sh, me, k, rs, rfl, _⟩ := h
    rfl
  · obtain ⟨Fp, sh, me, k, rs, rfl, ⟨⟨dx, o, r, as, xs, rfl, e1, e2, d, e3, RR⟩, _⟩, q⟩ := h
    cases d
    refine ⟨_, pss_one (ps_ret (pe_notT (pe_fld (pv 0) rfl))), ?_⟩
    exact ⟨_, rfl, me, C, dx, _, .ref o, rfl, e1, R.cl, R.no, rfl, false, .inl ⟨_, SqL.of e2, rfl⟩, q⟩
theorem scAll : FnScope ["self"] ["self"] (defScope sAllC) := ⟨rfl, rfl, rfl, by decide +kernel, rfl, by decide +kernel, by decide +kernel⟩
theorem ok_allc (F : Fun K "all_code" "CodeReader.all_code" sAllC f fd) (R : RdC K C) (tp : mg "tuple" = none) : FnOk P w K mg base CX0 1 f fd ["self"] (spAllC C) := by
  refine F.ok scAll (fun vs H Q E h => ?_) (fun cdv A outer s H vs Q E hr h => ?_)
  · obtain ⟨Fp, sh, me, k, op, ds, rfl, _⟩ := h
    rfl
  · obtain ⟨Fp, sh, me, k, op, ds, rfl, ⟨⟨dx, o, r, as, xs, rfl, e1, e2, d, e3, RR⟩, nd, po, pr, lo, lr, ll, l9⟩, q⟩ := h
    refine ⟨_, pss_one (ps_ret (pe_callTy call_tuple_of (by rfl) tp (by decide +kernel) (pa_cons (pe_ix (r := rIxL K) ix_list (pe_fld (pv 0) rfl) pe_int (fun _ _ => rfl)) pa_nil))), ?_⟩
    cases RR with
    | @cons a as' ys _ _ ea dz t =>
      cases t
      have lz := dz.length
      have l1 := ll ds (List.mem_singleton.mpr rfl)
      refine ⟨_, rfl, me, C, dx, _, .ref r, rfl, e1, R.cl, R.nr, rfl, r, _, 0, .ref a, rfl, rfl, SqL.of e3, at0, a, ys, rfl, .inl ⟨SqL.of ea, fun l hl => ?_⟩⟩
      have s1 := same_upd (o := .tup ys) hl
      exact q _ _ s1 (.tup trivial upd_same (by omega) (dz.mv (fun _ z => z) fun b o _ z => s1 b o z))
end
end OM

namespace OM
open PySem PySem.Spec PyProof.Rows L2
theorem cutN {A : Prop} {H : Hp} {C : Addr → Prop} (f : (∀ p, H p = none → C p) → A) (b : ∀ p, H p = none → C p) : A := f b
abbrev sRead : Stmt := top 56
/-- the turns of a for over enumerate of a list -/
theorem for_enumL {K : PySem.W.Frag} {a : Addr} {xs : List V} {g : TG} {tb : TS} {D : Ends} {σ : L2.St} {H : Hp} (Pv : Nat → L2.St → Hp → Prop) (h0 : Pv 0 σ H) (hl : ∀ i σ H, Pv i σ H → SqL K H a xs)
    (hs : ∀ i σ H T x, xs[i]? = some x → Pv i σ H → H T = none → g (.ref T) σ (upd H T (.tup [.int (i : Nat), x])) fun σ2 H2 => tb { D with nx := Pv (i + 1), ct := Pv (i + 1), bk := D.nx } σ2 H2) (hd : ∀ σ H, Pv xs.length σ H → D.nx σ H) :
    ∃ W : Nat → Nat → L2.St → Hp → Prop, (∃ m, W 0 m σ H) ∧ ∀ i m σ H, W i m σ H →
      ((Ite K a).stop i H ∧ D.nx σ H) ∨ ((Ite K a).go i H ∧ ∃ N : L2.St → Hp → Prop, (∀ σ' H', N σ' H' → ∃ m', m' < m ∧ W (i + 1) m' σ' H') ∧ ∀ x H', (Ite K a).yld i H x H' → g x σ H' fun σ2 H2 => tb { D with nx := N, ct := N, bk := D.nx } σ2 H2) := by
  refine ⟨fun i m σ H => m = xs.length - i ∧ i ≤ xs.length ∧ Pv i σ H, ⟨xs.length, by simp, Nat.zero_le _, h0⟩, ?_⟩
  rintro i m σ H ⟨rfl, hi, p⟩
  have q := hl i σ H p
  by_cases hlt : i < xs.length
  · refine .inr ⟨⟨xs, xs[i], q, List.getElem?_eq_getElem hlt⟩, Pv (i + 1), fun σ' H' p' => ⟨xs.length - (i + 1), by omega, rfl, hlt, p'⟩, fun x H' y => ?_⟩
    obtain ⟨T, c, rfl, hT, rfl, hc⟩ := y
    exact hs i σ H T c (hc xs q) p hT
  · have e : i = xs.length := by omega
    subst e
    exact .inl ⟨⟨xs, q, Nat.le_refl _⟩, hd σ H p⟩
/-! ### a reader in general: what it is in (R), what a line does (Stp), when it is complete (Fin) -/
def spTakeG {St : Type} (R : Hp → List Addr → Addr → Nat → St → Prop) (Stp : List Str → St → St → Prop) : Sp := fun vs H Q _ => ∃ (H0 : Hp) (F : List Addr) (me : Addr) (k : Nat) (s s' : St) (ws : List Str), vs = [.ref me, .str (lineW ws)] ∧ R H F me k s ∧ Own0 H0 H F ∧ k < 900 ∧ Stp ws s s' ∧
  ∀ H' F', Own0 H0 H' F' → R H' F' me (k + 1) s' → Q (.bl true) H'
def spIsG {St : Type} (R : Hp → List Addr → Addr → Nat → St → Prop) (Fin : St → Prop) : Sp := fun vs H Q _ => ∃ (F : List Addr) (me : Addr) (k : Nat) (s : St), vs = [.ref me] ∧ R H F me k s ∧ Fin s ∧ Q (.bl true) H
inductive StpG {St : Type} (Stp : List Str → St → St → Prop) : List (List Str) → St → St → Prop where
  | nil {s : St} : StpG Stp [] s s
  | cons {w : List Str} {ws : List (List Str)} {s s1 s2 : St} (h : Stp w s s1) (r : StpG Stp ws s1 s2) : StpG Stp (w :: ws) s s2
theorem StpG.at {St : Type} {Stp : List Str → St → St → Prop} : ∀ {wss : List (List Str)} {s s' : St}, StpG Stp wss s s' → ∀ (i : Nat) (w : List Str) (t : St), wss[i]? = some w → StpG Stp (wss.take i) s t → StpG Stp (wss.drop i) t s' → ∃ t1, Stp w t t1 ∧ StpG Stp (wss.drop (i + 1)) t1 s'
  | wss, s, s', _, i, w, t, h, _, r => by
    have e : wss.drop i = w :: wss.drop (i + 1) := by
      obtain ⟨hl, he⟩ := List.getElem?_eq_some_iff.mp h
      rw [← he]
      exact List.drop_eq_getElem_cons hl
    rw [e] at r
    cases r with
    | cons h r => exact ⟨_, h, r⟩
def spReadG {St : Type} (R : Hp → List Addr → Addr → Nat → St → Prop) (Stp : List Str → St → St → Prop) (Fin : St → Prop) : Sp := fun vs H Q _ => ∃ (H0 : Hp) (F : List Addr) (me : Addr) (s s' : St) (wss : List (List Str)), vs = [.ref me, .str (linesT wss)] ∧ R H F me 0 s ∧ Own0 H0 H F ∧ (∀ ws ∈ wss, WsOk ws) ∧ wss.length ≤ 800 ∧ StpG Stp wss s s' ∧ Fin s' ∧
  ∀ H' F' k, Own0 H0 H' F' → R H' F' me k s' → Q .non H'
/-- what is asked of a class of readers -/
structure RdG (K : PySem.W.Frag) {St : Type} (C fT fC : Addr) (R : Hp → List Addr → Addr → Nat → St → Prop) : Prop where
  cl : Cls K C
  mT : Meth K C "take" fT
  mC : Meth K C "is_complete" fC
  ins : ∀ {H F me k s}, R H F me k s → ∃ dx fs, H me = some (.ins C dx fs) ∧ fs.lookup ("take" : Str) = none ∧ fs.lookup ("is_complete" : Str) = none
  mv : ∀ {H H' F me k s}, R H F me k s → Same H H' → R H' F me k s
  live : ∀ {H F me k s}, R H F me k s → ∀ b ∈ F, H b ≠ none
section
variable {P : Program} {w : World} {K : PySem.W.Frag} {mg : Str → Option Value} {base : Heap} {f fT fC C : Addr} {fd dT dC : FuncData} {St : Type} {R : Hp → List Addr → Addr → Nat → St → Prop} {Stp : List Str → St → St → Prop} {Fin : St → Prop}
theorem scRd : FnScope ["reader", "text", "lines", "at", "line"] ["reader", "text"] (defScope sRead) := ⟨rfl, rfl, rfl, by decide +kernel, rfl, by decide +kernel, by decide +kernel⟩
theorem ok_read {k : Nat} (F : Fun K "_read" "_read" sRead f fd) (G : RdG K C fT fC R) (isi : mg "isinstance" = none) (st : mg "str" = none) (en : mg "enumerate" = none) (bT : Binds K dT ["self", "line"] []) (GT : FnOk P w K mg base CX0 (k + 1) fT dT ["self", "line"] (spTakeG R Stp)) (bC : Binds K dC ["self"] []) (GC : FnOk P w K mg base CX0 (k + 1) fC dC ["self"] (spIsG R Fin)) :
    FnOk P w K mg base CX0 (k + 2) f fd ["reader", "text"] (spReadG R Stp Fin) := by
  refine F.ok scRd (fun vs H Q E h => ?_) (fun cdv A outer s H vs Q E hr h => ?_)
  · obtain ⟨H0, Fp, me, s0, s', wss, rfl, _⟩ := h
    rfl
  · obtain ⟨H0, Fp, me, s0, s', wss, rfl, r0, ow, okw, lw, steps, fin, q⟩ := h
    refine ⟨_, pss_cons (ps_if (pt_not (pt_val (pe_callB call_isi (by rfl) isi (by decide +kernel) (pa_cons (pv 1) (pa_cons (pe_bltn (v := .ty "str") (u := .type "str") (by rfl) st (by decide +kernel) rfl) pa_nil))))) pss_no pss_nil)
      (pss_cons (ps_set (i := 2) scRd.nd rfl (Or.inl rfl) (pe_ifExp (pt_truth (pv 1) (fun _ => rfl)) (pe_bm PySem.F.plainAttrs_str PySem.F.slot_str_split PySem.F.type_str_split mt_split (pv 1) (pa_cons pe_str pa_nil)) (pe_lst pa_nil)))
      (pss_cons (ps_for PassesOwn.never rfl (pi_enum (by rfl) en (pa_cons (pv 2) pa_nil)) (pg_tup rfl (pgs_cons (pg_name (i := 3) scRd.nd rfl (Or.inl rfl)) (pgs_cons (pg_name (i := 4) scRd.nd rfl (Or.inl rfl)) pgs_nil)))
        (pss_one (ps_if (pt_not (pt_val (pe_meth (pv 0) G.cl G.mT GT hr bT .nil pass0 (pa_cons (pv 4) pa_nil)))) pss_no pss_nil)))
      (pss_one (ps_if (pt_not (pt_val (pe_meth0 (pv 0) G.cl G.mC GC (hr.mono (by omega)) bC .nil pass0))) pss_no pss_nil)))), ?_⟩
    have tl := text_len okw
    have line : (100000 : Nat) < sizeLine := by decide
    refine isi_te (x := .str (linesT wss)) rfl (.base (.str _)) (kit_str (.str (linesT wss))) ⟨_, rfl, iteF ?_⟩
    refine ⟨_, rfl, _, ⟨by omega, rfl⟩, ?_⟩
    apply cutN (H := H)
    · intro c
      by_cases ne : wss ≠ []
      · have nz : (((linesT wss).length : Int) != 0) = true := by
          have : (linesT wss).length ≠ 0 := fun z => text_pos ne okw (by
            apply TL.ext_tl
            have : TL.tl (linesT wss) = [] := List.length_eq_zero_iff.mp (by rw [len_tl]; exact z)
            rw [this]
            rfl)
          simp only [bne_iff_ne, ne_eq]
          omega
        rw [nz]
        refine iteT ⟨_, rfl, rfl, linesT wss, nlT, rfl, rfl, by decide +kernel, by omega, fun p hp => ?_⟩
        rw [split_lines ne okw]
        exact c p hp
      · have e0 : wss = [] := Classical.not_not.mp ne
        subst e0
        have nz : (((linesT []).length : Int) != 0) = false := by decide +kernel
        rw [nz]
        exact iteF ⟨(by show 0 ≤ sizeLine; decide), fun p hp => c p hp⟩
    intro p hp
    have hp0 : H0 p = none := ow.same.free hp
    have s1 : Same H (upd H p (.lst ((wss.map lineW).map V.str))) := same_upd hp
    have ow1 : Own0 (upd H0 p (.lst ((wss.map lineW).map V.str))) (upd H p (.lst ((wss.map lineW).map V.str))) Fp := ⟨fun b u e => by
      by_cases hb : b = p
      · subst hb
        rw [upd_same] at e ⊢
        exact e
      · rw [upd_ne hb] at e ⊢
        exact ow.same b u e, fun b hb => by
      have : b ≠ p := fun z => G.live r0 b hb (by rw [z]; exact hp)
      rw [upd_ne this]
      exact ow.own b hb⟩
    refine ⟨_, rfl, p, _, rfl, SqL.of upd_same, for_enumL (xs := (wss.map lineW).map V.str) (fun i σ G' => (∃ x3 x4, σ = [some (.ref me), some (.str (linesT wss)), some (.ref p), x3, x4]) ∧ ∃ F' t, Own0 (upd H0 p (.lst ((wss.map lineW).map V.str))) G' F' ∧ R G' F' me i t ∧ StpG Stp (wss.drop i) t s')
      ⟨⟨_, _, rfl⟩, Fp, s0, ow1, G.mv r0 s1, steps⟩ (fun i σ G' h => ?_) (fun i σ G' T x hx h hT => ?_) (fun σ G' h => ?_)⟩
    · obtain ⟨_, F', t, o1, _⟩ := h
      exact SqL.of (o1.same _ _ upd_same)
    · obtain ⟨⟨x3, x4, rfl⟩, F', t, o1, r1, st1⟩ := h
      rw [List.getElem?_map, List.getElem?_map] at hx
      obtain ⟨y, hy, rfl⟩ := Option.map_eq_some_iff.mp hx
      obtain ⟨wd, hwd, rfl⟩ := Option.map_eq_some_iff.mp hy
      have hlt := (List.getElem?_eq_some_iff.mp hwd).1
      have e : wss.drop i = wd :: wss.drop (i + 1) := by
        obtain ⟨hl, he⟩ := List.getElem?_eq_some_iff.mp hwd
        rw [← he]
        exact List.drop_eq_getElem_cons hl
      rw [e] at st1
      cases st1 with
      | cons hst rest =>
        have sT := same_upd (o := .tup [.int (i : Nat), .str (lineW wd)]) hT
        have r2 := G.mv r1 sT
        obtain ⟨dx, fs, ei, l1, l2⟩ := G.ins r2
        refine ⟨T, _, rfl, SqT.of upd_same, rfl, _, _, rfl, _, _, rfl, rfl, ?_⟩
        refine ⟨_, rfl, me, dx, fs, rfl, ei, l1, _, rfl, _, F', me, i, t, _, wd, rfl, r2, o1.to sT, by omega, hst, fun H' F'' o2 r3 => ⟨_, rfl, iteF ?_⟩⟩
        exact ⟨⟨_, _, rfl⟩, F'', _, o2, r3, rest⟩
    · obtain ⟨⟨x3, x4, rfl⟩, F', t, o1, r1, st1⟩ := h
      have ed : wss.drop ((wss.map lineW).map V.str).length = [] := by
        rw [List.length_map, List.length_map]
        exact List.drop_length
      rw [ed] at st1
      cases st1
      obtain ⟨dx, fs, ei, l1, l2⟩ := G.ins r1
      refine ⟨_, rfl, me, dx, fs, rfl, ei, l2, F', me, _, s', rfl, r1, fin, _, rfl, iteF ?_⟩
      refine q _ F' _ ⟨fun b u e => o1.same b u ?_, fun b hb => ?_⟩ r1
      · rw [upd_ne (ne_of_none e hp0)]
        exact e
      · have := o1.own b hb
        by_cases hbp : b = p
        · rw [hbp, upd_same] at this
          cases this
        · rw [upd_ne hbp] at this
          exact this
end
end OM

namespace OM
open PySem PySem.Spec PyProof.Rows L2 PySem.W
/-- .., *b among targets -/
theorem pgs_star {X : Cx} {e : Expr} {es : List Expr} {t : TG} {u : TGs} {p : Pos} (h1 : PG X e t) (h2 : PGs X es u)
    (hs : (assignEach (.Starred e p :: es) X.env).map (·.2) = assign e X.env :: (assignEach es X.env).map (·.2) := by rfl) : PGs X (.Starred e p :: es) (gCons t u) := by
  refine ⟨fun pins s σ H vs us Q I r h => ?_⟩
  obtain ⟨v, vr, e1, h⟩ := h
  subst e1
  cases r with
  | cons r rr =>
    rw [hs]
    refine assignInOrder_cons (thn (h1.run pins s σ H _ _ _ I r h) fun _ s1 ⟨σ1, H1, I1, q1⟩ => ?_)
    exact h2.run pins s1 σ1 H1 _ _ Q I1 rr q1
/-- (a, *b) = a list -/
def gHead (K : PySem.W.Frag) (t : TGs) : TG := fun v σ H Q => ∃ a x xs, v = .ref a ∧ SqL K H a (x :: xs) ∧ xs.length ≤ 10000 ∧ ∀ p, H p = none → t [x, .ref p] σ (upd H p (.lst xs)) Q
theorem pg_head {X : Cx} {es : List Expr} {k : Nat} {t : TGs} {pos : Pos} (hc : X.calm = true) (h : PGs X es t)
    (hn : (assignEach es X.env).length = 2 := by rfl) (hst : (assignEach es X.env).findIdx? (·.1) = some 1 := by rfl) : PG X (.Tuple es k pos) (gHead X.K t) := by
  refine ⟨fun pins s σ H v u Q I r hw => ?_⟩
  obtain ⟨a, x, xs, e1, hq, hl, hw⟩ := hw
  subst e1
  obtain rfl : u = Value.ref a := r
  obtain ⟨its, rv, pl, hz⟩ := I.list hq
  have hli : s.heap.IsList a its.toArray := pl.isList
  have hh : X.A.handled = none := I.ok.hd hc
  cases rv with
  | @cons _ u0 _ us r0 rr =>
    have lu := rr.length
    rw [assign_Tuple]
    refine wpAny_bind (wpAny_standAt ?_)
    unfold unpack
    rw [hn, hst]
    refine wpAny_bind (wpAny_holding ?_)
    have hlt : a ≠ s.heap.objs.size := by obtain ⟨o, ho, _⟩ := hli; exact Nat.ne_of_lt (Heap.lt_size ho)
    unfold unpackItems
    refine wpAny_bind ?_
    unfold notIterableAtAll
    refine wpAny_bind (wpAny_specialOf hli.typeIs slot_list_iter.lookup ?_)
    refine wpAny_pure ?_
    simp only [Bool.false_eq_true, if_false]
    refine wpAny_bind (wpAny_holding (wpAny_pyIter_list hli ?_))
    refine wpAny_bind (wpAny_holding (kun_draw hlt 1 0 _ _ ⟨_, Heap.get?_push_size _ rfl, rfl, rfl⟩ (hli.push _) (by simp) fun h₁ hit₁ hs₁ => ?_))
    have hl₁ : h₁.IsList a (u0 :: us).toArray := (hli.push _).extBut hs₁.extBut hlt
    rw [Nat.zero_add] at hit₁
    have hit₁' := hit₁
    obtain ⟨oi, hoi, _⟩ := hit₁'
    have hl₁' := hl₁
    obtain ⟨ol, hol, _⟩ := hl₁'
    rw [List.drop_zero]
    show wpAny _ _ (if (1 : Nat) < 1 then _ else _) _ _ _
    rw [if_neg (Nat.lt_irrefl 1)]
    refine wpAny_bind (wpAny_holding (kun_collect (s := { s with heap := h₁ }) (T := "list_iterator") (.inr (.inr (.inl rfl))) (Walks.list (A := X.A.in1) hh s.heap.objs.size a hlt (u0 :: us).toArray) (fun j u st => st.1.typeIs) (k := 1) (by simp) ⟨hit₁, hl₁⟩ (Heap.lt_size hoi) (Heap.lt_size hol) (fun h₂ tk hk => ?_) (by rw [sizeLine_eq]; simp; omega)))
    have he : ∀ b o, s.heap.get? b = some o → h₂.get? b = some o := fun b o e => by
      have hb : b ≠ s.heap.objs.size := Nat.ne_of_lt (Heap.lt_size e)
      exact hk b o hb (hs₁.extBut b o hb (Heap.get?_push_of_some _ e))
    have I2 : Inv X pins σ H { s with heap := h₂, toks := tk } := I.kept he
    show wpAny _ _ (if us.length < 0 then _ else _) _ _ _
    rw [if_neg (Nat.not_lt_zero _)]
    refine wpAny_bind (wpAny_newList ?_ ?_)
    · refine wpAny_pure ?_
      have e1 : List.take 1 (u0 :: us).toArray.toList ++ [Value.ref h₂.objs.size] ++ List.drop ((List.drop 1 (u0 :: us).toArray.toList).length - (2 - 1 - 1)) (List.drop 1 (u0 :: us).toArray.toList) = [u0, .ref h₂.objs.size] := by simp
      have e2 : List.take ((List.drop 1 (u0 :: us).toArray.toList).length - (2 - 1 - 1)) (List.drop 1 (u0 :: us).toArray.toList) = us := by simp
      rw [e1, e2]
      have hf : H h₂.objs.size = none := I2.hok.fresh (Nat.le_refl _)
      have I3 : Inv X pins σ (upd H h₂.objs.size (.lst xs)) { s with heap := h₂.push { cls := .type "list", data := .seq us.toArray }, toks := tk } :=
        I2.laid (t' := tk) (fun b u e => Heap.get?_push_of_some _ e) (Nat.le_refl _) ⟨by rw [sizeLine_eq]; omega, us, 0, rr, Heap.get?_push_size _ rfl⟩
      exact h.run pins _ σ _ [x, .ref h₂.objs.size] _ Q I3 (.cons r0 (.cons rfl .nil)) (hw _ hf)
    · rw [sizeLine_eq]
      simp
      omega
end OM

namespace OM
open PySem PySem.Spec PyProof.Rows L2
abbrev sSIn : Stmt := inStK 55 0
abbrev sSTk : Stmt := inStK 55 1
abbrev sSIs : Stmt := inStK 55 2
structure SrC (K : PySem.W.Frag) (C : Addr) : Prop where
  cl : Cls K C
  nt : NoAttr K C "names_told"
  nb : NoAttr K C "body"
abbrev SSt := Option (List Str) × RSt
inductive StpS : List Str → SSt → SSt → Prop where
  | keeps {ks : List Str} {s : RSt} (h : keptD (strT ks) = true) : StpS (("keeps" : Str) :: ks) (none, s) (some ks, s)
  | body {ws : List Str} {ks : List Str} {s s' : RSt} (h : Step false ws s s') : StpS ws (some ks, s) (some ks, s')
def ToldAt (H : Hp) (v : V) : Option (List Str) → Prop
  | none => v = .non
  | some ks => ∃ kb, v = .ref kb ∧ H kb = some (.tup (ks.map V.str)) ∧ keptD (strT ks) = true
def insS2 (CS dx : Addr) (v : V) (me : Addr) : HO := .ins CS dx [("names_told", v), ("body", .ref me)]
/-- a reader of stretches, as it stands -/
def RdS (C CS : Addr) (H : Hp) (F2 : List Addr) (me2 : Addr) (k : Nat) (s : SSt) : Prop := ∃ (dx me : Addr) (F : List Addr) (v : V) (k' : Nat), k' ≤ k ∧ F2 = me2 :: F ∧ H me2 = some (insS2 CS dx v me) ∧ Rd C false H F me k' s.2.1 s.2.2 ∧ ToldAt H v s.1
theorem Rd.live {C : Addr} {sh : Bool} {H : Hp} {F : List Addr} {me : Addr} {k : Nat} {op : List PyData} {rs : List (List PyData)} (h : Rd C sh H F me k op rs) : ∀ b ∈ F, ∃ xs, H b = some (.lst xs) := by
  obtain ⟨⟨dx, o, r, as, xs, rfl, e1, e2, d, e3, RR⟩, _⟩ := h
  intro b hb
  rcases List.mem_cons.mp hb with rfl | hb
  · exact ⟨_, e2⟩
  rcases List.mem_cons.mp hb with rfl | hb
  · exact ⟨_, e3⟩
  exact RR.live b hb
theorem ToldAt.mv {H H' : Hp} {v : V} {s : Option (List Str)} (h : ToldAt H v s) (t : Same H H') : ToldAt H' v s := by
  cases s with
  | none => exact h
  | some ks =>
    obtain ⟨kb, e, h1, h2⟩ := h
    exact ⟨kb, e, t _ _ h1, h2⟩
theorem RdS.mv {C CS : Addr} {H H' : Hp} {F2 : List Addr} {me2 : Addr} {k : Nat} {s : SSt} (h : RdS C CS H F2 me2 k s) (t : Same H H') : RdS C CS H' F2 me2 k s := by
  obtain ⟨dx, me, F, v, k', h1, h2, h3, h4, h5⟩ := h
  exact ⟨dx, me, F, v, k', h1, h2, t _ _ h3, h4.mv t, h5.mv t⟩
theorem RdS.live {C CS : Addr} {H : Hp} {F2 : List Addr} {me2 : Addr} {k : Nat} {s : SSt} (h : RdS C CS H F2 me2 k s) : ∀ b ∈ F2, H b ≠ none := by
  obtain ⟨dx, me, F, v, k', h1, rfl, h3, h4, h5⟩ := h
  intro b hb
  rcases List.mem_cons.mp hb with rfl | hb
  · rw [h3]
    exact fun z => nomatch z
  · obtain ⟨xs, e⟩ := h4.live b hb
    rw [e]
    exact fun z => nomatch z
def spSIn (C CS : Addr) : Sp := fun vs H Q _ => ∃ (me dx : Addr), vs = [.ref me] ∧ H me = some (.ins CS dx []) ∧ ∀ H' F, But me H H' → (∀ x ∈ F, x = me ∨ H x = none) → RdS C CS H' F me 0 (none, ([], [[]])) → Q .non H'
section
variable {P : Program} {w : World} {K : PySem.W.Frag} {mg : Str → Option Value} {base : Heap} {f fR fT fC fS C CS : Addr} {fd dR dT dC dS : FuncData}
theorem scSIn : FnScope ["self"] ["self"] (defScope sSIn) := ⟨rfl, rfl, rfl, by decide +kernel, rfl, by decide +kernel, by decide +kernel⟩
theorem ok_sin (F : Fun K "__init__" "StretchReader.__init__" sSIn f fd) (R : SrC K CS) (M : Mk K C fR) (gC : mg "CodeReader" = some (.ref C)) (bR : Binds K dR ["self", "shows"] []) (GR : FnOk P w K mg base CX0 1 fR dR ["self", "shows"] (spRIn C)) : FnOk P w K mg base CX0 3 f fd ["self"] (spSIn C CS) := by
  refine F.ok scSIn (fun vs H Q E h => ?_) (fun cdv A outer s H vs Q E hr h => ?_)
  · obtain ⟨me, dx, rfl, _⟩ := h
    rfl
  · obtain ⟨me, dx, rfl, e, q⟩ := h
    refine ⟨_, pss_cons (ps_fld (pv 0) pe_non rfl) (pss_one (ps_fld (pv 0) (pe_make M GR hr (by rfl) gC bR .nil pass0 (pa_cons pe_bl pa_nil)) rfl)), ?_⟩
    refine ⟨_, rfl, me, CS, dx, [], rfl, e, R.cl, R.nt, (by show 0 < 1000; decide), fun x dx2 hx hdx ne => ?_⟩
    have nxm : x ≠ me := fun z => by rw [z, upd_same] at hx; cases hx
    have ndm : dx2 ≠ me := fun z => by rw [z, upd_same] at hdx; cases hdx
    have hx0 : H x = none := by rw [upd_ne nxm] at hx; exact hx
    have hd0 : H dx2 = none := by rw [upd_ne ndm] at hdx; exact hdx
    refine ⟨x, dx2, false, rfl, upd_same, fun H2 F b2 fr rd => ⟨rfl, ?_⟩⟩
    have e2 : H2 me = some (.ins CS dx [("names_told", .non)]) := b2 _ _ nxm.symm (by rw [upd_ne nxm.symm, upd_ne ndm.symm, upd_same]; rfl)
    refine ⟨_, rfl, me, CS, dx, _, rfl, e2, R.cl, R.nb, (by show 1 < 1000; decide), ?_⟩
    have fr0 : ∀ b ∈ F, b ≠ me ∧ H b = none := fun b hb => by
      have h1 := fr b hb
      have nbx : b ≠ x := fun z => by rw [z, upd_same] at h1; cases h1
      rw [upd_ne nbx] at h1
      have nbd : b ≠ dx2 := fun z => by rw [z, upd_same] at h1; cases h1
      rw [upd_ne nbd] at h1
      have nbm : b ≠ me := fun z => by rw [z, upd_same] at h1; cases h1
      rw [upd_ne nbm] at h1
      exact ⟨nbm, h1⟩
    refine q _ (me :: F) (fun c u hc ec => ?_) (fun z hz => ?_) ⟨dx, x, F, .non, 0, Nat.le_refl _, rfl, upd_same, ?_, rfl⟩
    · rw [upd_ne hc]
      refine b2 c u (ne_of_none ec hx0) ?_
      rw [upd_ne (ne_of_none ec hx0), upd_ne (ne_of_none ec hd0), upd_ne hc]
      exact ec
    · rcases List.mem_cons.mp hz with rfl | hz
      · exact .inl rfl
      · exact .inr (fr0 z hz).2
    · obtain ⟨⟨dx', o, r, as, xs, rfl, e1, e2', d, e3, RR⟩, a1, a2, a3, a4, a5, a6, a7⟩ := rd
      cases d
      have ts : TupS H2 (upd H2 me (.ins CS dx (putF "body" (.ref x) [("names_told", .non)]))) := fun b xs eb => by
        rw [upd_ne (fun z => by rw [z, e2] at eb; cases eb)]
        exact eb
      refine ⟨⟨dx', o, r, as, [], rfl, ?_, ?_, .nil, ?_, RR.keep a3 (fun a ha => upd_ne (fr0 a (List.mem_cons_of_mem _ (List.mem_cons_of_mem _ ha))).1) ts⟩, a1, a2, a3, a4, a5, a6, a7⟩
      · rw [upd_ne nxm]
        exact e1
      · rw [upd_ne (fr0 o (List.mem_cons_self ..)).1]
        exact e2'
      · rw [upd_ne (fr0 r (List.mem_cons_of_mem _ (List.mem_cons_self ..))).1]
        exact e3
end
end OM

namespace OM
open PySem PySem.Spec PyProof.Rows L2
def RG (C : Addr) (sh : Bool) : Hp → List Addr → Addr → Nat → RSt → Prop := fun H F me k s => Rd C sh H F me k s.1 s.2
/-- what happens to another instance -/
theorem Rd.other {C C2 dx2 : Addr} {sh : Bool} {H : Hp} {F : List Addr} {me me2 : Addr} {k : Nat} {op : List PyData} {rs : List (List PyData)} {fs : List (Str × V)} {u : HO} (h : Rd C sh H F me k op rs) (e : H me2 = some (.ins C2 dx2 fs)) (ne : me ≠ me2) : Rd C sh (upd H me2 u) F me k op rs := by
  have lv := h.live
  obtain ⟨⟨dx', o, r, as, xs, rfl, e1, e2', d, e3, RR⟩, a1, a2, a3, a4, a5, a6, a7⟩ := h
  have nb : ∀ b ∈ o :: r :: as, b ≠ me2 := fun b hb z => by
    obtain ⟨zs, eb⟩ := lv b hb
    rw [z, e] at eb
    cases eb
  have ts : TupS H (upd H me2 u) := fun b xs eb => by
    rw [upd_ne (fun z => by rw [z, e] at eb; cases eb)]
    exact eb
  refine ⟨⟨dx', o, r, as, xs, rfl, ?_, ?_, d.tupS ts a2, ?_, RR.keep a3 (fun a ha => upd_ne (nb a (List.mem_cons_of_mem _ (List.mem_cons_of_mem _ ha)))) ts⟩, a1, a2, a3, a4, a5, a6, a7⟩
  · rw [upd_ne ne]
    exact e1
  · rw [upd_ne (nb o (List.mem_cons_self ..))]
    exact e2'
  · rw [upd_ne (nb r (List.mem_cons_of_mem _ (List.mem_cons_self ..)))]
    exact e3
theorem stpS_ok {ws : List Str} {s s' : SSt} (h : StpS ws s s') : WsOk ws := by
  cases h with
  | keeps h => exact kept_ws h
  | body h => exact step_ok h
section
variable {P : Program} {w : World} {K : PySem.W.Frag} {mg : Str → Option Value} {base : Heap} {f fR fT fC fS C CS : Addr} {fd dR dT dC dS : FuncData}
theorem rdg_code {sh : Bool} (R : RdC K C) (mT : Meth K C "take" fT) (mC : Meth K C "is_complete" fC) : RdG K C fT fC (RG C sh) where
  cl := R.cl
  mT := mT
  mC := mC
  ins := fun h => by
    obtain ⟨⟨dx, o, r, as, xs, _, e1, _⟩, _⟩ := h
    exact ⟨dx, _, e1, rfl, rfl⟩
  mv := fun h s => Rd.mv h s
  live := fun h b hb => by
    obtain ⟨xs, e⟩ := Rd.live h b hb
    rw [e]
    exact fun z => nomatch z
theorem take_g {sh : Bool} {k : Nat} (G : FnOk P w K mg base CX0 k f fd ["self", "line"] (spTake C)) : FnOk P w K mg base CX0 k f fd ["self", "line"] (spTakeG (RG C sh) (Step sh)) :=
  ⟨fun vs H Q E ⟨H0, F, me, k, s, s', ws, h⟩ => G.len vs H Q E ⟨H0, F, sh, me, k, s, s', ws, h⟩, fun A o s H ar us vs Q E hr e0 hb rv ⟨H0, F, me, k, s1, s', ws, h⟩ => G.run A o s H ar us vs Q E hr e0 hb rv ⟨H0, F, sh, me, k, s1, s', ws, h⟩⟩
theorem isc_g {sh : Bool} {k : Nat} (G : FnOk P w K mg base CX0 k f fd ["self"] (spIsC C)) : FnOk P w K mg base CX0 k f fd ["self"] (spIsG (RG C sh) (fun s : RSt => s.1 = [])) :=
  ⟨fun vs H Q E ⟨F, me, k, s, e, r, z, q⟩ => G.len vs H Q E ⟨F, sh, me, k, s.2, e, by rw [← z]; exact r, q⟩, fun A o s H ar us vs Q E hr e0 hb rv ⟨F, me, k, s1, e, r, z, q⟩ => G.run A o s H ar us vs Q E hr e0 hb rv ⟨F, sh, me, k, s1.2, e, by rw [← z]; exact r, q⟩⟩
theorem rdg_str (R : SrC K CS) (mT : Meth K CS "take" fT) (mC : Meth K CS "is_complete" fC) : RdG K CS fT fC (RdS C CS) where
  cl := R.cl
  mT := mT
  mC := mC
  ins := fun ⟨dx, me, F, v, k', _, _, e, _⟩ => ⟨dx, _, e, rfl, rfl⟩
  mv := fun h s => h.mv s
  live := fun h => h.live
theorem scSIs : FnScope ["self"] ["self"] (defScope sSIs) := ⟨rfl, rfl, rfl, by decide +kernel, rfl, by decide +kernel, by decide +kernel⟩
theorem ok_sis (F : Fun K "is_complete" "StretchReader.is_complete" sSIs f fd) (R : SrC K CS) (RC : RdC K C) (mC : Meth K C "is_complete" fC) (bC : Binds K dC ["self"] []) (GC : FnOk P w K mg base CX0 1 fC dC ["self"] (spIsC C)) :
    FnOk P w K mg base CX0 2 f fd ["self"] (spIsG (RdS C CS) (fun s : SSt => s.1 ≠ none ∧ s.2.1 = [])) := by
  refine F.ok scSIs (fun vs H Q E h => ?_) (fun cdv A outer s H vs Q E hr h => ?_)
  · obtain ⟨Fp, me2, k, s1, rfl, _⟩ := h
    rfl
  · obtain ⟨Fp, me2, k, s1, rfl, ⟨dx, me, F0, v, k', h1, rfl, h3, h4, h5⟩, ⟨n1, n2⟩, q⟩ := h
    refine ⟨_, pss_one (ps_ret (pe_and (pe_cmp (pc_notN (pe_fld (pv 0) rfl))) (pe_one (pe_meth0 (pe_fld (pv 0) rfl) RC.cl mC GC hr bC .nil pass0)))), ?_⟩
    obtain ⟨o1, s2⟩ := s1
    cases o1 with
    | none => exact absurd rfl n1
    | some ks =>
      obtain ⟨kb, rfl, e1, e2⟩ := h5
      have h4' := h4
      rw [show (some ks, s2).2.1 = [] from n2] at h4'
      obtain ⟨⟨dx', o, r, as, xs, eF, em, _⟩, _⟩ := h4
      refine ⟨_, rfl, me2, CS, dx, _, .ref kb, rfl, h3, R.cl, R.nt, rfl, _, rfl, ?_⟩
      rw [decide_eq_false (show ¬ V.ref kb = V.non from fun z => nomatch z)]
      exact iteT ⟨_, rfl, me2, CS, dx, _, .ref me, rfl, h3, R.cl, R.nb, rfl, me, dx', _, rfl, em, rfl, F0, false, me, k', s2.2, rfl, h4', q⟩
theorem scSTk : FnScope ["self", "line", "word", "names"] ["self", "line"] (defScope sSTk) := ⟨rfl, rfl, rfl, by decide +kernel, rfl, by decide +kernel, by decide +kernel⟩
theorem ok_stk (F : Fun K "take" "StretchReader.take" sSTk f fd) (R : SrC K CS) (RC : RdC K C) (mT : Meth K C "take" fT) (bT : Binds K dT ["self", "line"] []) (GT : FnOk P w K mg base CX0 3 fT dT ["self", "line"] (spTake C)) (tp : mg "tuple" = none)
    (gS : mg "is_set" = some (.ref fS)) (kS : PySem.W.keepIn K (.ref fS) = true) (bS : Binds K dS ["value"] []) (GS : FnOk P w K mg base CX0 2 fS dS ["value"] spSet) : FnOk P w K mg base CX0 4 f fd ["self", "line"] (spTakeG (RdS C CS) StpS) := by
  refine F.ok scSTk (fun vs H Q E h => ?_) (fun cdv A outer s H vs Q E hr h => ?_)
  · obtain ⟨H0, Fp, me2, k, s1, s2, ws, rfl, _⟩ := h
    rfl
  · obtain ⟨H0, Fp, me2, k, s1, s2, ws, rfl, rds, ow, lk, step, q⟩ := h
    have okw := stpS_ok step
    obtain ⟨dx, me, F0, v, k', h1, rfl, h3, h4, h5⟩ := id rds
    refine ⟨_, pss_cons (ps_if (pt_cmp (pc_notN (pe_fld (pv 0) rfl))) (pss_one (ps_ret (pe_meth (pe_fld (pv 0) rfl) RC.cl mT GT hr bT .nil pass0 (pa_cons (pv 1) pa_nil)))) pss_nil)
      (pss_cons (ps_asg (pe_bm PySem.F.plainAttrs_str PySem.F.slot_str_split PySem.F.type_str_split mt_split (pv 1) (pa_cons pe_str pa_nil)) (pg_head rfl (pgs_cons (pg_name (i := 2) scSTk.nd rfl (Or.inl rfl)) (pgs_star (pg_name (i := 3) scSTk.nd rfl (Or.inl rfl)) pgs_nil))))
      (pss_cons (ps_if (PW.pt (pw_or (pt_cmpR op_ne (pv 2) pe_str (nomark _)) (pw_or1 (pt_not (pt_val (pe_call GS (hr.mono (by decide)) (by rfl) gS kS bS .nil pass0 (pa_cons (pe_callTy call_tuple_of (by rfl) tp (by decide +kernel) (pa_cons (pv 3) pa_nil)) pa_nil))))))) (pss_one (ps_ret pe_bl)) pss_nil)
      (pss_cons (ps_fld (pv 0) (pe_callTy call_tuple_of (by rfl) tp (by decide +kernel) (pa_cons (pv 3) pa_nil)) rfl)
      (pss_one (ps_ret pe_bl))))), ?_⟩
    cases step with
    | @body ws ks t t' hst =>
      obtain ⟨kb, rfl, e1, e2⟩ := h5
      have h4 : Rd C false H F0 me k' t.1 t.2 := h4
      obtain ⟨⟨dx', o, r, as, xs, eF, em, _⟩, _⟩ := id h4
      refine ⟨_, rfl, me2, CS, dx, _, .ref kb, rfl, h3, R.cl, R.nt, rfl, _, rfl, ?_⟩
      rw [decide_eq_false (show ¬ V.ref kb = V.non from fun z => nomatch z)]
      refine iteT ⟨_, rfl, me2, CS, dx, _, .ref me, rfl, h3, R.cl, R.nb, rfl, me, dx', _, rfl, em, rfl, _, rfl, ?_⟩
      have m2 : H0 me2 = none := ow.own me2 (List.mem_cons_self ..)
      have nbF : ∀ b ∈ F0, b ≠ me2 ∧ b ≠ kb := fun b hb => by
        obtain ⟨zs, eb⟩ := h4.live b hb
        exact ⟨fun z => (by rw [z, h3] at eb; cases eb), fun z => (by rw [z, e1] at eb; cases eb)⟩
      have nkm : kb ≠ me2 := fun z => by rw [z, h3] at e1; cases e1
      have ow1 : Own0 (upd (upd H0 me2 (insS2 CS dx (.ref kb) me)) kb (.tup (ks.map V.str))) H F0 := ⟨fun b u e => by
        by_cases hb : b = kb
        · subst hb
          rw [upd_same] at e
          rw [e1]
          exact e
        · rw [upd_ne hb] at e
          by_cases hb2 : b = me2
          · subst hb2
            rw [upd_same] at e
            rw [h3]
            exact e
          · rw [upd_ne hb2] at e
            exact ow.same b u e, fun b hb => by
        rw [upd_ne (nbF b hb).2, upd_ne (nbF b hb).1]
        exact ow.own b (List.mem_cons_of_mem _ hb)⟩
      refine ⟨_, F0, false, me, k', t, t', ws, rfl, h4, ow1, by omega, hst, fun H' F' ow' rd' => ?_⟩
      have em2 : H' me2 = some (insS2 CS dx (.ref kb) me) := ow'.same _ _ (by rw [upd_ne nkm.symm, upd_same])
      have ekb : H' kb = some (.tup (ks.map V.str)) := ow'.same _ _ upd_same
      refine q H' (me2 :: F') ⟨fun b u e => ?_, fun b hb => ?_⟩ ⟨dx, me, F', .ref kb, k' + 1, by omega, rfl, em2, rd', kb, rfl, ekb, e2⟩
      · by_cases hb : b = kb
        · have e3 := ow.same b u e
          rw [hb, e1] at e3
          rw [hb, ekb]
          exact e3
        · refine ow'.same b u ?_
          rw [upd_ne hb, upd_ne (ne_of_none e m2)]
          exact e
      · rcases List.mem_cons.mp hb with rfl | hb
        · exact m2
        · have h0 := ow'.own b hb
          by_cases hk : b = kb
          · rw [hk, upd_same] at h0
            cases h0
          · rw [upd_ne hk] at h0
            by_cases hm : b = me2
            · rw [hm, upd_same] at h0
              cases h0
            · rw [upd_ne hm] at h0
              exact h0
    | @keeps ks t hk =>
      obtain rfl : v = .non := h5
      have lw := line_len okw
      have lks := kept_len hk
      have line : (1000 : Nat) < sizeLine := by decide
      refine ⟨_, rfl, me2, CS, dx, _, .non, rfl, h3, R.cl, R.nt, rfl, _, rfl, ?_⟩
      rw [decide_eq_true (show V.non = V.non from rfl)]
      refine iteF ⟨_, rfl, rfl, lineW (("keeps" : Str) :: ks), spS, rfl, rfl, by decide +kernel, by omega, fun p hp => ?_⟩
      rw [split_words okw.1 okw.2.2]
      have s1 := same_upd (o := .lst ((("keeps" : Str) :: ks).map V.str)) hp
      refine ⟨p, .str "keeps", ks.map V.str, rfl, SqL.of upd_same, by rw [List.length_map]; omega, fun p2 hp2 => ?_⟩
      have s2' := s1.trans (same_upd (o := .lst (ks.map V.str)) hp2)
      refine ⟨_, _, rfl, _, _, rfl, rfl, ?_⟩
      have kp : setD (strT ks) = true := by
        have h : (setD (strT ks) && decide ((ks.map PyData.str).length ≤ 4)) = true := hk
        exact (Bool.and_eq_true_iff.mp h).1
      refine ⟨_, rfl, rfl, _, rfl, iteF ⟨_, rfl, p2, _, rfl, .inl ⟨SqL.of upd_same, fun l hl => ?_⟩⟩⟩
      have s3 := s2'.trans (same_upd (o := .tup (ks.map V.str)) hl)
      refine ⟨_, .ref l, strT ks, rfl, dt_strT upd_same (by omega), (keeps_sh hk).2.1, fun H5 s5 => ⟨_, rfl, ?_⟩⟩
      rw [kp]
      have e52 : H5 p2 = some (.lst (ks.map V.str)) := s5 _ _ (same_upd hl _ _ upd_same)
      refine iteF ⟨_, rfl, p2, _, rfl, .inl ⟨SqL.of e52, fun kb hkb => ?_⟩⟩
      have s6 := (s3.trans s5).trans (same_upd (o := .tup (ks.map V.str)) hkb)
      have e6 := s6 _ _ h3
      have h4 : Rd C false H F0 me k' t.1 t.2 := h4
      have h46 := h4.mv s6
      have nem : me ≠ me2 := fun z => by
        obtain ⟨⟨dx', o, r, as, xs, eF, em, _⟩, _⟩ := h4
        rw [z, h3] at em
        have q := congrArg (fun o : Option HO => match o with
          | some (HO.ins _ _ fs) => fs.length
          | _ => 0) em
        have q : (2 : Nat) = 3 := q
        exact absurd q (by decide)
      have nkm : kb ≠ me2 := fun z => by
        rw [z, (s3.trans s5) _ _ h3] at hkb
        cases hkb
      refine ⟨_, rfl, me2, CS, dx, _, rfl, e6, R.cl, R.nt, (by show 2 < 1000; decide), ?_⟩
      refine q _ (me2 :: F0) ((ow.to s6).put (List.mem_cons_self ..)) ⟨dx, me, F0, .ref kb, k', by omega, rfl, upd_same, h46.other e6 nem, kb, rfl, ?_, hk⟩
      rw [upd_ne nkm, upd_same]
end
end OM

namespace OM
open PySem PySem.Spec PyProof.Rows L2
abbrev sRdC : Stmt := top 52
abbrev sRdS : Stmt := top 53
theorem Steps.g {sh : Bool} : ∀ {wss : List (List Str)} {s s' : RSt}, Steps sh wss s s' → StpG (Step sh) wss s s'
  | _, _, _, .nil => .nil
  | _, _, _, .cons h r => .cons h (Steps.g r)
theorem Steps.gs {ks : List Str} : ∀ {wss : List (List Str)} {s s' : RSt}, Steps false wss s s' → StpG StpS wss (some ks, s) (some ks, s')
  | _, _, _, .nil => .nil
  | _, _, _, .cons h r => .cons (.body h) (Steps.gs r)
/-- what a stretch takes, and its kept registers -/
structure StOk (ds : List PyData) (ks : List Str) : Prop where
  rows : ds.all (rowD (cdOf 3)) = true
  few : (flatN 3 ds).length ≤ 100
  bnd : bndD ds = true
  ns : nsAll ds = true
  kept : keptD (strT ks) = true
theorem StOk.okD {ds : List PyData} {ks : List Str} (h : StOk ds ks) : okD (.tuple ds) (strT ks) = true := by
  have cd : codeD 3 (.tuple ds) = true := by
    rw [codeD_tup]
    exact h.rows
  unfold OM.okD itemsD
  rw [cd, h.bnd, h.kept]
  rfl
theorem StOk.shw {ds : List PyData} {ks : List Str} (h : StOk ds ks) : ∀ x ∈ flatN 3 ds, ShW x := by
  have key : ∀ (n : Nat) (es : List PyData), es.all (rowD (cdOf n)) = true → nsAll es = true → ∀ x ∈ flatN n es, ShW x := by
    intro n
    induction n with
    | zero =>
      intro es he hn x hx
      unfold flatN at hx
      obtain ⟨d, hd, hx⟩ := List.mem_flatMap.mp hx
      rw [List.mem_singleton.mp hx]
      rw [nsAll_all] at hn
      have nd := List.all_eq_true.mp hn d hd
      obtain ⟨w, rest, rs, rfl, _⟩ := rowD_shape (List.all_eq_true.mp he d hd)
      rw [nsD_tup] at nd
      unfold nsAll nsD at nd
      rw [Bool.and_eq_true, decide_eq_true_eq] at nd
      exact nd.1
    | succ m ih =>
      intro es he hn x hx
      unfold flatN at hx
      obtain ⟨d, hd, hx⟩ := List.mem_flatMap.mp hx
      rw [nsAll_all] at hn
      have nd := List.all_eq_true.mp hn d hd
      have row := List.all_eq_true.mp he d hd
      rcases row_iff row with ⟨m', p, q, ys, ns, em, rfl, hy, hno, hp, hq⟩ | ⟨w, rest, rfl, ni, i0⟩
      · obtain rfl : m = m' := by omega
        rw [nsD_tup] at nd
        simp only [nsAll, Bool.and_eq_true] at nd
        rw [ifS row] at hx
        rcases List.mem_cons.mp hx with rfl | hx
        · show ("if" : Str) ≠ "show"
          decide +kernel
        · rcases List.mem_append.mp hx with hx | hx
          · exact ih ys hy (by have := nd.2.2.2.1; rw [nsD_tup] at this; exact this) x hx
          · exact ih ns hno (by have := nd.2.2.2.2.1; rw [nsD_tup] at this; exact this) x hx
      · rw [leafS row i0] at hx
        rw [List.mem_singleton.mp hx]
        rw [nsD_tup] at nd
        unfold nsAll nsD at nd
        rw [Bool.and_eq_true, decide_eq_true_eq] at nd
        exact nd.1
  exact key 3 ds h.rows h.ns
def spRdC : Sp := fun vs H Q _ => ∃ ds : List PyData, vs = [.str (linesT (wssN 3 ds))] ∧ ThrOk ds ∧ ∀ H' v, Same H H' → Dt (fun _ => True) H' v (.tuple ds) → Q v H'
def spRdS (C : Addr) : Sp := fun vs H Q _ => ∃ (ds : List PyData) (ks : List Str), vs = [.str (linesT (wssT ds ks))] ∧ StOk ds ks ∧ ∀ H' a dx kb c, Same H H' → H' a = some (insS C dx c (.ref kb)) → Dt (fun _ => True) H' c (.tuple ds) → H' kb = some (.tup (ks.map V.str)) → Q (.ref a) H'
section
variable {P : Program} {w : World} {K : PySem.W.Frag} {mg : Str → Option Value} {base : Heap} {f fR fD fA fH fS C CS : Addr} {fd dR dD dA dH dS : FuncData}
theorem scRC : FnScope ["text", "reader", "code"] ["text"] (defScope sRdC) := ⟨rfl, rfl, rfl, by decide +kernel, rfl, by decide +kernel, by decide +kernel⟩
theorem ok_rdc (F : Fun K "read_code" "read_code" sRdC f fd) (R : RdC K C) (M : Mk K C fR) (gC : mg "CodeReader" = some (.ref C)) (bR : Binds K dR ["self", "shows"] []) (GR : FnOk P w K mg base CX0 1 fR dR ["self", "shows"] (spRIn C))
    (gD : mg "_read" = some (.ref fD)) (kD : PySem.W.keepIn K (.ref fD) = true) (bD : Binds K dD ["reader", "text"] []) (GD : FnOk P w K mg base CX0 4 fD dD ["reader", "text"] (spReadG (RG C true) (Step true) (fun s : RSt => s.1 = [])))
    (mA : Meth K C "all_code" fA) (bA : Binds K dA ["self"] []) (GA : FnOk P w K mg base CX0 1 fA dA ["self"] (spAllC C)) (gH : mg "_check_code" = some (.ref fH)) (kH : PySem.W.keepIn K (.ref fH) = true) (bH : Binds K dH ["code"] []) (GH : FnOk P w K mg base CX0 15 fH dH ["code"] spChk) :
    FnOk P w K mg base CX0 16 f fd ["text"] spRdC := by
  refine F.ok scRC (fun vs H Q E h => ?_) (fun cdv A outer s H vs Q E hr h => ?_)
  · obtain ⟨ds, rfl, _⟩ := h
    rfl
  · obtain ⟨ds, rfl, ok, q⟩ := h
    refine ⟨_, pss_cons (ps_set (i := 1) scRC.nd rfl (Or.inl rfl) (pe_make M GR (hr.mono (by decide)) (by rfl) gC bR .nil pass0 (pa_cons pe_bl pa_nil)))
      (pss_cons (ps_expr (pe_call GD (hr.mono (by decide)) (by rfl) gD kD bD .nil pass0 (pa_cons (pv 1) (pa_cons (pv 0) pa_nil))))
      (pss_cons (ps_set (i := 2) scRC.nd rfl (Or.inl rfl) (pe_meth0 (pv 1) R.cl mA GA (hr.mono (by decide)) bA .nil pass0))
      (pss_cons (ps_expr (pe_call GH hr (by rfl) gH kH bH .nil pass0 (pa_cons (pv 2) pa_nil)))
      (pss_one (ps_ret (pv 2)))))), ?_⟩
    have sz := ok.size
    intro x dx hx hdx ne
    refine ⟨x, dx, true, rfl, upd_same, fun H2 F b2 fr rd => ⟨rfl, ?_⟩⟩
    have s2 : Same H H2 := fun b u e => b2 b u (ne_of_none e hx) (by
      rw [upd_ne (ne_of_none e hx), upd_ne (ne_of_none e hdx)]
      exact e)
    have ow : Own0 H H2 F := ⟨s2, fun b hb => by
      have h1 := fr b hb
      have nbx : b ≠ x := fun z => by rw [z, upd_same] at h1; cases h1
      rw [upd_ne nbx] at h1
      have nbd : b ≠ dx := fun z => by rw [z, upd_same] at h1; cases h1
      rw [upd_ne nbd] at h1
      exact h1⟩
    have st := (steps_code (sh := true) 3 ds ok.rows (.inl rfl) [] [] []).g
    refine ⟨_, rfl, _, rfl, H, F, x, ([], [[]]), ([], [ds]), wssN 3 ds, rfl, rd, ow, code_ws ok.rows, by omega, st, rfl, fun H3 F3 k3 ow3 rd3 => ?_⟩
    have rd3 : Rd C true H3 F3 x k3 [] [ds] := rd3
    obtain ⟨⟨dx', o, r, as, xs, eF, em, _⟩, _⟩ := id rd3
    refine ⟨_, rfl, x, dx', _, rfl, em, rfl, F3, true, x, k3, [], ds, rfl, rd3, fun H4 v s4 d4 => ?_⟩
    refine ⟨_, rfl, v, ds, rfl, d4, ok, fun H5 s5 => ⟨_, rfl, q H5 v ((ow3.same.trans s4).trans s5) (d4.mv (fun _ z => z) fun b o _ z => s5 b o z)⟩⟩
theorem scRS : FnScope ["text", "reader"] ["text"] (defScope sRdS) := ⟨rfl, rfl, rfl, by decide +kernel, rfl, by decide +kernel, by decide +kernel⟩
theorem ok_rds {CT cS fT : Addr} {dT : FuncData} (F : Fun K "read_stretch" "read_stretch" sRdS f fd) (RS : SrC K CS) (R : RdC K C) (M : Mk K CS fS) (gC : mg "StretchReader" = some (.ref CS)) (bS : Binds K dS ["self"] []) (GS : FnOk P w K mg base CX0 3 fS dS ["self"] (spSIn C CS))
    (gD : mg "_read" = some (.ref fD)) (kD : PySem.W.keepIn K (.ref fD) = true) (bD : Binds K dD ["reader", "text"] []) (GD : FnOk P w K mg base CX0 6 fD dD ["reader", "text"] (spReadG (RdS C CS) StpS (fun s : SSt => s.1 ≠ none ∧ s.2.1 = [])))
    (mA : Meth K C "all_code" fA) (bA : Binds K dA ["self"] []) (GA : FnOk P w K mg base CX0 1 fA dA ["self"] (spAllC C)) (MT : Mk K CT fT) (gT : mg "Stretch" = some (.ref CT)) (bT : Binds K dT ["self", "code", "keeps"] []) (GT : FnOk P w K mg base (L2.CX P w) 15 fT dT ["self", "code", "keeps"] (spSI CT cS)) :
    FnOk P w K mg base CX0 17 f fd ["text"] (spRdS CT) := by
  refine F.ok scRS (fun vs H Q E h => ?_) (fun cdv A outer s H vs Q E hr h => ?_)
  · obtain ⟨ds, ks, rfl, _⟩ := h
    rfl
  · obtain ⟨ds, ks, rfl, ok, q⟩ := h
    refine ⟨_, pss_cons (ps_set (i := 1) scRS.nd rfl (Or.inl rfl) (pe_make0 M GS (hr.mono (by decide)) (by rfl) gC bS .nil pass0))
      (pss_cons (ps_expr (pe_call GD (hr.mono (by decide)) (by rfl) gD kD bD .nil pass0 (pa_cons (pv 1) (pa_cons (pv 0) pa_nil))))
      (pss_one (ps_ret (pe_make MT GT hr (by rfl) gT bT .nil (passes_call L2.takes0 (fun _ _ _ _ h => h)) (pa_cons (pe_meth0 (pe_fld (pv 1) rfl) R.cl mA GA (hr.mono (by decide)) bA .nil pass0) (pa_cons (pe_fld (pv 1) rfl) pa_nil)))))), ?_⟩
    intro x dx hx hdx ne
    refine ⟨x, dx, rfl, upd_same, fun H2 F b2 fr rd => ⟨rfl, ?_⟩⟩
    have s2 : Same H H2 := fun b u e => b2 b u (ne_of_none e hx) (by
      rw [upd_ne (ne_of_none e hx), upd_ne (ne_of_none e hdx)]
      exact e)
    have ow : Own0 H H2 F := ⟨s2, fun b hb => by
      rcases fr b hb with rfl | h1
      · exact hx
      · have nbx : b ≠ x := fun z => by rw [z, upd_same] at h1; cases h1
        rw [upd_ne nbx] at h1
        have nbd : b ≠ dx := fun z => by rw [z, upd_same] at h1; cases h1
        rw [upd_ne nbd] at h1
        exact h1⟩
    have st := (steps_code (sh := false) 3 ds ok.rows (.inr ok.shw) [] [] []).gs (ks := ks)
    have lw : (wssN 3 ds).length ≤ 300 := by
      have := code_lines ok.rows
      have := ok.few
      omega
    refine ⟨_, rfl, _, rfl, H, F, x, (none, ([], [[]])), (some ks, ([], [ds])), wssT ds ks, rfl, rd, ow, wssT_ok ok.rows ok.kept, by show (wssN 3 ds).length + 1 ≤ 800; omega, .cons (.keeps ok.kept) st, ⟨(fun z => nomatch z), rfl⟩, fun H3 F3 k3 ow3 rd3 => ?_⟩
    obtain ⟨dx', me, F0, v, k', h1, rfl, h3, h4, h5⟩ := rd3
    obtain ⟨kb, rfl, ekb, hk⟩ := h5
    have h4 : Rd C false H3 F0 me k' [] [ds] := h4
    obtain ⟨⟨dxm, o, r, as, xs, eF, em, _⟩, _⟩ := id h4
    refine ⟨_, rfl, x, CS, dx', _, .ref me, rfl, h3, RS.cl, RS.nb, rfl, me, dxm, _, rfl, em, rfl, F0, false, me, k', [], ds, rfl, h4, fun H4 v4 s4 d4 => ?_⟩
    refine ⟨_, rfl, x, CS, dx', _, .ref kb, rfl, s4 _ _ h3, RS.cl, RS.nt, rfl, ?_⟩
    intro y dy hy hdy ney
    have s5 : Same H4 (upd (upd H4 dy (.own y)) y (.ins CT dy [])) := fun b u e => by
      rw [upd_ne (ne_of_none e hy), upd_ne (ne_of_none e hdy)]
      exact e
    have lk := kept_len ok.kept
    have ekb5 := s5 _ _ (s4 _ _ ekb)
    have d5 := d4.mv (fun _ z => z) fun b o _ z => s5 b o z
    refine ⟨fun _ => True, y, dy, v4, .ref kb, .tuple ds, strT ks, rfl, upd_same, d5, dt_strT ekb5 (by omega), by rw [nsD_tup]; exact ok.ns, by rw [sml_tup]; exact rows_small ok.rows, (keeps_sh ok.kept).2.1, fun _ => Nat.le_trans ok.few (by decide), fun _ H6 b6 e6 => ⟨rfl, ?_⟩, fun z => by rw [ok.okD] at z; cases z⟩
    have s6 : Same H4 H6 := fun b u e => b6 b u (ne_of_none e hy) (s5 b u e)
    exact q H6 y dy kb v4 ((ow3.same.trans s4).trans s6) e6 (d4.mv (fun _ z => z) fun b o _ z => s6 b o z) (s6 _ _ (s4 _ _ ekb))
end
end OM

namespace OM
open PySem PySem.Spec PyProof.Rows L2
abbrev sThread : Stmt := top 71
abbrev nTh : List Str := ["_law_dice_here", "_law_most", "_law_letters", "_law_tests", "_law_code_here", "_law_turn", "_law_at"]
def showD (r : Str) : PyData := .tuple [.str "show", .str r]
theorem show_leaf {r : Str} (h : r ∈ regs4) : Leaf (showD r) := by
  have row : rowD (cdOf 0) (showD r) = true := (by decide +kernel : ∀ r ∈ regs4, rowD (cdOf 0) (showD r) = true) r h
  exact leaf_of row (by decide +kernel) (by decide +kernel) (by decide +kernel) (by decide +kernel)
theorem DrT.show {ds : List PyData} {l s t : Nat} (h : DrT 2 ds l s t) (i : Nat) {r : Str} (hr : r ∈ regs4) : DrT 2 (ds.take i ++ [showD r] ++ ds.drop i) l s t := by
  have L := show_leaf hr
  obtain ⟨h1, h2, h3, h4, h5⟩ := h
  have e : ds = ds.take i ++ ds.drop i := (List.take_append_drop i ds).symm
  rw [e] at h1 h2 h3 h4 h5
  obtain ⟨a1, a2⟩ := all_ap.mp h1
  refine ⟨all_ap.mpr ⟨all_ap.mpr ⟨a1, by rw [List.all_cons, L.row 2]; rfl⟩, a2⟩, ?_, ?_, ?_, ?_⟩
  · simp only [W_ap, L.w, L.i0, List.length_append] at h2 ⊢
    show _ + 1 + _ ≤ _ + 1 + _ + _
    omega
  · simp only [W_ap, L.w, L.l0] at h3 ⊢
    omega
  · simp only [W_ap, L.w, L.s0] at h4 ⊢
    omega
  · simp only [W_ap, L.w, L.i0] at h5 ⊢
    omega
def spThread : Sp := fun vs H Q _ => ∃ (d : Addr) (m l t : Nat), vs = [.ref d, .int m, .int l, .int t] ∧ m ≤ 100 ∧ t ≤ 20 ∧ Dice H d ∧ ∀ H' v ds, But d H H' → Dice H' d → DrT 2 ds l 3 t → ds.length ≤ m + 2 → Dt (fun _ => True) H' v (.tuple ds) → Q v H'
section
variable {P : Program} {w : World} {K : PySem.W.Frag} {mg : Str → Option Value} {base : Heap} {f fR fO fC fS : Addr} {fd fdR fdO dC dS : FuncData}
theorem scThd : FnScope nTh ["_law_dice_here", "_law_most", "_law_letters", "_law_tests"] (defScope sThread) := ⟨rfl, rfl, rfl, by decide +kernel, rfl, by decide +kernel, by decide +kernel⟩
theorem ok_thread (F : Fun K "_law_thread" "_law_thread" sThread f fd) (C : DCodeF K mg fR fO fC fS fdR fdO dC dS) (rng : mg "range" = none) : FnOk P w K mg base CX0 9 f fd ["_law_dice_here", "_law_most", "_law_letters", "_law_tests"] spThread := by
  have GR : FnOk P w K mg base CX0 1 fR fdR ["_law_dice_here", "_law_total"] spRoll := ok_roll C.D.FR C.D.T
  have GO : FnOk P w K mg base CX0 2 fO fdO ["_law_dice_here", "_law_items"] (spOneOf K) := ok_oneof C.D.FO C.D.T C.D.FR C.D.gR C.D.bR
  have GC : FnOk P w K mg base CX0 8 fC dC ["_law_dice_here", "_law_most", "_law_room", "_law_deep"] (spCodeAt 3) := ok_dcode C 3
  refine F.ok scThd (fun vs H Q E h => ?_) (fun cdv A outer s H vs Q E hr h => ?_)
  · obtain ⟨d, m, l, t, rfl, _⟩ := h
    rfl
  · obtain ⟨d, m, l, t, rfl, hm, ht20, hd, q⟩ := h
    refine ⟨_, pss_cons (ps_set (i := 4) scThd.nd rfl (Or.inl rfl) (pe_call GC hr (by rfl) C.gC C.FC.kp C.bC .nil pass0 (pa_cons (pv 0) (pa_cons (pv 1) (pa_cons (pe_lst (pa_cons (pv 2) (pa_cons pe_int (pa_cons (pv 3) pa_nil)))) (pa_cons pe_int pa_nil))))))
      (pss_cons (ps_for PassesOwn.never rfl (pi_range1 (by rfl) rng (pa_cons (pe_call GR (hr.mono (by decide)) (by rfl) C.D.gR C.D.FR.kp C.D.bR .nil pass0 (pa_cons (pv 0) (pa_cons pe_int pa_nil))) pa_nil)) (pg_name (i := 5) scThd.nd rfl (Or.inl rfl))
        (pss_cons (ps_set (i := 6) scThd.nd rfl (Or.inl rfl) (pe_call GR (hr.mono (by decide)) (by rfl) C.D.gR C.D.FR.kp C.D.bR .nil pass0 (pa_cons (pv 0) (pa_cons (pe_op op_add (pe_callB call_len_seq (by rfl) C.D.T.len PySem.boot_len (pa_cons (pv 4) pa_nil)) pe_int) pa_nil))))
        (pss_one (ps_set (i := 4) scThd.nd rfl (Or.inl rfl) (pe_op op_catA (pe_op op_catA (pe_slice sl_tupA (pv 4) po_none (po_some (pv 6))) (pe_tup (pa_cons (pe_tup (pa_cons pe_str (pa_cons (pe_call GO (hr.mono (by decide)) (by rfl) C.D.gO C.D.FO.kp C.D.bO .nil pass0 (pa_cons (pv 0) (pa_cons (pe_lst (pa_cons pe_str (pa_cons pe_str (pa_cons pe_str (pa_cons pe_str pa_nil))))) pa_nil))) pa_nil))) pa_nil)))
          (pe_slice sl_tupA (pv 4) (po_some (pv 6)) po_none))))))
      (pss_one (ps_ret (pv 4)))), ?_⟩
    have line : (100000 : Nat) < sizeLine := by decide
    refine ⟨_, rfl, _, rfl, _, rfl, _, rfl, (by show 3 ≤ sizeLine; decide), fun p1 hp1 => ?_⟩
    have s1 := same_upd (o := .lst [.int (l : Int), .int 3, .int (t : Int)]) hp1
    have hd1 := hd.mv s1
    have ne : d ≠ p1 := fun z => hd.ne (by rw [z]; exact hp1)
    refine ⟨d, p1, m, l, 3, t, rfl, hm, hd1, upd_same, ne, fun H2 v ds l1 sa t1 z1 b2 hd2 co hlen hl1 hs1 ht1 _ dv => ?_⟩
    have dr := co.dr.tr
    have dr0 : DrT 2 ds l 3 t := ⟨dr.rows, dr.sz, Nat.le_trans dr.lt hl1, Nat.le_trans dr.st hs1, Nat.le_trans dr.iff ht1⟩
    have b02 : But d H H2 := fun b o hb e => b2 b o hb (ne_of_none e hp1) (s1 b o e)
    have dv2 : Dt (fun _ => True) H2 v (.tuple ds) := dv.mv (fun _ _ => trivial) fun b o _ z => z
    refine ⟨_, rfl, d, 3, rfl, hd2, by decide, by decide, fun H3 k k0 k1 b3 hd3 => ⟨_, rfl, ?_⟩⟩
    obtain ⟨kk, rfl⟩ : ∃ kk : Nat, k = (kk : Int) := ⟨k.toNat, by omega⟩
    refine ⟨by omega, by omega, ?_⟩
    have ek : ((kk : Int)).toNat = kk := by omega
    rw [ek]
    refine for_range (fun i σ G => (∃ v4 x5 x6, σ = [some (.ref d), some (.int (m : Int)), some (.int (l : Int)), some (.int (t : Int)), some v4, x5, x6] ∧ ∃ es, DrT 2 es l 3 t ∧ es.length ≤ m + i ∧ Dt (fun _ => True) G v4 (.tuple es)) ∧ But d H G ∧ Dice G d)
      ⟨⟨v, none, none, rfl, ds, dr0, hlen, Dt.butD hd2 b3 (rows_pure dr0.rows) dv2⟩, b02.tr b3, hd3⟩ (fun i σ G hi h => ?_) (fun σ G h => ?_)
    · obtain ⟨⟨v4, x5, x6, rfl, es, de, le, hv4⟩, bG, dG⟩ := h
      obtain ⟨a, xs, rfl, ea, la, hx⟩ := hv4.tup_of
      have pur := rows_pure de.rows
      have lx := hx.length
      refine ⟨_, rfl, _, rfl, a, xs, rfl, .inr (SqT.of ea), _, _, rfl, rfl, d, _, rfl, dG, by omega, by omega, fun H4 j j0 j1 b4 hd4 => ?_⟩
      obtain ⟨at_, rfl⟩ : ∃ at_ : Nat, j = (at_ : Int) := ⟨j.toNat, by omega⟩
      have nad : a ≠ d := fun z => by
        obtain ⟨_, _, _, e⟩ := dG
        rw [z, e] at ea
        cases ea
      have ea4 := b4 _ _ nad ea
      refine ⟨_, rfl, _, rfl, (at_ : Int), rfl, ?_⟩
      refine sl_one ea4 ?_
      intro c1 H5 s5 _ e5
      rw [cut_take xs (by omega)] at e5
      refine ⟨_, rfl, (by show 4 ≤ sizeLine; decide), fun p3 hp3 => ?_⟩
      have s53 := same_upd (o := .lst (regs4.map V.str)) hp3
      have s3 := s5.trans s53
      refine ⟨d, p3, regs4.map V.str, rfl, hd4.mv s3, SqL.of upd_same, fun _ z => (hd4.mv s5).ne (by rw [← z]; exact hp3), (by show (0 : Nat) < 4; decide), (by show (4 : Nat) < 1073741824; decide), fun H6 i6 v6 hv6 b6 hd6 => ?_⟩
      rw [List.getElem?_map] at hv6
      obtain ⟨r, hr6, rfl⟩ := Option.map_eq_some_iff.mp hv6
      have hr4 := List.mem_of_getElem? hr6
      refine ⟨(by show 2 ≤ sizeLine; decide), fun tp htp => ⟨(by show 1 ≤ sizeLine; decide), fun tq htq => ?_⟩⟩
      have st := same_upd (o := .tup [.str "show", .str r]) htp
      have su := st.trans (same_upd (o := .tup [.ref tp]) htq)
      have ntq : tp ≠ tq := fun z => by rw [← z, upd_same] at htq; cases htq
      have nc1 : c1 ≠ d := fun z => by
        obtain ⟨_, _, _, e⟩ := hd4.mv s5
        rw [z, e] at e5
        cases e5
      have e7 := su _ _ (b6 _ _ nc1 (s53 _ _ e5))
      have t1l : (xs.take at_).length ≤ 1000 := by
        rw [List.length_take]
        omega
      refine cat_one (K := K) e7 upd_same (by show _ + 1 ≤ sizeLine; omega) fun c3 H8 s8 _ e8 => ⟨_, rfl, _, rfl, (at_ : Int), rfl, ?_⟩
      have b48 : But d H4 H8 := (((s_bt s3).tr b6).tr (s_bt su)).tr (s_bt s8)
      refine sl_two (K := K) (b48 _ _ nad ea4) ?_
      intro c4 H9 s9 _ e9
      rw [cut_drop xs (by omega)] at e9
      have t2l : (xs.drop at_).length ≤ 1000 := by
        rw [List.length_drop]
        omega
      refine cat_one (K := K) (s9 _ _ e8) e9 (by rw [List.length_append]; show _ + 1 + _ ≤ sizeLine; omega) fun c5 H10 s10 _ e10 => ?_
      have b410 : But d H4 H10 := b48.tr ((s_bt s9).tr (s_bt s10))
      have bG10 : But d G H10 := b4.tr b410
      have dx10 : DtAll (fun _ => True) H10 xs es := by
        obtain ⟨_, _, _, e⟩ := dG
        exact DtAll.butL e bG10 (by unfold pureD at pur; exact pur) hx
      have etp : H10 tp = some (.tup [.str "show", .str r]) := s10 _ _ (s9 _ _ (s8 _ _ (by rw [upd_ne ntq, upd_same])))
      have dsh : Dt (fun _ => True) H10 (.ref tp) (showD r) := .tup trivial etp (by show 2 ≤ 1000; decide) (.cons (.at (.str _)) (.cons (.at (.str _)) .nil))
      refine ⟨⟨.ref c5, _, _, rfl, es.take at_ ++ [showD r] ++ es.drop at_, de.show at_ hr4, ?_, ?_⟩, bG.tr bG10, ((((hd6.mv su).mv s8).mv s9).mv s10)⟩
      · rw [List.length_append, List.length_append, List.length_take, List.length_drop]
        show _ + 1 + _ ≤ _
        omega
      · refine .tup trivial e10 ?_ (((dta_take at_ dx10).app (.cons dsh .nil)).app (dta_drop at_ dx10))
        rw [List.length_append, List.length_append, List.length_take, List.length_drop]
        show _ + 1 + _ ≤ 1000
        have := hi
        omega
    · obtain ⟨⟨v4, x5, x6, rfl, es, de, le, hv4⟩, bG, dG⟩ := h
      exact ⟨_, rfl, q G v4 es bG dG de (by omega) hv4⟩
end
end OM

namespace OM
open PySem PySem.Spec PyProof.Rows L2
abbrev sCR : Stmt := top 73
theorem text_strOk {wss : List (List Str)} (h : ∀ ws ∈ wss, WsOk ws) : PyData.strOk (linesT wss) = true := by
  unfold PyData.strOk
  rw [Array.all_eq_true']
  intro c hc
  have hc' : c ∈ TL.tl (linesT wss) := by
    show c ∈ (linesT wss).cps.toList
    simpa using hc
  unfold linesT at hc'
  rw [TL.join_eq, TL.tl_join] at hc'
  rcases joinL_mem hc' with z | ⟨p, hp, z⟩
  · have : TL.tl nlT = [10] := by decide +kernel
    rw [this] at z
    rw [List.mem_singleton.mp z]
    decide
  · obtain ⟨x, hx, rfl⟩ := List.mem_map.mp hp
    obtain ⟨ws, hw, rfl⟩ := List.mem_map.mp hx
    have := line_let (h ws hw) c z
    exact decide_eq_true (by omega)
theorem sh_two {x : Str} {d : PyData} (hx : PyData.strOk x = true) (hd : SeqAt.shaped d = true) (dp : d.depth ≤ 60) : SeqAt.shaped (.list [.str x, d]) = true := by
  have h1 : (PyData.canLay0 d && decide (d.depth ≤ 64)) = true := hd
  have h2 : PyData.canLay0 d = true := (Bool.and_eq_true_iff.mp h1).1
  have e : PyData.canLay0 (.list [.str x, d]) = true := by
    unfold PyData.canLay0
    show (PyData.canLay0 (.str x) && (PyData.canLay0 d && true)) = true
    have : PyData.canLay0 (.str x) = true := by
      unfold PyData.canLay0
      exact hx
    rw [this, h2]
    rfl
  have de : (PyData.list [.str x, d]).depth ≤ 64 := by
    have : (PyData.list [.str x, d]).depth = PyData.depthAll [.str x, d] + 1 := by unfold PyData.depth; rfl
    rw [this, depthAll_cons, depthAll_cons]
    have e0 : (PyData.str x).depth = 0 := rfl
    have e1 : PyData.depthAll [] = 0 := rfl
    omega
  show (PyData.canLay0 _ && decide _) = true
  rw [e, decide_eq_true de]
  rfl
theorem eqv_two {x : Str} {d : PyData} (h : pureD d = true) : PyData.eqv (.list [.str x, d]) (.list [.str x, d]) = true := by
  have h2 : pureAll [.str x, d] = true := by
    rw [pureAll_cons', pureAll_one, h]
    unfold pureD
    rfl
  unfold PyData.eqv
  exact eqv_pureAll _ h2
def spCR : Sp := fun vs H Q _ => ∃ (v : V) (ds : List PyData), vs = [v] ∧ Dt (fun _ => True) H v (.tuple ds) ∧ ThrOk ds ∧ ∀ H', Same H H' → Q (.bl true) H'
section
variable {P : Program} {w : World} {K : PySem.W.Frag} {mg : Str → Option Value} {base : Heap} {f fL fW fR : Addr} {fd dL dW dR : FuncData}
theorem scCR : FnScope ["_law_code_here", "_law_text"] ["_law_code_here"] (defScope sCR) := ⟨rfl, rfl, rfl, by decide +kernel, rfl, by decide +kernel, by decide +kernel⟩
theorem ok_cr (F : Fun K "_law_code_right" "_law_code_right" sCR f fd) (gL : mg "_law_written" = some (.ref fL)) (kL : PySem.W.keepIn K (.ref fL) = true) (bL : Binds K dL ["_law_code_here"] []) (GL : FnOk P w K mg base CX0 4 fL dL ["_law_code_here"] (spLinesAt 4))
    (gW : mg "write_code" = some (.ref fW)) (kW : PySem.W.keepIn K (.ref fW) = true) (bW : Binds K dW ["code"] []) (GW : FnOk P w K mg base CX0 16 fW dW ["code"] spWrC) (gR : mg "read_code" = some (.ref fR)) (kR : PySem.W.keepIn K (.ref fR) = true) (bR : Binds K dR ["text"] []) (GR : FnOk P w K mg base CX0 16 fR dR ["text"] spRdC) :
    FnOk P w K mg base CX0 17 f fd ["_law_code_here"] spCR := by
  refine F.ok scCR (fun vs H Q E h => ?_) (fun cdv A outer s H vs Q E hr h => ?_)
  · obtain ⟨v, ds, rfl, _⟩ := h
    rfl
  · obtain ⟨v, ds, rfl, hd, ok, q⟩ := h
    have hu : (A.deeper (envOfC "_law_code_right" (defScope sCR) s.heap.objs.size f cdv)).units + 64 < cLine := by
      have := hr.un
      omega
    refine ⟨_, pss_cons (ps_set (i := 1) scCR.nd rfl (Or.inl rfl) (pe_bm PySem.F.plainAttrs_str PySem.F.slot_str_join PySem.F.type_str_join mt_join pe_str (pa_cons (pe_call GL (hr.mono (by decide)) (by rfl) gL kL bL .nil pass0 (pa_cons (pv 0) pa_nil)) pa_nil)))
      (pss_one (ps_ret (pe_and (pe_cmpR (op_eqD hu) (pe_lst (pa_cons (pe_call GW hr (by rfl) gW kW bW .nil pass0 (pa_cons (pv 0) pa_nil)) (pa_cons (pe_call GR hr (by rfl) gR kR bR .nil pass0 (pa_cons (pv 1) pa_nil)) pa_nil))) (pe_lst (pa_cons (pv 1) (pa_cons (pv 0) pa_nil))) (nomark _))
        (pe_one (pe_cmpR op_eq (pe_call GW hr (by rfl) gW kW bW .nil pass0 (pa_cons (pe_call GR hr (by rfl) gR kR bR .nil pass0 (pa_cons (pv 1) pa_nil)) pa_nil)) (pv 1) (nomark _)))))), ?_⟩
    have sz := ok.size
    have okw := code_ws ok.rows
    refine ⟨rfl, _, rfl, v, ds, rfl, hd, ok.rows, Nat.le_trans sz (by decide), fun H1 p s1 hp e1 => ?_⟩
    refine ⟨_, p, (wssN 3 ds).map lineW, rfl, rfl, .inl (by rw [← map_vL]; exact SqL.of e1), lines_sum okw (Nat.le_trans sz (by decide)), ?_⟩
    have mv : ∀ {G : Hp}, Same H G → Dt (fun _ => True) G v (.tuple ds) := fun s => hd.mv (fun _ z => z) fun b o _ z => s b o z
    refine ⟨_, rfl, v, ds, rfl, mv s1, ok, fun H2 s2 => ?_⟩
    have s12 := s1.trans s2
    refine ⟨_, rfl, ds, rfl, ok, fun H3 u3 s3 d3 => ?_⟩
    have s13 := s12.trans s3
    refine ⟨(by show 2 ≤ sizeLine; decide), fun p1 hp1 => ?_⟩
    have s4 := s13.trans (same_upd (o := .lst [.str (linesT (wssN 3 ds)), u3]) hp1)
    refine ⟨_, rfl, _, rfl, (by show 2 ≤ sizeLine; decide), fun p2 hp2 => ?_⟩
    have sb := same_upd (o := .lst [.str (linesT (wssN 3 ds)), v]) hp2
    have s5 := s4.trans sb
    have d35 := d3.mv (fun _ z => z) fun b o _ z => sb b o (same_upd (o := .lst [.str (linesT (wssN 3 ds)), u3]) hp1 b o z)
    obtain ⟨dp3, sh⟩ := code_dp (K := K) ok.rows d35
    obtain ⟨dpv, _⟩ := code_dp (K := K) ok.rows (mv s5)
    have shT : SeqAt.shaped (.list [.str (linesT (wssN 3 ds)), .tuple ds]) = true := sh_two (text_strOk okw) sh (by rw [dep_tup]; have := (code_pure ok.rows).2; omega)
    refine ⟨.list [.str (linesT (wssN 3 ds)), .tuple ds], .list [.str (linesT (wssN 3 ds)), .tuple ds], .lst (SqL.of (sb _ _ upd_same)) (.cons (.str _) (.cons dp3 .nil)), .lst (SqL.of upd_same) (.cons (.str _) (.cons dpv .nil)), shT, shT, ?_⟩
    rw [eqv_two (rows_pure ok.rows)]
    refine ⟨_, rfl, iteT ⟨_, rfl, ds, rfl, ok, fun H6 u6 s6 d6 => ⟨u6, ds, rfl, d6, ok, fun H7 s7 => ⟨_, rfl, rfl, ?_⟩⟩⟩⟩
    show Q (.bl (decide (V.str (linesT (wssN 3 ds)) = V.str (linesT (wssN 3 ds))))) H7
    rw [decide_eq_true rfl]
    exact q _ ((s5.trans s6).trans s7)
end
end OM

namespace OM
open PySem PySem.Spec PyProof.Rows L2
abbrev sSR : Stmt := top 74
theorem sh_dd {x d : PyData} (hx : SeqAt.shaped x = true) (hd : SeqAt.shaped d = true) (dx : x.depth ≤ 60) (dp : d.depth ≤ 60) : SeqAt.shaped (.list [x, d]) = true ∧ SeqAt.shaped (.tuple [x, d]) = true := by
  have h1 : (PyData.canLay0 d && decide (d.depth ≤ 64)) = true := hd
  have h2 : PyData.canLay0 d = true := (Bool.and_eq_true_iff.mp h1).1
  have h3 : (PyData.canLay0 x && decide (x.depth ≤ 64)) = true := hx
  have h4 : PyData.canLay0 x = true := (Bool.and_eq_true_iff.mp h3).1
  have e0 : PyData.canLayAll0 [x, d] = true := by
    show (PyData.canLay0 x && (PyData.canLay0 d && true)) = true
    rw [h4, h2]
    rfl
  have da : PyData.depthAll [x, d] ≤ 60 := by
    rw [depthAll_cons, depthAll_cons]
    have e1 : PyData.depthAll [] = 0 := rfl
    omega
  constructor
  · have e : PyData.canLay0 (.list [x, d]) = true := by
      unfold PyData.canLay0
      exact e0
    have de : (PyData.list [x, d]).depth ≤ 64 := by
      have : (PyData.list [x, d]).depth = PyData.depthAll [x, d] + 1 := by unfold PyData.depth; rfl
      omega
    show (PyData.canLay0 _ && decide _) = true
    rw [e, decide_eq_true de]
    rfl
  · have e : PyData.canLay0 (.tuple [x, d]) = true := by
      unfold PyData.canLay0
      exact e0
    have de : (PyData.tuple [x, d]).depth ≤ 64 := by
      rw [dep_tup]
      omega
    show (PyData.canLay0 _ && decide _) = true
    rw [e, decide_eq_true de]
    rfl
theorem eqv_dd {x d : PyData} (h : pureD x = true) (h2 : pureD d = true) : PyData.eqv (.list [x, d]) (.list [x, d]) = true := by
  have h3 : pureAll [x, d] = true := by
    rw [pureAll_cons', pureAll_one, h, h2]
    rfl
  unfold PyData.eqv
  exact eqv_pureAll _ h3
/-- the class Stretch, as the law needs it -/
structure StF (P : Program) (w : World) (K : PySem.W.Frag) (mg : Str → Option Value) (base : Heap) (C cS : Addr) : Prop where
  S : ∃ (fS aS : Addr) (dS : FuncData), StrC K mg C fS aS dS ∧ Binds K dS ["self", "code", "keeps"] [] ∧ FnOk P w K mg base (L2.CX P w) 15 fS dS ["self", "code", "keeps"] (spSI C cS) ∧ FnOk P w K mg base (L2.CX P w) 15 fS dS ["self", "code", "keeps"] (spSI0 K C cS)
  code : PropM P w K mg base C "code" 1 (getSp C "_code")
  keeps : PropM P w K mg base C "keeps" 1 (getSp C "_keeps")
  eq : ∃ (f : Addr) (d : FuncData), PySem.W.findIn K (.ref C) "__eq__" = some (some (.ref f)) ∧ PySem.W.isFn K (.ref f) = true ∧ FnOk P w K mg base CX0 1 f d ["self", "other"] (spEqM K C) ∧ Binds K d ["self", "other"] []
  ne : PySem.W.findIn K (.ref C) "__ne__" = some (some (.builtin "object.__ne__"))
  obj : PySem.W.mroIn K C (.type "object") = some true
  notF : PySem.W.notFirst K C (.ref C) = true
def spSR : Sp := fun vs H Q _ => ∃ (v : V) (kb : Addr) (ds : List PyData) (ks : List Str), vs = [v, .ref kb] ∧ Dt (fun _ => True) H v (.tuple ds) ∧ H kb = some (.tup (ks.map V.str)) ∧ StOk ds ks ∧ ∀ H', Same H H' → Q (.bl true) H'
section
variable {P : Program} {w : World} {K : PySem.W.Frag} {mg : Str → Option Value} {base : Heap} {f fL fW fR C cS : Addr} {fd dL dW dR : FuncData}
theorem scSR : FnScope ["_law_code_here", "_law_keeps", "_law_made", "_law_text", "_law_read"] ["_law_code_here", "_law_keeps"] (defScope sSR) := ⟨rfl, rfl, rfl, by decide +kernel, rfl, by decide +kernel, by decide +kernel⟩
theorem ok_sr (F : Fun K "_law_stretch_right" "_law_stretch_right" sSR f fd) (ST : StF P w K mg base C cS) (ls : mg "list" = none) (gL : mg "_law_written" = some (.ref fL)) (kL : PySem.W.keepIn K (.ref fL) = true) (bL : Binds K dL ["_law_code_here"] []) (GL : FnOk P w K mg base CX0 4 fL dL ["_law_code_here"] (spLinesAt 4))
    (gW : mg "write_stretch" = some (.ref fW)) (kW : PySem.W.keepIn K (.ref fW) = true) (bW : Binds K dW ["stretch"] []) (GW : FnOk P w K mg base CX0 5 fW dW ["stretch"] (spWrS K C)) (gR : mg "read_stretch" = some (.ref fR)) (kR : PySem.W.keepIn K (.ref fR) = true) (bR : Binds K dR ["text"] []) (GR : FnOk P w K mg base CX0 17 fR dR ["text"] (spRdS C)) :
    FnOk P w K mg base CX0 18 f fd ["_law_code_here", "_law_keeps"] spSR := by
  obtain ⟨fS, aS, dS, RS, bS, GS, GS0⟩ := ST.S
  obtain ⟨p1, g1, d1, h1, G1, b1⟩ := ST.code
  obtain ⟨p2, g2, d2, h2, G2, b2⟩ := ST.keeps
  obtain ⟨fe, de, se, ie, Ge, be⟩ := ST.eq
  refine F.ok scSR (fun vs H Q E h => ?_) (fun cdv A outer s H vs Q E hr h => ?_)
  · obtain ⟨v, kb, ds, ks, rfl, _⟩ := h
    rfl
  · obtain ⟨v, kb, ds, ks, rfl, hd, ek, ok, q⟩ := h
    have hu : (A.deeper (envOfC "_law_stretch_right" (defScope sSR) s.heap.objs.size f cdv)).units + 64 < cLine := by
      have := hr.un
      omega
    refine ⟨_, pss_cons (ps_set (i := 2) scSR.nd rfl (Or.inl rfl) (pe_make RS.MS GS (hr.mono (by decide)) (by rfl) RS.gSt bS .nil (passes_call L2.takes0 (fun _ _ _ _ h => h)) (pa_cons (pv 0) (pa_cons (pv 1) pa_nil))))
      (pss_cons (ps_set (i := 3) scSR.nd rfl (Or.inl rfl) (pe_bm PySem.F.plainAttrs_str PySem.F.slot_str_join PySem.F.type_str_join mt_join pe_str (pa_cons (pe_op op_cat (pe_lst (pa_cons (pe_bm PySem.F.plainAttrs_str PySem.F.slot_str_join PySem.F.type_str_join mt_join pe_str (pa_cons (pe_op op_cat (pe_lst (pa_cons pe_str pa_nil)) (pe_callTy call_list_of (by rfl) ls (by decide +kernel) (pa_cons (pv 1) pa_nil))) pa_nil)) pa_nil))
        (pe_call GL (hr.mono (by decide)) (by rfl) gL kL bL .nil pass0 (pa_cons (pv 0) pa_nil))) pa_nil)))
      (pss_cons (ps_set (i := 4) scSR.nd rfl (Or.inl rfl) (pe_call GR hr (by rfl) gR kR bR .nil pass0 (pa_cons (pv 3) pa_nil)))
      (pss_cons (ps_if (PW.pt (pw_or (pt_cmpR op_ne (pe_call GW (hr.mono (by decide)) (by rfl) gW kW bW .nil pass0 (pa_cons (pv 2) pa_nil)) (pv 3) (nomark _))
          (pw_or (pt_cmpR (ne_own (C := C) (f := fe) (fd := de) (k := 1) (sp := spEqM K C) ⟨se, ie, Ge, be⟩ ST.ne ST.obj (hr.mono (by decide))) (pv 4) (pv 2) (nomark _))
          (pw_or1 (pt_cmpR op_ne (pe_call GW (hr.mono (by decide)) (by rfl) gW kW bW .nil pass0 (pa_cons (pv 4) pa_nil)) (pv 3) (nomark _)))))) (pss_one (ps_ret pe_bl)) pss_nil)
      (pss_one (ps_ret (pe_cmpR (op_eqD hu) (pe_lst (pa_cons (pe_prop (E := E0) (pv 4) RS.T.cl h1 G1 (hr.mono (by decide)) b1 .nil pass0 (by rfl)) (pa_cons (pe_prop (E := E0) (pv 4) RS.T.cl h2 G2 (hr.mono (by decide)) b2 .nil pass0 (by rfl)) pa_nil))) (pe_lst (pa_cons (pv 0) (pa_cons (pv 1) pa_nil))) (nomark _))))))), ?_⟩
    have lk := kept_len ok.kept
    have line : (1000 : Nat) < sizeLine := by decide
    have lw2 : (wssN 3 ds).length ≤ 300 := by
      have := code_lines ok.rows
      have := ok.few
      omega
    refine ⟨_, rfl, _, rfl, fun a dx ha hdx ne => ?_⟩
    have s1 : Same H (upd (upd H dx (.own a)) a (.ins C dx [])) := fun b u e => by
      rw [upd_ne (ne_of_none e ha), upd_ne (ne_of_none e hdx)]
      exact e
    have mv : ∀ {G : Hp}, Same H G → Dt (fun _ => True) G v (.tuple ds) := fun s => hd.mv (fun _ z => z) fun b o _ z => s b o z
    refine ⟨fun _ => True, a, dx, v, .ref kb, .tuple ds, strT ks, rfl, upd_same, mv s1, dt_strT (s1 _ _ ek) (by omega), by rw [nsD_tup]; exact ok.ns, by rw [sml_tup]; exact rows_small ok.rows, (keeps_sh ok.kept).2.1, fun _ => Nat.le_trans ok.few (by decide), fun _ H2 b2' e2 => ⟨rfl, ?_⟩, fun z => by rw [ok.okD] at z; cases z⟩
    have s2 : Same H H2 := fun b u e => b2' b u (ne_of_none e ha) (s1 b u e)
    have e2 : H2 a = some (insS C dx v (.ref kb)) := e2
    refine ⟨rfl, rfl, (by show 1 ≤ sizeLine; decide), fun q1 hq1 => ?_⟩
    have s3 := s2.trans (same_upd (o := .lst [.str "keeps"]) hq1)
    refine ⟨_, rfl, kb, _, rfl, .inr (SqT.of (s3 _ _ ek)), fun q2 hq2 => ?_⟩
    have s4 := s3.trans (same_upd (o := .lst (ks.map V.str)) hq2)
    refine ⟨q1, q2, _, _, rfl, rfl, same_upd hq2 _ _ upd_same, upd_same, by rw [List.length_map]; show 1 + _ ≤ _; omega, fun q3 hq3 => ?_⟩
    have s5 := s4.trans (same_upd (o := .lst ([.str "keeps"] ++ ks.map V.str)) hq3)
    have eq3 : ∀ {G : Hp}, upd G q3 (.lst ([.str "keeps"] ++ ks.map V.str)) q3 = some (.lst ((("keeps" : Str) :: ks).map V.str)) := upd_same
    refine ⟨_, q3, ("keeps" : Str) :: ks, rfl, rfl, .inl (SqL.of eq3), join_sum (kept_ws ok.kept), (by show 1 ≤ sizeLine; decide), fun q4 hq4 => ?_⟩
    have s6 := s5.trans (same_upd (o := .lst [vL (("keeps" : Str) :: ks)]) hq4)
    refine ⟨_, rfl, v, ds, rfl, mv s6, ok.rows, Nat.le_trans lw2 (by decide), fun H7 p7 s7 hp7 e7 => ?_⟩
    have s17 := s6.trans s7
    refine ⟨q4, p7, [vL (("keeps" : Str) :: ks)], _, rfl, rfl, s7 _ _ upd_same, e7, by rw [List.length_map]; exact Nat.le_trans (Nat.add_le_add_left lw2 1) (Nat.le_trans (by decide : 1 + 300 ≤ 1000) (Nat.le_of_lt line)), fun q5 hq5 => ?_⟩
    have s18 := s17.trans (same_upd (o := .lst ([vL (("keeps" : Str) :: ks)] ++ (wssN 3 ds).map vL)) hq5)
    have eq5 : ∀ {G : Hp}, upd G q5 (.lst ([vL (("keeps" : Str) :: ks)] ++ (wssN 3 ds).map vL)) q5 = some (.lst (((wssT ds ks).map lineW).map V.str)) := fun {G} => by
      rw [upd_same, ← map_vL]
      rfl
    have lT : (wssT ds ks).length ≤ 1000 := by
      show (wssN 3 ds).length + 1 ≤ 1000
      omega
    refine ⟨_, q5, (wssT ds ks).map lineW, rfl, rfl, .inl (SqL.of eq5), lines_sum (wssT_ok ok.rows ok.kept) lT, ?_⟩
    refine ⟨_, rfl, ds, ks, rfl, ok, fun H8 a2 dx2 kb2 c2 s8 e8 d8 k8 => ?_⟩
    have s08 := s18.trans s8
    have s28 : Same H2 H8 := fun b u e => s8 b u (by
      rw [upd_ne]
      · refine s7 b u ?_
        have e3 := same_upd (o := .lst [.str "keeps"]) hq1 b u e
        have e4 := same_upd (o := .lst (ks.map V.str)) hq2 b u e3
        have e5 := same_upd (o := .lst ([.str "keeps"] ++ ks.map V.str)) hq3 b u e4
        exact same_upd (o := .lst [vL (("keeps" : Str) :: ks)]) hq4 b u e5
      · intro z
        have e3 := same_upd (o := .lst [.str "keeps"]) hq1 b u e
        have e4 := same_upd (o := .lst (ks.map V.str)) hq2 b u e3
        have e5 := same_upd (o := .lst ([.str "keeps"] ++ ks.map V.str)) hq3 b u e4
        have e6 := s7 b u (same_upd (o := .lst [vL (("keeps" : Str) :: ks)]) hq4 b u e5)
        rw [z, hq5] at e6
        cases e6)
    have ea8 := s28 _ _ e2
    have ty : ∀ {G : Hp}, G a = some (insS C dx v (.ref kb)) → TyX K G (.ref a) (.ref C) := fun e => .base (.ins e RS.T.cl RS.ha RS.hn RS.htk RS.hm)
    refine ⟨_, rfl, a, dx, kb, v, ds, ks, rfl, ea8, mv s08, SqT.of (s08 _ _ ek), ok.rows, ok.few, ok.kept, fun H9 s9 => ?_⟩
    have s09 := s08.trans s9
    refine ⟨_, rfl, rfl, _, rfl, ?_⟩
    show if (!decide (V.str (linesT (wssT ds ks)) = V.str (linesT (wssT ds ks)))) = true then _ else _
    rw [decide_eq_true rfl]
    have d9 := d8.mv (fun _ z => z) (fun b o _ z => s9 b o z)
    have k9 := s9 _ _ k8
    have stA : StI K C H9 a ds ks := ⟨dx, kb, v, s9 _ _ ea8, mv s09, SqT.of (s09 _ _ ek), ok.rows, ok.few, ok.kept⟩
    have stB : StI K C H9 a2 ds ks := ⟨dx2, kb2, c2, s9 _ _ e8, d9, SqT.of k9, ok.rows, ok.few, ok.kept⟩
    refine iteF ⟨_, rfl, _, rfl, a2, dx2, _, .ref C, rfl, s9 _ _ e8, ty (s9 _ _ ea8), ST.notF, a2, ds, ks, .ref a, rfl, stB, .inl ⟨a, ds, ks, rfl, stA, fun H10 s10 => ⟨_, rfl, _, rfl, ?_⟩⟩⟩
    rw [eqv_pure _ (rows_pure ok.rows), eqv_pure _ (keeps_sh ok.kept).1]
    have s010 := s09.trans s10
    have d10 := d9.mv (fun _ z => z) (fun b o _ z => s10 b o z)
    refine iteF ⟨_, rfl, a2, dx2, kb2, c2, ds, ks, rfl, s10 _ _ (s9 _ _ e8), d10, SqT.of (s10 _ _ k9), ok.rows, ok.few, ok.kept, fun H11 s11 => ?_⟩
    refine ⟨_, rfl, rfl, _, rfl, ?_⟩
    show if (!decide (V.str (linesT (wssT ds ks)) = V.str (linesT (wssT ds ks)))) = true then _ else _
    rw [decide_eq_true rfl]
    have e11 := s11 _ _ (s10 _ _ (s9 _ _ e8))
    refine iteF ⟨_, rfl, a2, dx2, _, rfl, e11, a2, dx2, _, _, rfl, e11, rfl, _, rfl, a2, dx2, _, rfl, e11, a2, dx2, _, _, rfl, e11, rfl, (by show 2 ≤ sizeLine; decide), fun q8 hq8 => ?_⟩
    have t8 := same_upd (o := .lst [c2, .ref kb2]) hq8
    refine ⟨_, rfl, _, rfl, (by show 2 ≤ sizeLine; decide), fun q9 hq9 => ?_⟩
    have t9 := same_upd (o := .lst [v, .ref kb]) hq9
    have t89 := t8.trans t9
    have d12 := (d10.mv (fun _ z => z) (fun b o _ z => s11 b o z)).mv (fun _ z => z) (fun b o _ z => t89 b o z)
    have sF := (s010.trans s11).trans t89
    obtain ⟨dpA, shA⟩ := code_dp (K := K) ok.rows d12
    obtain ⟨dpB, _⟩ := code_dp (K := K) ok.rows (mv sF)
    have shk := (keeps_sh ok.kept).2.2.2
    have dks : (strT ks).depth ≤ 60 := by
      unfold strT
      rw [dep_tup, dep_strs]
      decide
    have dcs : (PyData.tuple ds).depth ≤ 60 := by
      rw [dep_tup]
      have := (code_pure ok.rows).2
      omega
    have shL := (sh_dd shA shk dcs dks).1
    have kA : Dp K (upd (upd H11 q8 (.lst [c2, .ref kb2])) q9 (.lst [v, .ref kb])) (.ref kb2) (strT ks) := .tup (SqT.of (t89 _ _ (s11 _ _ (s10 _ _ k9)))) (dp_strs ks)
    have kB : Dp K (upd (upd H11 q8 (.lst [c2, .ref kb2])) q9 (.lst [v, .ref kb])) (.ref kb) (strT ks) := .tup (SqT.of (sF _ _ ek)) (dp_strs ks)
    refine ⟨.list [.tuple ds, strT ks], .list [.tuple ds, strT ks], .lst (SqL.of (t9 _ _ upd_same)) (.cons dpA (.cons kA .nil)), .lst (SqL.of upd_same) (.cons dpB (.cons kB .nil)), shL, shL, ?_⟩
    rw [eqv_dd (rows_pure ok.rows) (keeps_sh ok.kept).1]
    exact q _ sF
end
end OM

namespace OM
open PySem PySem.Spec PyProof.Rows L2
abbrev sRt60 : Stmt := top 75
abbrev nRt60 : List Str := ["_law_dice_here", "_law_one", "_law_other", "_law_code_here", "_law_keeps", "_law_near_here", "_law_more", "_law_same"]
theorem ris_step {x y : Str} {r : List Str} (hx : x ∈ regs4) (hy : y ∈ regs4) (ne : x ≠ y) (h : sortedS (x :: y :: r) = true) : ltS x y = true ∧ sortedS (y :: r) = true := by
  have h1 : (∀ x ∈ regs4, ∀ y ∈ regs4, x ≠ y → sortedS [x, y] = true → ltS x y = true) := by decide +kernel
  have h2 : sortedS (x :: y :: r) = (sortedS [x, y] && sortedS (y :: r)) := by
    have e1 : ∀ (a b : Str) (r : List Str), risingS a (b :: r) = (!ltCps b.cps.toList a.cps.toList && risingS b r) := fun a b r => by
      conv => lhs; unfold risingS
    show risingS x (y :: r) = (risingS x [y] && risingS y r)
    rw [e1 x y r, e1 x y []]
    show _ = (_ && true && _)
    rw [Bool.and_true]
  rw [h2, Bool.and_eq_true] at h
  exact ⟨h1 x hx y hy ne h.1, h.2⟩
theorem kept_lt : ∀ {ks : List Str}, sortedS ks = true → ks.Nodup → (∀ k ∈ ks, k ∈ regs4) → (List.zipWith ltS ks ks.tail).all id = true
  | [], _, _, _ => rfl
  | [x], _, _, _ => rfl
  | x :: y :: r, h, n, m => by
    obtain ⟨n1, n2⟩ := List.nodup_cons.mp n
    obtain ⟨a, b⟩ := ris_step (m x (by simp)) (m y (by simp)) (fun z => n1 (by rw [z]; simp)) h
    have ih := kept_lt b n2 (fun k hk => m k (List.mem_cons_of_mem _ hk))
    show (ltS x y :: List.zipWith ltS (y :: r) (y :: r).tail).all id = true
    rw [List.all_cons, ih, Bool.and_true]
    exact a
theorem kept_ok {ks : List Str} (h : sortedS ks = true) (n : ks.Nodup) (m : ∀ k ∈ ks, k ∈ regs4) : keptD (.tuple (ks.map PyData.str)) = true := by
  have hl : ks.length ≤ 4 := List.Nodup.length_le_of_subset (l₂ := regs4) n m
  have hm : (ks.map PyData.str).map strD = ks := by
    rw [List.map_map]
    have : (strD ∘ PyData.str) = id := rfl
    rw [this, List.map_id]
  show ((ks.map PyData.str).all isNameD && (List.zipWith ltS ((ks.map PyData.str).map strD) ((ks.map PyData.str).map strD).tail).all id && decide ((ks.map PyData.str).length ≤ 4)) = true
  rw [hm, kept_lt h n m, List.length_map, decide_eq_true hl, Bool.and_true, Bool.and_true, List.all_map]
  exact List.all_eq_true.mpr fun k hk => (by decide +kernel : ∀ k ∈ regs4, isNameD (.str k) = true) k (m k hk)
theorem kept_drop {ks : List Str} (h : keptD (strT ks) = true) : keptD (strT (ks.drop 1)) = true := by
  cases ks with
  | nil => exact h
  | cons x r =>
    have hl := kept_len h
    have h : (setD (strT (x :: r)) && decide (((x :: r).map PyData.str).length ≤ 4)) = true := h
    have h1 : setD (strT (x :: r)) = true := (Bool.and_eq_true_iff.mp h).1
    have hm : ∀ l : List Str, (l.map PyData.str).map strD = l := fun l => by
      rw [List.map_map]
      have : (strD ∘ PyData.str) = id := rfl
      rw [this, List.map_id]
    have h1 : (((x :: r).map PyData.str).all isNameD && (List.zipWith ltS (((x :: r).map PyData.str).map strD) (((x :: r).map PyData.str).map strD).tail).all id) = true := h1
    rw [hm, Bool.and_eq_true] at h1
    obtain ⟨a, b⟩ := h1
    rw [List.map_cons, List.all_cons, Bool.and_eq_true] at a
    have b2 : (List.zipWith ltS r r.tail).all id = true := by
      cases r with
      | nil => rfl
      | cons y t =>
        have b : (List.zipWith ltS (x :: y :: t) (y :: t)).all id = true := b
        rw [List.zipWith_cons_cons, List.all_cons, Bool.and_eq_true] at b
        exact b.2
    show ((r.map PyData.str).all isNameD && (List.zipWith ltS ((r.map PyData.str).map strD) ((r.map PyData.str).map strD).tail).all id && decide ((r.map PyData.str).length ≤ 4)) = true
    rw [hm, a.2, b2, List.length_map, decide_eq_true (by simp at hl; omega)]
    rfl
theorem text_eq {ds es : List PyData} (hd : ds.all (rowD (cdOf 3)) = true) (he : es.all (rowD (cdOf 3)) = true) : (V.str (linesT (wssN 3 ds)) = V.str (linesT (wssN 3 es))) ↔ PyData.tuple ds = .tuple es :=
  ⟨fun h => congrArg _ (lines_inj hd he (text_inj (code_ws hd) (code_ws he) (V.str.inj h))), fun h => by
    injection h with h
    rw [h]⟩
theorem str_inj : ∀ {a b : List Str}, a.map PyData.str = b.map PyData.str → a = b
  | [], [], _ => rfl
  | [], _ :: _, h => by cases h
  | _ :: _, [], h => by cases h
  | x :: a, y :: b, h => by
    rw [List.map_cons, List.map_cons] at h
    obtain ⟨h1, h2⟩ := List.cons.inj h
    rw [str_inj h2]
    injection h1 with h1
    rw [h1]
theorem textT_eq {ds es : List PyData} {ks ls : List Str} (hd : StOk ds ks) (he : StOk es ls) : (V.str (linesT (wssT ds ks)) = V.str (linesT (wssT es ls))) ↔ PyData.tuple [.tuple ds, strT ks] = .tuple [.tuple es, strT ls] := by
  constructor
  · intro h
    have k := text_inj (wssT_ok hd.rows hd.kept) (wssT_ok he.rows he.kept) (V.str.inj h)
    obtain ⟨k1, k2⟩ := List.cons.inj k
    obtain ⟨_, k3⟩ := List.cons.inj k1
    rw [lines_inj hd.rows he.rows k2, k3]
  · intro h
    injection h with h
    obtain ⟨h1, h2⟩ := List.cons.inj h
    obtain ⟨h3, _⟩ := List.cons.inj h2
    injection h1 with h1
    unfold strT at h3
    injection h3 with h3
    rw [h1, str_inj h3]
theorem NearOk.stk {e : List PyData} {ks : List Str} (h : NearOk True e) (hk : keptD (strT ks) = true) : StOk e ks := ⟨h.rows, Nat.le_trans h.few (by decide), h.bnd trivial, h.ns trivial, hk⟩
theorem bl_ne {p q : Prop} {ip : Decidable p} {iq : Decidable q} (h : p ↔ q) : (!decide (V.bl (decide p) = V.bl (decide q))) = false := by
  have : decide p = decide q := by
    by_cases hp : p
    · rw [decide_eq_true hp, decide_eq_true (h.mp hp)]
    · rw [decide_eq_false hp, decide_eq_false (fun z => hp (h.mpr z))]
  rw [this, decide_eq_true rfl]
  rfl
theorem bl_eq {p q : Prop} {ip : Decidable p} {iq : Decidable q} (h : p ↔ q) : decide (V.bl (decide p) = V.bl (decide q)) = true := by
  have := bl_ne (ip := ip) (iq := iq) h
  cases z : decide (V.bl (decide p) = V.bl (decide q)) with
  | true => rfl
  | false =>
    rw [z] at this
    cases this
theorem cutM {A : Prop} {H : Hp} {R : Addr → Hp → Prop} (f : (∀ c G ls, Same H G → G c = some (.tup (ls.map V.str)) → keptD (strT ls) = true → R c G) → A) (b : ∀ c G ls, Same H G → G c = some (.tup (ls.map V.str)) → keptD (strT ls) = true → R c G) : A := f b
theorem mk_st {C cS : Addr} {H : Hp} {Q : VK} {E : XK} {x : V} {kb a dx : Addr} {ds : List PyData} {ks : List Str} (ha : H a = none) (hdx : H dx = none) (d : Dt (fun _ => True) H x (.tuple ds)) (ek : H kb = some (.tup (ks.map V.str))) (ok : StOk ds ks)
    (q : ∀ H', Same H H' → H' a = some (insS C dx x (.ref kb)) → Q .non H') : spSI C cS [.ref a, x, .ref kb] (upd (upd H dx (.own a)) a (.ins C dx [])) Q E := by
  have s1 : Same H (upd (upd H dx (.own a)) a (.ins C dx [])) := fun b u e => by
    rw [upd_ne (ne_of_none e ha), upd_ne (ne_of_none e hdx)]
    exact e
  have lk := kept_len ok.kept
  exact ⟨fun _ => True, a, dx, x, .ref kb, .tuple ds, strT ks, rfl, upd_same, d.mv (fun _ z => z) (fun b o _ z => s1 b o z), dt_strT (s1 _ _ ek) (by omega), by rw [nsD_tup]; exact ok.ns, by rw [sml_tup]; exact rows_small ok.rows, (keeps_sh ok.kept).2.1, fun _ => Nat.le_trans ok.few (by decide),
    fun _ H2 b2' e2 => q H2 (fun b u e => b2' b u (ne_of_none e ha) (s1 b u e)) e2, fun z => by rw [ok.okD] at z; cases z⟩
def CallN (P : Program) (w : World) (K : PySem.W.Frag) (mg : Str → Option Value) (base : Heap) (name : Str) (k : Nat) (ps : List Str) (sp : Sp) : Prop := ∃ (g : Addr) (d : FuncData), mg name = some (.ref g) ∧ PySem.W.keepIn K (.ref g) = true ∧ Binds K d ps [] ∧ FnOk P w K mg base CX0 k g d ps sp
structure Law60 (P : Program) (w : World) (K : PySem.W.Frag) (mg : Str → Option Value) (base : Heap) (C cS : Addr) : Prop where
  ST : StF P w K mg base C cS
  roll : CallN P w K mg base "_law_roll" 1 ["_law_dice_here", "_law_total"] spRoll
  thread : CallN P w K mg base "_law_thread" 9 ["_law_dice_here", "_law_most", "_law_letters", "_law_tests"] spThread
  near : CallN P w K mg base "_law_near" 9 ["_law_dice_here", "_law_code_here", "_law_tests"] spNear
  stretch : CallN P w K mg base "_law_stretch" 9 ["_law_dice_here", "_law_most", "_law_letters", "_law_tests"] spStretch
  cr : CallN P w K mg base "_law_code_right" 17 ["_law_code_here"] spCR
  sr : CallN P w K mg base "_law_stretch_right" 18 ["_law_code_here", "_law_keeps"] spSR
  wc : CallN P w K mg base "write_code" 16 ["code"] spWrC
  rc : CallN P w K mg base "read_code" 16 ["text"] spRdC
  ws : CallN P w K mg base "write_stretch" 5 ["stretch"] (spWrS K C)
  rs : CallN P w K mg base "read_stretch" 17 ["text"] (spRdS C)
def spRt60 : Sp := fun vs H Q _ => ∃ d : Addr, vs = [.ref d] ∧ Dice H d ∧ ∀ H', But d H H' → Dice H' d → Q (.bl true) H'
section
variable {P : Program} {w : World} {K : PySem.W.Frag} {mg : Str → Option Value} {base : Heap} {f C cS : Addr} {fd : FuncData}
theorem scRt60 : FnScope nRt60 ["_law_dice_here"] (defScope sRt60) := ⟨rfl, rfl, rfl, by decide +kernel, rfl, by decide +kernel, by decide +kernel⟩
theorem ok_rt60 (F : Fun K "_law_right" "_law_right" sRt60 f fd) (L : Law60 P w K mg base C cS) : FnOk P w K mg base CX0 19 f fd ["_law_dice_here"] spRt60 := by
  obtain ⟨fS, aS, dS, RS, bS, GS, GS0⟩ := L.ST.S
  obtain ⟨q1, e1, g1, k1, b1, G1⟩ := L.roll
  obtain ⟨q2, e2, g2, k2, b2, G2⟩ := L.thread
  obtain ⟨q3, e3, g3, k3, b3, G3⟩ := L.near
  obtain ⟨q4, e4, g4, k4, b4, G4⟩ := L.stretch
  obtain ⟨q5, e5, g5, k5, b5, G5⟩ := L.cr
  obtain ⟨q6, e6, g6, k6, b6, G6⟩ := L.sr
  obtain ⟨q7, e7, g7, k7, b7, G7⟩ := L.wc
  obtain ⟨q8, e8, g8, k8, b8, G8⟩ := L.ws
  refine F.ok scRt60 (fun vs H Q E h => ?_) (fun cdv A outer s H vs Q E hr h => ?_)
  · obtain ⟨d, rfl, _⟩ := h
    rfl
  · obtain ⟨d, rfl, hd, q⟩ := h
    have hu : (A.deeper (envOfC "_law_right" (defScope sRt60) s.heap.objs.size f cdv)).units + 64 < cLine := by
      have := hr.un
      omega
    refine ⟨_, pss_cons (ps_set (i := 1) scRt60.nd rfl (Or.inl rfl) (pe_call G2 (hr.mono (by decide)) (by rfl) g2 k2 b2 .nil pass0 (pa_cons (pv 0) (pa_cons pe_int (pa_cons pe_int (pa_cons pe_int pa_nil))))))
      (pss_cons (ps_set (i := 2) scRt60.nd rfl (Or.inl rfl) (pe_call G3 (hr.mono (by decide)) (by rfl) g3 k3 b3 .nil pass0 (pa_cons (pv 0) (pa_cons (pv 1) (pa_cons pe_int pa_nil)))))
      (pss_cons (ps_if (PW.pt (pw_or (pt_not (pt_val (pe_call G5 (hr.mono (by decide)) (by rfl) g5 k5 b5 .nil pass0 (pa_cons (pv 1) pa_nil)))) (pw_or1 (pt_not (pt_val (pe_call G5 (hr.mono (by decide)) (by rfl) g5 k5 b5 .nil pass0 (pa_cons (pv 2) pa_nil))))))) (pss_one (ps_ret pe_bl)) pss_nil)
      (pss_cons (ps_if (pt_cmpR op_ne (pe_cmpR op_eq (pe_call G7 (hr.mono (by decide)) (by rfl) g7 k7 b7 .nil pass0 (pa_cons (pv 1) pa_nil)) (pe_call G7 (hr.mono (by decide)) (by rfl) g7 k7 b7 .nil pass0 (pa_cons (pv 2) pa_nil)) (nomark _)) (pe_cmpR (op_eqD hu) (pv 1) (pv 2) (nomark _)) (nomark _)) (pss_one (ps_ret pe_bl)) pss_nil)
      (pss_cons (ps_asg (pe_call G4 (hr.mono (by decide)) (by rfl) g4 k4 b4 .nil pass0 (pa_cons (pv 0) (pa_cons pe_int (pa_cons pe_int (pa_cons pe_int pa_nil))))) (pg_tup rfl (pgs_cons (pg_name (i := 3) scRt60.nd rfl (Or.inl rfl)) (pgs_cons (pg_name (i := 4) scRt60.nd rfl (Or.inl rfl)) pgs_nil))))
      (pss_cons (ps_par (i := 5) (j := 6) rfl scRt60.nd rfl rfl (by decide) (by rfl) (by rfl) (pa_cons (pe_call G3 (hr.mono (by decide)) (by rfl) g3 k3 b3 .nil pass0 (pa_cons (pv 0) (pa_cons (pv 3) (pa_cons pe_int pa_nil))))
          (pa_cons (pe_ifExp (pt_cmpR op_eq (pe_call G1 (hr.mono (by decide)) (by rfl) g1 k1 b1 .nil pass0 (pa_cons (pv 0) (pa_cons pe_int pa_nil))) pe_int (nomark _)) (pe_slice sl_tupA (pv 4) (po_some pe_int) po_none) (pv 4)) pa_nil)) (by rfl))
      (pss_cons (ps_if (PW.pt (pw_or (pt_not (pt_val (pe_call G6 hr (by rfl) g6 k6 b6 .nil pass0 (pa_cons (pv 3) (pa_cons (pv 4) pa_nil))))) (pw_or1 (pt_not (pt_val (pe_call G6 hr (by rfl) g6 k6 b6 .nil pass0 (pa_cons (pv 5) (pa_cons (pv 6) pa_nil)))))))) (pss_one (ps_ret pe_bl)) pss_nil)
      (pss_cons (ps_set (i := 7) scRt60.nd rfl (Or.inl rfl) (pe_cmpR op_eq (pe_call G8 (hr.mono (by decide)) (by rfl) g8 k8 b8 .nil pass0 (pa_cons (pe_make RS.MS GS (hr.mono (by decide)) (by rfl) RS.gSt bS .nil (passes_call L2.takes0 (fun _ _ _ _ h => h)) (pa_cons (pv 3) (pa_cons (pv 4) pa_nil))) pa_nil))
          (pe_call G8 (hr.mono (by decide)) (by rfl) g8 k8 b8 .nil pass0 (pa_cons (pe_make RS.MS GS (hr.mono (by decide)) (by rfl) RS.gSt bS .nil (passes_call L2.takes0 (fun _ _ _ _ h => h)) (pa_cons (pv 5) (pa_cons (pv 6) pa_nil))) pa_nil)) (nomark _)))
      (pss_one (ps_ret (pe_cmpR op_eq (pv 7) (pe_cmpR (op_eqD hu) (pe_tup (pa_cons (pv 3) (pa_cons (pv 4) pa_nil))) (pe_tup (pa_cons (pv 5) (pa_cons (pv 6) pa_nil))) (nomark _)) (nomark _))))))))))), ?_⟩
    have line : (1000 : Nat) < sizeLine := by decide
    refine ⟨_, rfl, d, 5, 4, 2, rfl, by decide, by decide, hd, fun H1 v ds bt1 hd1 dr hl dv => ?_⟩
    refine ⟨_, rfl, _, rfl, False, d, v, ds, 4, 3, 2, 3, rfl, by decide, hd1, dv, dr, fun z => z.elim, by omega, by decide, by decide, by decide, fun H2 v2 es bt2 hd2 nr dv2 => ?_⟩
    have nd0 : NearOk False ds := dr.near (fun z => z.elim) (by omega) (by decide) (by decide) (by decide)
    have okd := nd0.thr
    have oke := nr.thr
    have pd := rows_pure okd.rows
    have pe := rows_pure oke.rows
    have dvd2 := Dt.butD hd1 bt2 pd dv
    refine ⟨_, rfl, v, ds, rfl, dvd2, okd, fun H3 s3 => ⟨_, rfl, iteF ?_⟩⟩
    refine ⟨_, rfl, v2, es, rfl, dv2.mv (fun _ z => z) (fun b o _ z => s3 b o z), oke, fun H4 s4 => ⟨_, rfl, iteF ?_⟩⟩
    have s24 := s3.trans s4
    have mv1 : ∀ {G : Hp}, Same H2 G → Dt (fun _ => True) G v (.tuple ds) := fun s => dvd2.mv (fun _ z => z) fun b o _ z => s b o z
    have mv2 : ∀ {G : Hp}, Same H2 G → Dt (fun _ => True) G v2 (.tuple es) := fun s => dv2.mv (fun _ z => z) fun b o _ z => s b o z
    refine ⟨_, rfl, v, ds, rfl, mv1 s24, okd, fun H5 s5 => ⟨_, rfl, v2, es, rfl, mv2 (s24.trans s5), oke, fun H6 s6 => ⟨rfl, ?_⟩⟩⟩
    have s26 := (s24.trans s5).trans s6
    obtain ⟨dpA, shA⟩ := code_dp (K := K) okd.rows (mv1 s26)
    obtain ⟨dpB, shB⟩ := code_dp (K := K) oke.rows (mv2 s26)
    refine ⟨_, rfl, _, rfl, .tuple ds, .tuple es, dpA, dpB, shA, shB, rfl, _, rfl, ?_⟩
    rw [eqv_dec pd pe]
    show if (!decide (V.bl (decide (V.str (linesT (wssN 3 ds)) = V.str (linesT (wssN 3 es)))) = V.bl _)) = true then _ else _
    rw [bl_ne (text_eq okd.rows oke.rows)]
    have hd6 := hd2.mv s26
    refine iteF ⟨_, rfl, d, 5, 4, 2, rfl, by decide, hd6, fun H7 v7 cs l1 sa t1 z1 ks bt7 hd7 co hcl hl1 hs1 ht1 so nodup sub dv7 => ?_⟩
    obtain ⟨a7, x7, rfl, e7a, _, hx7⟩ := (dv7.mv (fun _ _ => trivial) fun b o _ z => z : Dt (fun _ => True) H7 v7 _).tup_of
    cases hx7 with
    | @cons xc _ _ _ dxc hx7 =>
      cases hx7 with
      | @cons xk _ _ _ dxk hx7 =>
        cases hx7
        obtain ⟨kb, xks, rfl, ekb, _, hks⟩ := dxk.tup_of
        have kp : keptD (strT ks) = true := kept_ok so nodup sub
        have nm : (ks.map PyData.str).all isNameD = true := by
          have h : (setD (strT ks) && decide ((ks.map PyData.str).length ≤ 4)) = true := kp
          exact (Bool.and_eq_true_iff.mp (Bool.and_eq_true_iff.mp h).1).1
        have eks : xks = ks.map V.str := by
          rw [dt_names hks nm, List.map_map, List.map_map]
          rfl
        subst eks
        have dr7 := co.dr
        have nc : NearOk True cs := dr7.tr.near (fun _ => dr7.cel) (by omega) (by omega) (by omega) (by omega)
        have okc : StOk cs ks := nc.stk kp
        have pc := rows_pure okc.rows
        refine ⟨a7, [xc, .ref kb], rfl, SqT.of e7a, rfl, _, _, rfl, _, _, rfl, rfl, ?_⟩
        refine ⟨_, rfl, _, rfl, True, d, xc, cs, l1, sa, t1, 2, rfl, by decide, hd7, dxc, dr7.tr, fun _ => dr7.cel, by omega, by omega, by omega, by omega, fun H8 v8 ns bt8 hd8 nr8 dv8 => ?_⟩
        refine ⟨_, rfl, d, 3, rfl, hd8, by decide, by decide, fun H9 j j0 j1 bt9 hd9 => ⟨rfl, _, rfl, ?_⟩⟩
        have nkd : kb ≠ d := fun z => by
          obtain ⟨_, _, _, e⟩ := hd7
          rw [z, e] at ekb
          cases ekb
        have ek9 := bt9 _ _ nkd (bt8 _ _ nkd ekb)
        have bt79 := bt8.tr bt9
        have dxc9 := Dt.butD hd7 bt79 pc dxc
        have oks : NearOk True ns := nr8
        have dv9 := Dt.butD hd8 bt9 (rows_pure oks.rows) dv8
        apply cutM (H := H9)
        · intro c
          refine ite2 (fun _ => ⟨_, rfl, 1, rfl, ?_⟩) (fun _ => ?_)
          · refine sl_two (K := K) ek9 ?_
            intro p10 H10 s10 _ e10
            have ed : cutV (ks.map V.str) (some 1) none = (ks.drop 1).map V.str := by
              rw [show (some (1 : Int)) = some ((1 : Nat) : Int) from rfl, cut_dropG, List.map_drop]
            rw [ed] at e10
            exact ⟨_, _, rfl, c p10 H10 (ks.drop 1) s10 e10 (kept_drop kp)⟩
          · exact ⟨_, rfl, _, _, rfl, c kb H9 ks (Same.refl H9) ek9 kp⟩
        intro mr H10 ls s10 e10 kl
        have okn : StOk ns ls := oks.stk kl
        have mvc : ∀ {G : Hp}, Same H10 G → Dt (fun _ => True) G xc (.tuple cs) := fun s => (dxc9.mv (fun _ z => z) fun b o _ z => s b o (s10 b o z))
        have mvn : ∀ {G : Hp}, Same H10 G → Dt (fun _ => True) G v8 (.tuple ns) := fun s => (dv9.mv (fun _ z => z) fun b o _ z => s b o (s10 b o z))
        have ekc := s10 _ _ ek9
        refine ⟨_, rfl, _, rfl, xc, kb, cs, ks, rfl, mvc (Same.refl _), ekc, okc, fun H11 s11 => ⟨_, rfl, iteF ?_⟩⟩
        refine ⟨_, rfl, _, rfl, v8, mr, ns, ls, rfl, mvn s11, s11 _ _ e10, okn, fun H12 s12 => ⟨_, rfl, iteF ?_⟩⟩
        have s1012 := s11.trans s12
        refine ⟨_, rfl, _, rfl, fun a dx ha hdx ne => mk_st ha hdx (mvc s1012) (s1012 _ _ ekc) okc fun H13 s13 e13 => ⟨rfl, ?_⟩⟩
        have s1013 := s1012.trans s13
        refine ⟨a, dx, kb, xc, cs, ks, rfl, e13, mvc s1013, SqT.of (s1013 _ _ ekc), okc.rows, okc.few, okc.kept, fun H14 s14 => ?_⟩
        have s1014 := s1013.trans s14
        refine ⟨_, rfl, _, rfl, fun a2 dx2 ha2 hdx2 ne2 => mk_st ha2 hdx2 (mvn s1014) (s1014 _ _ e10) okn fun H15 s15 e15 => ⟨rfl, ?_⟩⟩
        have s1015 := s1014.trans s15
        refine ⟨a2, dx2, mr, v8, ns, ls, rfl, e15, mvn s1015, SqT.of (s1015 _ _ e10), okn.rows, okn.few, okn.kept, fun H16 s16 => ⟨rfl, ?_⟩⟩
        have s1016 := s1015.trans s16
        refine ⟨_, rfl, _, rfl, _, rfl, (by show 2 ≤ sizeLine; decide), fun p1 hp1 => ?_⟩
        have t1' := same_upd (o := .tup [xc, .ref kb]) hp1
        refine ⟨_, rfl, _, rfl, (by show 2 ≤ sizeLine; decide), fun p2 hp2 => ?_⟩
        have t2' := same_upd (o := .tup [v8, .ref mr]) hp2
        have sF := (s1016.trans t1').trans t2'
        obtain ⟨dp1, sh1⟩ := code_dp (K := K) okc.rows (mvc sF)
        obtain ⟨dp2, sh2⟩ := code_dp (K := K) okn.rows (mvn sF)
        have dep : ∀ {l : List PyData}, l.all (rowD (cdOf 3)) = true → (PyData.tuple l).depth ≤ 60 := fun h => by
          rw [dep_tup]
          have := (code_pure h).2
          omega
        have dks : ∀ l : List Str, (strT l).depth ≤ 60 := fun l => by
          unfold strT
          rw [dep_tup, dep_strs]
          decide
        have shA := (sh_dd sh1 (keeps_sh okc.kept).2.2.2 (dep okc.rows) (dks ks)).2
        have shB := (sh_dd sh2 (keeps_sh okn.kept).2.2.2 (dep okn.rows) (dks ls)).2
        refine ⟨.tuple [.tuple cs, strT ks], .tuple [.tuple ns, strT ls], .tup (SqT.of (t2' _ _ upd_same)) (.cons dp1 (.cons (.tup (SqT.of (sF _ _ ekc)) (dp_strs ks)) .nil)), .tup (SqT.of upd_same) (.cons dp2 (.cons (.tup (SqT.of (sF _ _ e10)) (dp_strs ls)) .nil)), shA, shB, rfl, ?_⟩
        have pu : ∀ {a b : PyData}, pureD a = true → pureD b = true → pureD (.tuple [a, b]) = true := fun h1 h2 => pure_tup (by rw [pureAll_cons', pureAll_one, h1, h2]; rfl)
        rw [eqv_dec (pu pc (keeps_sh okc.kept).1) (pu (rows_pure okn.rows) (keeps_sh okn.kept).1)]
        have fin := bl_eq (ip := inferInstance) (iq := Classical.propDecidable _) (textT_eq okc okn)
        have z := q _ ((((bt1.tr bt2).tr (s_bt s26)).tr bt7).tr ((bt79.tr (s_bt s10)).tr (s_bt sF))) (((hd9.mv s10).mv sF))
        rw [← fin] at z
        exact z
end
end OM

namespace OM
open PySem PySem.Spec PyProof.Rows L2
abbrev sLaw60 : Stmt := top 76
abbrev nLaw60 : List Str := ["_law_script", "_law_at", "_law_dice_here", "_law_turn", "_law_odd", "_law_code_here", "_law_due", "_law_told"]
def odd3D : List PyData := [.tuple [.str "read", .str "read", .str "write"], .tuple [.str "set", .str "set", .str "copy", .tuple []], .tuple [.str "set", .str "a", .str "f", .tuple [.str "a", .str "b"]]]
def odd1D : List PyData := [.tuple [.str "copy", .str "copy", .str "keeps"]]
def codeHD : List PyData := [.tuple [.str "if", .str "p", .str "a", .tuple [], .tuple [.tuple [.str "if", .str "thread", .str "cell", .tuple (odd3D ++ odd1D), .tuple []]]], .tuple [.str "get", .str "answer"]]
def due1 : Str := "if p a\nelse\nif thread cell\nread read write\nset set copy\nset a f a b\n"
def due2 : Str := "copy copy keeps\nelse\nend\nend\nget answer"
theorem due_eq : due1 ++ due2 = linesT (wssN 3 codeHD) := by decide +kernel
theorem codeH_thr : ThrOk codeHD := ⟨by decide +kernel, by decide +kernel, by decide +kernel, by decide +kernel⟩
def ksH : List Str := ["a", "keeps"]
theorem codeH_st : StOk codeHD ksH := ⟨by decide +kernel, by decide +kernel, by decide +kernel, by decide +kernel, by decide +kernel⟩
theorem nil_thr : ThrOk [] := ⟨by decide +kernel, by decide +kernel, by decide +kernel, by decide +kernel⟩
theorem nil_st : StOk [] [] := ⟨by decide +kernel, by decide +kernel, by decide +kernel, by decide +kernel, by decide +kernel⟩
theorem text0 : linesT (wssN 3 []) = ("" : Str) := by decide +kernel
theorem textK : linesT (wssT [] []) = ("keeps" : Str) := by decide +kernel
def toldH : PyData := .list [.str "", .tuple [], .str "keeps", .tuple []]
theorem toldH_ok : SeqAt.shaped toldH = true ∧ PyData.eqv toldH toldH = true := by decide +kernel
theorem seq_but {K : PySem.W.Frag} {H H1 H2 : Hp} {a p : Addr} {xs : List V} (h : SqL K H a xs) (n : H p = none) (s : Same H H1) (b : But p H1 H2) : SqL K H2 a xs := by
  rcases h with (h | ⟨o, h⟩) | h
  · exact .inl (.inl (b _ _ (ne_of_none h n) (s _ _ h)))
  · exact .inl (.inr ⟨o, b _ _ (ne_of_none h n) (s _ _ h)⟩)
  · exact .inr h
theorem made0_te {K : PySem.W.Frag} {C cS aS : Addr} {H : Hp} {v : V} {ds : List PyData} {Z : Addr → Hp → Prop} {E : XK} (em : Emp K aS) (hc : Dt (fun _ => True) H v (.tuple ds)) (ok : okD (.tuple ds) (.tuple []) = true) (ns : nsD (.tuple ds) = true) (sm : smlD (.tuple ds) = true) (few : (flatN 3 ds).length ≤ 400)
    (q : ∀ H' x dx, Same H H' → H' x = some (insS C dx v (.ref aS)) → Z x H') : ∀ x dx, H x = none → H dx = none → dx ≠ x → spSI0 K C cS (.ref x :: ([v] ++ [V.ref aS])) (upd (upd H dx (.own x)) x (.ins C dx [])) (fun w H2 => w = .non ∧ Z x H2) E := fun x dx hx hdx ne => by
  have ndx : upd H dx (.own x) x = none := by
    rw [upd_ne (fun z => ne z.symm)]
    exact hx
  have s2 := (same_upd (o := .own x) hdx).trans (same_upd (o := .ins C dx []) ndx)
  refine ⟨fun _ => True, x, dx, aS, v, .tuple ds, rfl, upd_same, hc.mv (fun _ z => z) (fun b o _ z => s2 b o z), em, ns, sm, fun _ => few, fun _ H2 b2 e2 => ⟨rfl, ?_⟩, fun z => absurd z (by rw [ok]; decide)⟩
  refine q H2 x dx (fun b o eo => ?_) e2
  have nb : b ≠ x := ne_of_none eo hx
  exact b2 b o nb (s2 b o eo)
structure LawH (P : Program) (w : World) (K : PySem.W.Frag) (mg : Str → Option Value) (base : Heap) (C cS : Addr) : Prop where
  L : Law60 P w K mg base C cS
  dice : CallN P w K mg base "_law_dice" 1 ["_law_script", "_law_at"] (spDice K)
  right : CallN P w K mg base "_law_right" 19 ["_law_dice_here"] spRt60
  max : mg "max" = none
  min : mg "min" = none
  len : mg "len" = none
  rng : mg "range" = none
def spLaw60 (K : PySem.W.Frag) : Sp := fun vs H Q _ => ∃ (a : Addr) (ns : List Int), vs = [.ref a] ∧ ns.length ≤ 63 ∧ SqL K H a (ns.map V.int) ∧ ∀ H', Q (.bl true) H'
section
variable {P : Program} {w : World} {K : PySem.W.Frag} {mg : Str → Option Value} {base : Heap} {f C cS : Addr} {fd : FuncData}
theorem t_st : Stays (fun _ _ => True) := ⟨fun _ _ _ _ _ => trivial⟩
theorem scLaw60 : FnScope nLaw60 ["_law_script"] (defScope sLaw60) := ⟨rfl, rfl, rfl, by decide +kernel, rfl, by decide +kernel, by decide +kernel⟩
theorem ok_law60 (F : Fun K "law" "law" sLaw60 f fd) (R : LawH P w K mg base C cS) : GFn P w K mg base 20 f fd ["_law_script"] (spLaw60 K) := by
  obtain ⟨fS, aS, dS, RS, bS, GS, GS0⟩ := R.L.ST.S
  obtain ⟨dsv, hv, bS1⟩ := RS.bS1
  obtain ⟨p2, g2, d2, h2, G2, b2⟩ := R.L.ST.keeps
  obtain ⟨fD, dD, gD, kD, bD, GD⟩ := R.dice
  obtain ⟨fR, dR, gR, kR, bR, GR⟩ := R.right
  obtain ⟨q5, e5, g5, k5, b5, G5⟩ := R.L.cr
  obtain ⟨q6, e6, g6, k6, b6, G6⟩ := R.L.sr
  obtain ⟨q7, e7, g7, k7, b7, G7⟩ := R.L.wc
  obtain ⟨q8, e8, g8, k8, b8, G8⟩ := R.L.ws
  obtain ⟨q9, e9, g9, k9, b9, G9⟩ := R.L.rc
  obtain ⟨qa, ea, ga, ka, ba, Ga⟩ := R.L.rs
  refine gfn_of F scLaw60 (fun vs H Q E h => ?_) (fun cdv A outer s H vs Q E hga hr h => ?_)
  · obtain ⟨a, ns, rfl, _⟩ := h
    rfl
  · obtain ⟨a, ns, rfl, hn, hS, q⟩ := h
    have hu : (A.deeper (envOfC "law" (defScope sLaw60) s.heap.objs.size f cdv)).units + 64 < cLine := by
      have := hr.un
      omega
    refine ⟨_, pss_cons (ps_for PassesOwn.never rfl (pi_range1 (by rfl) R.rng (pa_cons (pe_callB (call_max2 rfl) (by rfl) R.max (by decide +kernel) (pa_cons pe_int (pa_cons (pe_callB (call_min2 rfl) (by rfl) R.min (by decide +kernel) (pa_cons pe_int
          (pa_cons (pe_callB call_len_seq (by rfl) R.len PySem.boot_len (pa_cons (pv 0) pa_nil)) pa_nil))) pa_nil))) pa_nil)) (pg_name (i := 1) scLaw60.nd rfl (Or.inl rfl))
        (pss_cons (ps_set (i := 2) scLaw60.nd rfl (Or.inl rfl) (pe_call GD (hr.mono (by decide)) (by rfl) gD kD bD .nil pass0 (pa_cons (pv 0) (pa_cons (pv 1) pa_nil))))
        (pss_one (ps_for PassesOwn.never rfl (pi_range1 (by rfl) R.rng (pa_cons pe_int pa_nil)) (pg_name (i := 3) scLaw60.nd rfl (Or.inl rfl))
          (pss_one (ps_if (pt_not (pt_val (pe_call GR hr (by rfl) gR kR bR .nil pass0 (pa_cons (pv 2) pa_nil)))) (pss_one (ps_ret pe_bl)) pss_nil))))))
      (pss_cons (ps_set (i := 4) scLaw60.nd rfl (Or.inl rfl) (pe_lt (R := fun _ _ => True) (ds := odd3D) (pa_lc t_st (pe_lt (pa_lc t_st pe_ls (pa_lc t_st pe_ls (pa_lc t_st pe_ls pa_ln)))) (pa_lc t_st (pe_lt (pa_lc t_st pe_ls (pa_lc t_st pe_ls (pa_lc t_st pe_ls (pa_lc t_st (pe_lt pa_ln) pa_ln)))))
          (pa_lc t_st (pe_lt (pa_lc t_st pe_ls (pa_lc t_st pe_ls (pa_lc t_st pe_ls (pa_lc t_st (pe_lt (pa_lc t_st pe_ls (pa_lc t_st pe_ls pa_ln))) pa_ln))))) pa_ln)))))
      (pss_cons (ps_set (i := 4) scLaw60.nd rfl (Or.inl rfl) (pe_ct (R := RV 4 (.tuple odd3D)) (xs := odd3D) (ys := odd1D) rv_st (pe_lp 4 (fun _ _ h => h)) (pe_lt (pa_lc rv_st (pe_lt (pa_lc rv_st pe_ls (pa_lc rv_st pe_ls (pa_lc rv_st pe_ls pa_ln)))) pa_ln)) (fun _ _ _ => by decide)))
      (pss_cons (ps_set (i := 5) scLaw60.nd rfl (Or.inl rfl) (pe_lt (R := RV 4 (.tuple (odd3D ++ odd1D))) (ds := codeHD) (pa_lc rv_st (pe_lt (pa_lc rv_st pe_ls (pa_lc rv_st pe_ls (pa_lc rv_st pe_ls (pa_lc rv_st (pe_lt pa_ln) (pa_lc rv_st (pe_lt (pa_lc rv_st (pe_lt (pa_lc rv_st pe_ls (pa_lc rv_st pe_ls (pa_lc rv_st pe_ls (pa_lc rv_st (pe_lp 4 (fun _ _ h => h)) (pa_lc rv_st (pe_lt pa_ln) pa_ln)))))) pa_ln)) pa_ln)))))) (pa_lc rv_st (pe_lt (pa_lc rv_st pe_ls (pa_lc rv_st pe_ls pa_ln))) pa_ln))))
      (pss_cons (ps_set (i := 6) scLaw60.nd rfl (Or.inl rfl) pe_str)
      (pss_cons (ps_set (i := 6) scLaw60.nd rfl (Or.inl rfl) (pe_op op_add_str (pv 6) pe_str))
      (pss_cons (ps_if (PW.pt (pw_or (pt_cmpR op_ne (pe_call G7 (hr.mono (by decide)) (by rfl) g7 k7 b7 .nil pass0 (pa_cons (pv 5) pa_nil)) (pv 6) (nomark _))
          (pw_or (pt_not (pt_val (pe_call G5 (hr.mono (by decide)) (by rfl) g5 k5 b5 .nil pass0 (pa_cons (pv 5) pa_nil))))
          (pw_or1 (pt_not (pt_val (pe_call G6 (hr.mono (by decide)) (by rfl) g6 k6 b6 .nil pass0 (pa_cons (pv 5) (pa_cons (pe_tup (pa_cons pe_str (pa_cons pe_str pa_nil))) pa_nil))))))))) (pss_one (ps_ret pe_bl)) pss_nil)
      (pss_cons (ps_set (i := 7) scLaw60.nd rfl (Or.inl rfl) (pe_lst (pa_cons (pe_call G7 (hr.mono (by decide)) (by rfl) g7 k7 b7 .nil pass0 (pa_cons (pe_tup pa_nil) pa_nil)) (pa_cons (pe_call G9 (hr.mono (by decide)) (by rfl) g9 k9 b9 .nil pass0 (pa_cons pe_str pa_nil))
          (pa_cons (pe_call G8 (hr.mono (by decide)) (by rfl) g8 k8 b8 .nil pass0 (pa_cons (pe_make RS.MS GS0 (hr.mono (by decide)) (by rfl) RS.gSt bS1 hv (passes_call L2.takes0 (fun _ _ _ _ h => h)) (pa_cons (pe_tup pa_nil) pa_nil)) pa_nil))
          (pa_cons (pe_prop (E := E0) (pe_call Ga (hr.mono (by decide)) (by rfl) ga ka ba .nil pass0 (pa_cons pe_str pa_nil)) RS.T.cl h2 G2 (hr.mono (by decide)) b2 .nil pass0 (by rfl)) pa_nil))))))
      (pss_one (ps_ret (pe_cmpR (op_eqD hu) (pv 7) (pe_lst (pa_cons pe_str (pa_cons (pe_tup pa_nil) (pa_cons pe_str (pa_cons (pe_tup pa_nil) pa_nil))))) (nomark _))))))))))), ?_⟩
    refine ⟨_, rfl, a, _, rfl, .inl hS, 10, _, rfl, 1, _, rfl, _, rfl, ?_⟩
    have hj : 1 ≤ (if (if (((ns.map V.int).length : Nat) : Int) < 10 then (((ns.map V.int).length : Nat) : Int) else 10) > 1 then (if (((ns.map V.int).length : Nat) : Int) < 10 then (((ns.map V.int).length : Nat) : Int) else 10) else 1) ∧
        (if (if (((ns.map V.int).length : Nat) : Int) < 10 then (((ns.map V.int).length : Nat) : Int) else 10) > 1 then (if (((ns.map V.int).length : Nat) : Int) < 10 then (((ns.map V.int).length : Nat) : Int) else 10) else 1) ≤ 10 := by
      split <;> split <;> omega
    revert hj
    generalize (if (if (((ns.map V.int).length : Nat) : Int) < 10 then (((ns.map V.int).length : Nat) : Int) else 10) > 1 then (if (((ns.map V.int).length : Nat) : Int) < 10 then (((ns.map V.int).length : Nat) : Int) else 10) else 1) = jn
    intro hj
    refine ⟨by omega, by omega, fun i m σ H => m = jn.toNat - i ∧ i ≤ jn.toNat ∧ (∃ x1 x2 x3 x4 x5 x6 x7, σ = [some (.ref a), x1, x2, x3, x4, x5, x6, x7]) ∧ SqL K H a (ns.map V.int), ⟨_, rfl, Nat.zero_le _, ⟨_, _, _, _, _, _, _, rfl⟩, hS⟩, ?_⟩
    rintro i m σ H ⟨rfl, hi, ⟨x1, x2, x3, x4, x5, x6, x7, rfl⟩, hS⟩
    rcases Nat.lt_or_ge i jn.toNat with hlt | hge
    · refine .inr ⟨hlt, fun σ' H' => (∃ x1 x2 x3 x4 x5 x6 x7, σ' = [some (.ref a), x1, x2, x3, x4, x5, x6, x7]) ∧ SqL K H' a (ns.map V.int), fun σ' H' h => ⟨jn.toNat - (i + 1), by omega, rfl, hlt, h.1, h.2⟩, ?_⟩
      rintro x H' ⟨rfl, rfl⟩
      refine ⟨_, rfl, _, rfl, a, ns, 0 + i, rfl, hS, fun H1 p s1 n1 d1 => ?_⟩
      refine ⟨3, rfl, by decide, by decide, for_range (fun j σ G => (∃ y1 y3, σ = [some (.ref a), y1, some (.ref p), y3, x4, x5, x6, x7]) ∧ But p H1 G ∧ Dice G p) ⟨⟨_, _, rfl⟩, (fun _ _ _ e => e), d1⟩ (fun j σ G hjl h => ?_) (fun σ G h => ?_)⟩
      · obtain ⟨⟨y1, y3, rfl⟩, bG, dG⟩ := h
        exact ⟨_, rfl, p, rfl, dG, fun G2 b2 d2 => ⟨_, rfl, iteF ⟨⟨_, _, rfl⟩, bG.tr b2, d2⟩⟩⟩
      · obtain ⟨⟨y1, y3, rfl⟩, bG, dG⟩ := h
        exact ⟨⟨_, _, _, _, _, _, _, rfl⟩, seq_but hS n1 s1 bG⟩
    · refine .inl ⟨hge, ?_⟩
      refine ⟨trivial, fun v1 H1 s1 dv1 => ⟨⟨v1, rfl, dv1⟩, fun v2 H2 s2 dv2 => ⟨⟨v2, rfl, dv2⟩, fun v3 H3 s3 dv3 => ?_⟩⟩⟩
      refine ⟨_, rfl, _, _, rfl, rfl, (by show due1.length + due2.length ≤ sizeLine; decide +kernel), ?_⟩
      refine ⟨_, rfl, v3, codeHD, rfl, dv3, codeH_thr, fun H4 s4 => ⟨_, rfl, rfl, _, rfl, ?_⟩⟩
      show if (!decide (V.str (linesT (wssN 3 codeHD)) = V.str (due1 ++ due2))) = true then _ else _
      rw [decide_eq_true (congrArg V.str due_eq.symm)]
      have d34 := dv3.mv (fun _ z => z) fun b o _ z => s4 b o z
      refine iteF ⟨_, rfl, v3, codeHD, rfl, d34, codeH_thr, fun H5 s5 => ⟨_, rfl, iteF ⟨_, rfl, (by show 2 ≤ sizeLine; decide), fun p hp => ?_⟩⟩⟩
      have sp := same_upd (o := .tup [.str "a", .str "keeps"]) hp
      have d35 := (d34.mv (fun _ z => z) fun b o _ z => s5 b o z).mv (fun _ z => z) fun b o _ z => sp b o z
      refine ⟨v3, p, codeHD, ksH, rfl, d35, upd_same, codeH_st, fun H6 s6 => ⟨_, rfl, iteF ?_⟩⟩
      refine ⟨(by show 0 ≤ sizeLine; decide), fun p1 hp1 => ?_⟩
      refine ⟨.ref p1, [], rfl, .tup trivial upd_same (by decide) .nil, nil_thr, fun H7 s7 => ?_⟩
      refine ⟨[], (by rw [text0]; rfl), nil_thr, fun H8 v8 s8 d8 => ?_⟩
      refine ⟨(by show 0 ≤ sizeLine; decide), fun p3 hp3 => ?_⟩
      have t3 := same_upd (o := .tup []) hp3
      have ok0 : okD (.tuple []) (.tuple []) = true := by decide +kernel
      refine made0_te (ds := []) RS.emp (.tup trivial upd_same (by decide) .nil) ok0 (by decide +kernel) (by decide +kernel) (by decide) fun H9 x dx s9 e9 => ?_
      refine ⟨x, dx, aS, .ref p3, [], [], rfl, e9, .tup trivial (s9 _ _ upd_same) (by decide) .nil, RS.emp.seq, rfl, by decide, nil_st.kept, fun H10 s10 => ?_⟩
      refine ⟨[], [], (by rw [textK]; rfl), nil_st, fun H11 a2 dx2 kb2 c2 s11 e11 d11 k11 => ?_⟩
      refine ⟨a2, dx2, _, rfl, e11, a2, dx2, _, _, rfl, e11, rfl, (by show 4 ≤ sizeLine; decide), fun pl hpl => ?_⟩
      have sl := same_upd (o := .lst [.str (linesT (wssN 3 [])), v8, .str (linesT (wssT [] [])), .ref kb2]) hpl
      refine ⟨_, rfl, (by show 0 ≤ sizeLine; decide), fun p5 hp5 => ⟨(by show 0 ≤ sizeLine; decide), fun p6 hp6 => ⟨(by show 4 ≤ sizeLine; decide), fun p7 hp7 => ?_⟩⟩⟩
      have u5 := same_upd (o := .tup []) hp5
      have u6 := same_upd (o := .tup []) hp6
      have u7 := same_upd (o := .lst [.str "", .ref p5, .str "keeps", .ref p6]) hp7
      have u57 := (u5.trans u6).trans u7
      have s8F := (((t3.trans s9).trans s10).trans s11).trans (sl.trans u57)
      have dp8 : Dp K _ v8 (.tuple []) := (code_dp (K := K) (ds := []) rfl (d8.mv (fun _ z => z) fun b o _ z => s8F b o z)).1
      have dA : DpAll K (upd (upd (upd (upd H11 pl (.lst [.str (linesT (wssN 3 [])), v8, .str (linesT (wssT [] [])), .ref kb2])) p5 (.tup [])) p6 (.tup [])) p7 (.lst [.str "", .ref p5, .str "keeps", .ref p6])) [.str (linesT (wssN 3 [])), v8, .str (linesT (wssT [] [])), .ref kb2] [.str "", .tuple [], .str "keeps", .tuple []] := by
        rw [text0, textK] at dp8 ⊢
        exact .cons (.str _) (.cons dp8 (.cons (.str _) (.cons (.tup (SqT.of ((sl.trans u57) _ _ k11)) .nil) .nil)))
      refine ⟨toldH, toldH, .lst (SqL.of (u57 _ _ upd_same)) dA, .lst (SqL.of upd_same) (.cons (.str _) (.cons (.tup (SqT.of (u7 _ _ (u6 _ _ upd_same))) .nil) (.cons (.str _) (.cons (.tup (SqT.of (u7 _ _ upd_same)) .nil) .nil)))), toldH_ok.1, toldH_ok.1, ?_⟩
      rw [toldH_ok.2]
      exact q _
end
end OM

namespace OM
open PySem PySem.Spec PyProof.Rows L2
def HasFn (K : PySem.W.Frag) (x qual : Str) (st : Stmt) (f : Addr) : Prop := ∃ fd, Fun K x qual st f fd
def HasM (K : PySem.W.Frag) (f : Addr) : Prop := ∃ fd, FunD K "__init__" "MoveError.__init__" (defArgs sMI) (defBody sMI) (defScope sMI) [.str ""] [] f fd
def HasN (K : PySem.W.Frag) (f : Addr) : Prop := ∃ fd, FunD K "is_nested_code" "is_nested_code" (defArgs sNested) (defBody sNested) (defScope sNested) [.bl false] [] f fd
def HasS (K : PySem.W.Frag) (f a : Addr) : Prop := ∃ fd, FunD K "__init__" "Stretch.__init__" (defArgs sSI) (defBody sSI) (defScope sSI) [.ref a] [] f fd
/-- names that the text does not bind -/
def freeN : List Str := ["isinstance", "str", "len", "all", "tuple", "zip", "list", "sorted", "sum", "max", "min", "set", "range", "int", "abs", "enumerate", "ValueError"]
def freeB (K : PySem.W.Frag) : Bool := freeN.all fun x => decide (PySem.W.nsIn K mainGlobals x = some none)
theorem free_of {K : PySem.W.Frag} {h : Heap} {mg : Str → Option Value} (X : K.In h) (G : h.Ns mainGlobals mg) (b : freeB K = true) (x : Str) (hx : x ∈ freeN) : mg x = none :=
  PySem.W.mg_none_of X G (of_decide_eq_true (List.all_eq_true.mp b x hx))
/-- a written tuple of texts -/
def strV : Value → Option Str
  | .str x _ => some x
  | _ => none
def tupB (K : PySem.W.Frag) (a : Addr) (xs : List Str) : Bool := match K.lookup a with
  | some ⟨.type c, _, .seq its _, _⟩ => decide (c = "tuple") && (decide (its.toList.map strV = xs.map some) && decide (xs.length ≤ 100))
  | _ => false
theorem vals_strs : ∀ {us : List Value} {xs : List Str}, us.map strV = xs.map some → Vals (xs.map V.str) us
  | [], [], _ => .nil
  | [], _ :: _, h => by cases h
  | _ :: _, [], h => by cases h
  | u :: us, x :: xs, h => by
    rw [List.map_cons, List.map_cons] at h
    injection h with h1 h2
    refine .cons ?_ (vals_strs h2)
    unfold strV at h1
    split at h1
    · rename_i y t
      cases h1
      exact ⟨t, rfl⟩
    · cases h1
theorem tupB_ok {K : PySem.W.Frag} {a : Addr} {xs : List Str} (h : tupB K a xs = true) (H : Hp) : SqT K H a (xs.map V.str) := by
  unfold tupB at h
  split at h
  · rename_i c od its n sl hk
    rw [Bool.and_eq_true, Bool.and_eq_true] at h
    obtain ⟨h1, h2, h3⟩ := h
    have e := of_decide_eq_true h1
    subst e
    have e2 := of_decide_eq_true h2
    have e3 := of_decide_eq_true h3
    refine .inr ⟨_, its, n, hk, rfl, rfl, ?_, vals_strs e2⟩
    have l := congrArg List.length e2
    rw [List.length_map, List.length_map, Array.length_toList] at l
    rw [l]
    exact Nat.le_trans e3 (by decide)
  · cases h
def names8 : List Str := ["read", "write", "set", "copy", "get", "put", "if", "show"]
/-- FORMS, as it is written -/
def keysB (K : PySem.W.Frag) (d : Addr) : Bool := match K.lookup d with
  | some ⟨_, _, .dict es _, _⟩ => es.toList.all fun e => match e.key with
    | .str x _ => (formOf x).isSome
    | _ => false
  | _ => false
def formsB (K : PySem.W.Frag) (d : Addr) : Bool := names8.all fun z => match PySem.W.nsIn K d z with
  | some (some (.ref a)) => tupB K a ((formOf z).getD [])
  | _ => false
theorem keysB_ok {K : PySem.W.Frag} {d : Addr} (h : keysB K d = true) {z : Str} (hz : formOf z = none) : PySem.W.nsIn K d z = some none := by
  unfold keysB at h
  split at h
  · rename_i oc od es n sl hk
    have ha := List.all_eq_true.mp h
    unfold PySem.W.nsIn
    rw [hk]
    have f : es.toList.find? (·.key.isStr z) = none := List.find?_eq_none.mpr fun e he y => by
      have := ha e he
      split at this
      · rename_i x t hx
        rw [hx] at y
        have e2 : x = z := by simpa [Value.isStr] using y
        rw [e2, hz] at this
        cases this
      · cases this
    have g : es.toList.any (·.refKey) = false := by
      rw [Bool.eq_false_iff]
      intro y
      obtain ⟨e, he, q⟩ := List.any_eq_true.mp y
      have := ha e he
      split at this
      · rename_i x t hx
        unfold DictEntry.refKey at q
        rw [hx] at q
        cases q
      · cases this
    show (match es.toList.find? (·.key.isStr z) with
      | some e => some (some e.val)
      | none => if es.toList.any (·.refKey) then none else some none) = some none
    rw [f, g]
    rfl
  · cases h
theorem form_names {z : Str} {rs : List Str} (h : formOf z = some rs) : z ∈ names8 := by
  unfold formOf at h
  unfold names8
  repeat' split at h
  all_goals first
    | cases h; done
    | (subst_vars; decide)
theorem formsB_ok {K : PySem.W.Frag} {d : Addr} (h : formsB K d = true) {z : Str} {rs : List Str} (hz : formOf z = some rs) : ∃ a, PySem.W.nsIn K d z = some (some (.ref a)) ∧ ∀ H, SqT K H a (rs.map V.str) := by
  have := List.all_eq_true.mp h z (form_names hz)
  split at this
  · rename_i a ha
    rw [hz] at this
    exact ⟨a, ha, fun H => tupB_ok this H⟩
  · cases this
def exmB (K : PySem.W.Frag) (a b : Addr) (r : Bool) : Bool := decide (PySem.W.exmOne K (.ref a) (.ref b) = some r)
/-- the class Stretch -/
def strB (K : PySem.W.Frag) (C f : Addr) : Bool := PySem.W.plainGet K C Str.empty && (PySem.W.hasDictIn K C && (PySem.W.plainOver K C && (decide (PySem.W.findIn K (.ref C) "__setattr__" = some (some (.builtin "object.__setattr__"))) && (decide (PySem.W.findIn K (.ref C) "_code" = some none) && (decide (PySem.W.findIn K (.ref C) "_keeps" = some none) &&
  (PySem.W.makesIn K C && (decide (PySem.W.findIn K (.ref C) "__init__" = some (some (.ref f))) && (PySem.W.isFn K (.ref f) && PySem.W.keepIn K (.ref C)))))))))
theorem strB_ok {K : PySem.W.Frag} {mg : Str → Option Value} {C f : Addr} (h : strB K C f = true) : StrT K mg C ∧ Mk K C f := by
  unfold strB at h
  simp only [Bool.and_eq_true, decide_eq_true_eq] at h
  obtain ⟨h1, h2, h3, h4, h5, h6, h7, h8, h9, h10⟩ := h
  exact ⟨⟨⟨h1, h2, h3, h4⟩, h5, h6⟩, ⟨h7, h8, h9, h10⟩⟩
/-- the rest that is asked of the class Stretch -/
def strC (K : PySem.W.Frag) (C : Addr) : Bool := decide (PySem.W.findIn K (.ref C) "__class__" = some (some (.builtin "object.__class__"))) && (decide (PySem.W.specialIn K (.builtin "object.__class__") "__get__" = some (some (.builtin "getset_descriptor.__get__"))) &&
  (decide (PySem.W.takesIn K (.builtin "object.__class__") = some true) && (decide (PySem.W.mroIn K C (.type "object") = some true) && decide (PySem.W.kitOne K (.ref C) (.ref C) = some true))))
def methB (K : PySem.W.Frag) (f : Addr) : Bool := PySem.W.isFn K (.ref f) && PySem.W.keepIn K (.ref f)
theorem methB_ok {K : PySem.W.Frag} {f : Addr} (h : methB K f = true) : PySem.W.isFn K (.ref f) = true ∧ PySem.W.keepIn K (.ref f) = true := Bool.and_eq_true_iff.mp h
/-- a class of the text's own, without names of these -/
def clsB (K : PySem.W.Frag) (C f : Addr) (as : List Str) : Bool := PySem.W.plainGet K C Str.empty && (PySem.W.hasDictIn K C && (PySem.W.plainOver K C && (decide (PySem.W.findIn K (.ref C) "__setattr__" = some (some (.builtin "object.__setattr__"))) && ((as.all fun a => decide (PySem.W.findIn K (.ref C) a = some none)) &&
  (PySem.W.makesIn K C && (decide (PySem.W.findIn K (.ref C) "__init__" = some (some (.ref f))) && (PySem.W.isFn K (.ref f) && PySem.W.keepIn K (.ref C))))))))
theorem clsB_ok {K : PySem.W.Frag} {C f : Addr} {as : List Str} (h : clsB K C f as = true) : Cls K C ∧ Mk K C f ∧ ∀ a ∈ as, NoAttr K C a := by
  unfold clsB at h
  simp only [Bool.and_eq_true, decide_eq_true_eq] at h
  obtain ⟨h1, h2, h3, h4, h5, h7, h8, h9, h10⟩ := h
  exact ⟨⟨h1, h2, h3, h4⟩, ⟨h7, h8, h9, h10⟩, fun a ha => (show PySem.W.findIn K (.ref C) a = some none from of_decide_eq_true (List.all_eq_true.mp h5 a ha))⟩
theorem prop_mk {K : PySem.W.Frag} {C p g : Addr} {f : Str} {od : Option Addr} {vs : Array Value} {sl : Array (Option Value)} {rest : List Value} (h1 : PySem.W.findIn K (.ref C) f = some (some (.ref p))) (l : K.lookup p = some ⟨.type "property", od, .fields vs, sl⟩) (hv : vs.toList = .ref g :: rest)
    (h2 : decide (PySem.W.specialIn K (.ref p) "__get__" = some (some (.builtin "property.__get__"))) = true) (h3 : decide (PySem.W.takesIn K (.ref p) = some true) = true) : PropOf K C f p g :=
  ⟨h1, of_decide_eq_true h2, of_decide_eq_true h3, rest, by
    unfold PySem.W.recIn
    rw [l]
    simp [hv]⟩
theorem emp_mk {K : PySem.W.Frag} {a : Addr} {od : Option Addr} {n : Nat} {sl : Array (Option Value)} (l : K.lookup a = some ⟨.type "tuple", od, .seq #[] n, sl⟩) : Emp K a := ⟨_, n, l, rfl, rfl⟩
/-- what stands behind the top -/
structure Top60 (K : PySem.W.Frag) (w : World) (g : Nat → Addr) (c1 f0 fS aS C pC fC pK fK fE dF aW CR r0 r1 r2 r3 r4 r5 r6 CS s0 s1 s2 : Addr) : Prop where
  kc1 : PySem.W.nsIn K mainGlobals "InvalidStretch" = some (some (.ref c1))
  iMAX_LETTERS : ∃ t, PySem.W.nsIn K mainGlobals "MAX_LETTERS" = some (some (.int 8 t))
  iMAX_REGISTERS : ∃ t, PySem.W.nsIn K mainGlobals "MAX_REGISTERS" = some (some (.int 2 t))
  iMAX_DEPTH : ∃ t, PySem.W.nsIn K mainGlobals "MAX_DEPTH" = some (some (.int 3 t))
  iMAX_KEPT : ∃ t, PySem.W.nsIn K mainGlobals "MAX_KEPT" = some (some (.int 4 t))
  iMAX_STATEMENTS : ∃ t, PySem.W.nsIn K mainGlobals "MAX_STATEMENTS" = some (some (.int 24 t))
  iMAX_CELLS : ∃ t, PySem.W.nsIn K mainGlobals "MAX_CELLS" = some (some (.int 4 t))
  iMAX_LETTERS_SENT : ∃ t, PySem.W.nsIn K mainGlobals "MAX_LETTERS_SENT" = some (some (.int 6 t))
  iMAX_SETS : ∃ t, PySem.W.nsIn K mainGlobals "MAX_SETS" = some (some (.int 6 t))
  iMAX_TESTS : ∃ t, PySem.W.nsIn K mainGlobals "MAX_TESTS" = some (some (.int 3 t))
  iMAX_CODE : ∃ t, PySem.W.nsIn K mainGlobals "MAX_CODE" = some (some (.int 60 t))
  iMAX_ON_PATH : ∃ t, PySem.W.nsIn K mainGlobals "MAX_ON_PATH" = some (some (.int 6 t))
  iMAX_SET_WORDS : ∃ t, PySem.W.nsIn K mainGlobals "MAX_SET_WORDS" = some (some (.int 5 t))
  lets : ∃ t, PySem.W.nsIn K mainGlobals "LETTERS" = some (some (.str alphabet t))
  words : PySem.W.nsIn K mainGlobals "WORDS" = some (some (.ref aW))
  wordsT : tupB K aW words6 = true
  forms : PySem.W.nsIn K mainGlobals "FORMS" = some (some (.ref dF))
  formsD : He.dicW K dF = some (He.keysIn w.params names8)
  formsK : keysB K dF = true
  formsV : formsB K dF = true
  stretch : PySem.W.nsIn K mainGlobals "Stretch" = some (some (.ref C))
  inS : PySem.W.findIn K (.ref C) "__init__" = some (some (.ref fS))
  k1 : KCls K c1 f0 "ValueError" []
  m0 : HasM K f0
  mS : HasS K fS aS
  emp : Emp K aS
  strOk : strB K C fS = true
  strCk : strC K C = true
  pcE : PySem.W.findIn K (.ref C) "code" = some (some (.ref pC))
  pcP : PropOf K C "code" pC fC
  pcF : HasFn K "code" "Stretch.code" (inStK 38 1) fC
  pkE : PySem.W.findIn K (.ref C) "keeps" = some (some (.ref pK))
  pkP : PropOf K C "keeps" pK fK
  pkF : HasFn K "keeps" "Stretch.keeps" (inStK 38 2) fK
  eqE : PySem.W.findIn K (.ref C) "__eq__" = some (some (.ref fE))
  eqF : HasFn K "__eq__" "Stretch.__eq__" sEqM fE
  eqI : PySem.W.isFn K (.ref fE) = true
  ne : PySem.W.findIn K (.ref C) "__ne__" = some (some (.builtin "object.__ne__"))
  notF : PySem.W.notFirst K C (.ref C) = true
  bV : PySem.W.findCls K (.type "ValueError") (.type "type") "__init__" = some (.val (.builtin "ValueError.__init__"))
  rg : PySem.W.nsIn K mainGlobals "CodeReader" = some (some (.ref CR))
  ri : PySem.W.findIn K (.ref CR) "__init__" = some (some (.ref r0))
  rB : clsB K CR r0 ["shows", "opened", "rows"] = true
  rf0 : HasFn K "__init__" "CodeReader.__init__" sRIn r0
  re1 : PySem.W.findIn K (.ref CR) "take" = some (some (.ref r1))
  rb1 : methB K r1 = true
  rf1 : HasFn K "take" "CodeReader.take" sTake r1
  re2 : PySem.W.findIn K (.ref CR) "take_if" = some (some (.ref r2))
  rb2 : methB K r2 = true
  rf2 : HasFn K "take_if" "CodeReader.take_if" sTIf r2
  re3 : PySem.W.findIn K (.ref CR) "take_else" = some (some (.ref r3))
  rb3 : methB K r3 = true
  rf3 : HasFn K "take_else" "CodeReader.take_else" sTEl r3
  re4 : PySem.W.findIn K (.ref CR) "take_end" = some (some (.ref r4))
  rb4 : methB K r4 = true
  rf4 : HasFn K "take_end" "CodeReader.take_end" sTEn r4
  re5 : PySem.W.findIn K (.ref CR) "is_complete" = some (some (.ref r5))
  rb5 : methB K r5 = true
  rf5 : HasFn K "is_complete" "CodeReader.is_complete" sIsC r5
  re6 : PySem.W.findIn K (.ref CR) "all_code" = some (some (.ref r6))
  rb6 : methB K r6 = true
  rf6 : HasFn K "all_code" "CodeReader.all_code" sAllC r6
  sg : PySem.W.nsIn K mainGlobals "StretchReader" = some (some (.ref CS))
  si : PySem.W.findIn K (.ref CS) "__init__" = some (some (.ref s0))
  sB : clsB K CS s0 ["names_told", "body"] = true
  sf0 : HasFn K "__init__" "StretchReader.__init__" sSIn s0
  se1 : PySem.W.findIn K (.ref CS) "take" = some (some (.ref s1))
  sb1 : methB K s1 = true
  sf1 : HasFn K "take" "StretchReader.take" sSTk s1
  se2 : PySem.W.findIn K (.ref CS) "is_complete" = some (some (.ref s2))
  sb2 : methB K s2 = true
  sf2 : HasFn K "is_complete" "StretchReader.is_complete" sSIs s2
  nn : freeB K = true
  n19 : PySem.W.nsIn K mainGlobals "is_nested_code" = some (some (.ref (g 19)))
  h19 : HasN K (g 19)
  n14 : PySem.W.nsIn K mainGlobals "is_name" = some (some (.ref (g 14)))
  h14 : HasFn K "is_name" "is_name" (top 14) (g 14)
  n15 : PySem.W.nsIn K mainGlobals "is_set" = some (some (.ref (g 15)))
  h15 : HasFn K "is_set" "is_set" (top 15) (g 15)
  n20 : PySem.W.nsIn K mainGlobals "_is_statement" = some (some (.ref (g 20)))
  h20 : HasFn K "_is_statement" "_is_statement" (top 20) (g 20)
  n21 : PySem.W.nsIn K mainGlobals "_fits" = some (some (.ref (g 21)))
  h21 : HasFn K "_fits" "_fits" (top 21) (g 21)
  n22 : PySem.W.nsIn K mainGlobals "flattened" = some (some (.ref (g 22)))
  h22 : HasFn K "flattened" "flattened" (top 22) (g 22)
  n23 : PySem.W.nsIn K mainGlobals "codes_in" = some (some (.ref (g 23)))
  h23 : HasFn K "codes_in" "codes_in" (top 23) (g 23)
  n24 : PySem.W.nsIn K mainGlobals "names_in" = some (some (.ref (g 24)))
  h24 : HasFn K "names_in" "names_in" (top 24) (g 24)
  n25 : PySem.W.nsIn K mainGlobals "_names_of" = some (some (.ref (g 25)))
  h25 : HasFn K "_names_of" "_names_of" (top 25) (g 25)
  n26 : PySem.W.nsIn K mainGlobals "most_on_path" = some (some (.ref (g 26)))
  h26 : HasFn K "most_on_path" "most_on_path" (top 26) (g 26)
  n27 : PySem.W.nsIn K mainGlobals "_most_at" = some (some (.ref (g 27)))
  h27 : HasFn K "_most_at" "_most_at" (top 27) (g 27)
  n28 : PySem.W.nsIn K mainGlobals "_path_kind" = some (some (.ref (g 28)))
  h28 : HasFn K "_path_kind" "_path_kind" (top 28) (g 28)
  n37 : PySem.W.nsIn K mainGlobals "is_code" = some (some (.ref (g 37)))
  h37 : HasFn K "is_code" "is_code" (top 37) (g 37)
  n40 : PySem.W.nsIn K mainGlobals "is_bounded" = some (some (.ref (g 40)))
  h40 : HasFn K "is_bounded" "is_bounded" (top 40) (g 40)
  n41 : PySem.W.nsIn K mainGlobals "is_kept" = some (some (.ref (g 41)))
  h41 : HasFn K "is_kept" "is_kept" (top 41) (g 41)
  n45 : PySem.W.nsIn K mainGlobals "is_thread_code" = some (some (.ref (g 45)))
  h45 : HasFn K "is_thread_code" "is_thread_code" (top 45) (g 45)
  n47 : PySem.W.nsIn K mainGlobals "check_stretch" = some (some (.ref (g 47)))
  h47 : HasFn K "check_stretch" "check_stretch" (top 47) (g 47)
  n50 : PySem.W.nsIn K mainGlobals "write_code" = some (some (.ref (g 50)))
  h50 : HasFn K "write_code" "write_code" (top 50) (g 50)
  n51 : PySem.W.nsIn K mainGlobals "write_stretch" = some (some (.ref (g 51)))
  h51 : HasFn K "write_stretch" "write_stretch" (top 51) (g 51)
  n52 : PySem.W.nsIn K mainGlobals "read_code" = some (some (.ref (g 52)))
  h52 : HasFn K "read_code" "read_code" (top 52) (g 52)
  n53 : PySem.W.nsIn K mainGlobals "read_stretch" = some (some (.ref (g 53)))
  h53 : HasFn K "read_stretch" "read_stretch" (top 53) (g 53)
  n56 : PySem.W.nsIn K mainGlobals "_read" = some (some (.ref (g 56)))
  h56 : HasFn K "_read" "_read" (top 56) (g 56)
  n57 : PySem.W.nsIn K mainGlobals "_statement_of" = some (some (.ref (g 57)))
  h57 : HasFn K "_statement_of" "_statement_of" (top 57) (g 57)
  n58 : PySem.W.nsIn K mainGlobals "_lines_of" = some (some (.ref (g 58)))
  h58 : HasFn K "_lines_of" "_lines_of" (top 58) (g 58)
  n59 : PySem.W.nsIn K mainGlobals "_check_code" = some (some (.ref (g 59)))
  h59 : HasFn K "_check_code" "_check_code" (top 59) (g 59)
  n61 : PySem.W.nsIn K mainGlobals "_law_dice" = some (some (.ref (g 61)))
  h61 : HasFn K "_law_dice" "_law_dice" (top 61) (g 61)
  n62 : PySem.W.nsIn K mainGlobals "_law_roll" = some (some (.ref (g 62)))
  h62 : HasFn K "_law_roll" "_law_roll" (top 62) (g 62)
  n63 : PySem.W.nsIn K mainGlobals "_law_one_of" = some (some (.ref (g 63)))
  h63 : HasFn K "_law_one_of" "_law_one_of" (top 63) (g 63)
  n64 : PySem.W.nsIn K mainGlobals "_law_mixed" = some (some (.ref (g 64)))
  h64 : HasFn K "_law_mixed" "_law_mixed" (top 64) (g 64)
  n65 : PySem.W.nsIn K mainGlobals "_law_statement" = some (some (.ref (g 65)))
  h65 : HasFn K "_law_statement" "_law_statement" (top 65) (g 65)
  n66 : PySem.W.nsIn K mainGlobals "_law_code" = some (some (.ref (g 66)))
  h66 : HasFn K "_law_code" "_law_code" (top 66) (g 66)
  n67 : PySem.W.nsIn K mainGlobals "_law_stretch" = some (some (.ref (g 67)))
  h67 : HasFn K "_law_stretch" "_law_stretch" (top 67) (g 67)
  n68 : PySem.W.nsIn K mainGlobals "_law_changed" = some (some (.ref (g 68)))
  h68 : HasFn K "_law_changed" "_law_changed" (top 68) (g 68)
  n69 : PySem.W.nsIn K mainGlobals "_law_near" = some (some (.ref (g 69)))
  h69 : HasFn K "_law_near" "_law_near" (top 69) (g 69)
  n70 : PySem.W.nsIn K mainGlobals "_law_ifs" = some (some (.ref (g 70)))
  h70 : HasFn K "_law_ifs" "_law_ifs" (top 70) (g 70)
  n71 : PySem.W.nsIn K mainGlobals "_law_thread" = some (some (.ref (g 71)))
  h71 : HasFn K "_law_thread" "_law_thread" (top 71) (g 71)
  n72 : PySem.W.nsIn K mainGlobals "_law_written" = some (some (.ref (g 72)))
  h72 : HasFn K "_law_written" "_law_written" (top 72) (g 72)
  n73 : PySem.W.nsIn K mainGlobals "_law_code_right" = some (some (.ref (g 73)))
  h73 : HasFn K "_law_code_right" "_law_code_right" (top 73) (g 73)
  n74 : PySem.W.nsIn K mainGlobals "_law_stretch_right" = some (some (.ref (g 74)))
  h74 : HasFn K "_law_stretch_right" "_law_stretch_right" (top 74) (g 74)
  n75 : PySem.W.nsIn K mainGlobals "_law_right" = some (some (.ref (g 75)))
  h75 : HasFn K "_law_right" "_law_right" (top 75) (g 75)
  n76 : PySem.W.nsIn K mainGlobals "law" = some (some (.ref (g 76)))
  h76 : HasFn K "law" "law" (top 76) (g 76)
theorem all_mk60 {l : PySem.W.OpenLaw} {w : World} {K : PySem.W.Frag} {h : Heap} {mg : Str → Option Value} {fa : Addr} {g : Nat → Addr} {c1 f0 fS aS C pC fC pK fK fE dF aW CR r0 r1 r2 r3 r4 r5 r6 CS s0 s1 s2 : Addr} (X : K.In h) (G : h.Ns mainGlobals mg) (hfa : mg "law" = some (.ref fa)) (T : Top60 K w g c1 f0 fS aS C pC fC pK fK fE dF aW CR r0 r1 r2 r3 r4 r5 r6 CS s0 s1 s2) :
    ∃ gd : FuncData, (∀ (s : Shared) (u : Value), BindsTo s gd ⟨[u], []⟩ [("_law_script", u)]) ∧ ∀ base : Heap, K.In base → base.Ns mainGlobals mg → (∃ o, base.get? sysModules = some o) → GFn l.prog w K mg base 20 fa gd ["_law_script"] (spLaw60 K) := by
  have gl : ∀ {x : Str} {u : Value}, PySem.W.nsIn K mainGlobals x = some (some u) → mg x = some u := fun e => PySem.W.mg_of X G e
  obtain rfl : g 76 = fa := by
    have e := hfa.symm.trans (gl T.n76)
    cases e
    rfl
  have no : ∀ x, x ∈ freeN → mg x = none := free_of X G T.nn
  obtain ⟨e14, E14⟩ := T.h14
  have r14 := E14.binds (ps := ["value"]) fun _ _ _ _ _ _ us hl => match us, hl with | [_], _ => rfl
  obtain ⟨e15, E15⟩ := T.h15
  have r15 := E15.binds (ps := ["value"]) fun _ _ _ _ _ _ us hl => match us, hl with | [_], _ => rfl
  obtain ⟨e20, E20⟩ := T.h20
  have r20 := E20.binds (ps := ["value", "depth", "shows"]) fun _ _ _ _ _ _ us hl => match us, hl with | [_, _, _], _ => rfl
  obtain ⟨e21, E21⟩ := T.h21
  have r21 := E21.binds (ps := ["part", "role", "depth", "shows"]) fun _ _ _ _ _ _ us hl => match us, hl with | [_, _, _, _], _ => rfl
  obtain ⟨e22, E22⟩ := T.h22
  have r22 := E22.binds (ps := ["code"]) fun _ _ _ _ _ _ us hl => match us, hl with | [_], _ => rfl
  obtain ⟨e23, E23⟩ := T.h23
  have r23 := E23.binds (ps := ["statement"]) fun _ _ _ _ _ _ us hl => match us, hl with | [_], _ => rfl
  obtain ⟨e24, E24⟩ := T.h24
  have r24 := E24.binds (ps := ["code", "role"]) fun _ _ _ _ _ _ us hl => match us, hl with | [_, _], _ => rfl
  obtain ⟨e25, E25⟩ := T.h25
  have r25 := E25.binds (ps := ["statement", "role"]) fun _ _ _ _ _ _ us hl => match us, hl with | [_, _], _ => rfl
  obtain ⟨e26, E26⟩ := T.h26
  have r26 := E26.binds (ps := ["code", "kind"]) fun _ _ _ _ _ _ us hl => match us, hl with | [_, _], _ => rfl
  obtain ⟨e27, E27⟩ := T.h27
  have r27 := E27.binds (ps := ["statement", "kind"]) fun _ _ _ _ _ _ us hl => match us, hl with | [_, _], _ => rfl
  obtain ⟨e28, E28⟩ := T.h28
  have r28 := E28.binds (ps := ["statement"]) fun _ _ _ _ _ _ us hl => match us, hl with | [_], _ => rfl
  obtain ⟨e37, E37⟩ := T.h37
  have r37 := E37.binds (ps := ["value"]) fun _ _ _ _ _ _ us hl => match us, hl with | [_], _ => rfl
  obtain ⟨e40, E40⟩ := T.h40
  have r40 := E40.binds (ps := ["code"]) fun _ _ _ _ _ _ us hl => match us, hl with | [_], _ => rfl
  obtain ⟨e41, E41⟩ := T.h41
  have r41 := E41.binds (ps := ["value"]) fun _ _ _ _ _ _ us hl => match us, hl with | [_], _ => rfl
  obtain ⟨e45, E45⟩ := T.h45
  have r45 := E45.binds (ps := ["value"]) fun _ _ _ _ _ _ us hl => match us, hl with | [_], _ => rfl
  obtain ⟨e47, E47⟩ := T.h47
  have r47 := E47.binds (ps := ["value"]) fun _ _ _ _ _ _ us hl => match us, hl with | [_], _ => rfl
  obtain ⟨e50, E50⟩ := T.h50
  have r50 := E50.binds (ps := ["code"]) fun _ _ _ _ _ _ us hl => match us, hl with | [_], _ => rfl
  obtain ⟨e51, E51⟩ := T.h51
  have r51 := E51.binds (ps := ["stretch"]) fun _ _ _ _ _ _ us hl => match us, hl with | [_], _ => rfl
  obtain ⟨e52, E52⟩ := T.h52
  have r52 := E52.binds (ps := ["text"]) fun _ _ _ _ _ _ us hl => match us, hl with | [_], _ => rfl
  obtain ⟨e53, E53⟩ := T.h53
  have r53 := E53.binds (ps := ["text"]) fun _ _ _ _ _ _ us hl => match us, hl with | [_], _ => rfl
  obtain ⟨e56, E56⟩ := T.h56
  have r56 := E56.binds (ps := ["reader", "text"]) fun _ _ _ _ _ _ us hl => match us, hl with | [_, _], _ => rfl
  obtain ⟨e57, E57⟩ := T.h57
  have r57 := E57.binds (ps := ["words"]) fun _ _ _ _ _ _ us hl => match us, hl with | [_], _ => rfl
  obtain ⟨e58, E58⟩ := T.h58
  have r58 := E58.binds (ps := ["code"]) fun _ _ _ _ _ _ us hl => match us, hl with | [_], _ => rfl
  obtain ⟨e59, E59⟩ := T.h59
  have r59 := E59.binds (ps := ["code"]) fun _ _ _ _ _ _ us hl => match us, hl with | [_], _ => rfl
  obtain ⟨e61, E61⟩ := T.h61
  have r61 := E61.binds (ps := ["_law_script", "_law_at"]) fun _ _ _ _ _ _ us hl => match us, hl with | [_, _], _ => rfl
  obtain ⟨e62, E62⟩ := T.h62
  have r62 := E62.binds (ps := ["_law_dice_here", "_law_total"]) fun _ _ _ _ _ _ us hl => match us, hl with | [_, _], _ => rfl
  obtain ⟨e63, E63⟩ := T.h63
  have r63 := E63.binds (ps := ["_law_dice_here", "_law_items"]) fun _ _ _ _ _ _ us hl => match us, hl with | [_, _], _ => rfl
  obtain ⟨e64, E64⟩ := T.h64
  have r64 := E64.binds (ps := ["_law_dice_here", "_law_items"]) fun _ _ _ _ _ _ us hl => match us, hl with | [_, _], _ => rfl
  obtain ⟨e65, E65⟩ := T.h65
  have r65 := E65.binds (ps := ["_law_dice_here", "_law_room", "_law_deep"]) fun _ _ _ _ _ _ us hl => match us, hl with | [_, _, _], _ => rfl
  obtain ⟨e66, E66⟩ := T.h66
  have r66 := E66.binds (ps := ["_law_dice_here", "_law_most", "_law_room", "_law_deep"]) fun _ _ _ _ _ _ us hl => match us, hl with | [_, _, _, _], _ => rfl
  obtain ⟨e67, E67⟩ := T.h67
  have r67 := E67.binds (ps := ["_law_dice_here", "_law_most", "_law_letters", "_law_tests"]) fun _ _ _ _ _ _ us hl => match us, hl with | [_, _, _, _], _ => rfl
  obtain ⟨e68, E68⟩ := T.h68
  have r68 := E68.binds (ps := ["_law_dice_here", "_law_code_here"]) fun _ _ _ _ _ _ us hl => match us, hl with | [_, _], _ => rfl
  obtain ⟨e69, E69⟩ := T.h69
  have r69 := E69.binds (ps := ["_law_dice_here", "_law_code_here", "_law_tests"]) fun _ _ _ _ _ _ us hl => match us, hl with | [_, _, _], _ => rfl
  obtain ⟨e70, E70⟩ := T.h70
  have r70 := E70.binds (ps := ["_law_code_here"]) fun _ _ _ _ _ _ us hl => match us, hl with | [_], _ => rfl
  obtain ⟨e71, E71⟩ := T.h71
  have r71 := E71.binds (ps := ["_law_dice_here", "_law_most", "_law_letters", "_law_tests"]) fun _ _ _ _ _ _ us hl => match us, hl with | [_, _, _, _], _ => rfl
  obtain ⟨e72, E72⟩ := T.h72
  have r72 := E72.binds (ps := ["_law_code_here"]) fun _ _ _ _ _ _ us hl => match us, hl with | [_], _ => rfl
  obtain ⟨e73, E73⟩ := T.h73
  have r73 := E73.binds (ps := ["_law_code_here"]) fun _ _ _ _ _ _ us hl => match us, hl with | [_], _ => rfl
  obtain ⟨e74, E74⟩ := T.h74
  have r74 := E74.binds (ps := ["_law_code_here", "_law_keeps"]) fun _ _ _ _ _ _ us hl => match us, hl with | [_, _], _ => rfl
  obtain ⟨e75, E75⟩ := T.h75
  have r75 := E75.binds (ps := ["_law_dice_here"]) fun _ _ _ _ _ _ us hl => match us, hl with | [_], _ => rfl
  obtain ⟨e76, E76⟩ := T.h76
  have r76 := E76.binds (ps := ["_law_script"]) fun _ _ _ _ _ _ us hl => match us, hl with | [_], _ => rfl
  obtain ⟨dC, FC⟩ := T.pcF
  have bC := FC.binds (ps := ["self"]) fun _ _ _ _ _ _ us hl => match us, hl with | [_], _ => rfl
  obtain ⟨dK, FK⟩ := T.pkF
  have bK := FK.binds (ps := ["self"]) fun _ _ _ _ _ _ us hl => match us, hl with | [_], _ => rfl
  obtain ⟨dEq, FEq⟩ := T.eqF
  have bEq := FEq.binds (ps := ["self", "other"]) fun _ _ _ _ _ _ us hl => match us, hl with | [_, _], _ => rfl
  obtain ⟨dr0, Fr0⟩ := T.rf0
  have br0 := Fr0.binds (ps := ["self", "shows"]) fun _ _ _ _ _ _ us hl => match us, hl with | [_, _], _ => rfl
  obtain ⟨dr1, Fr1⟩ := T.rf1
  have br1 := Fr1.binds (ps := ["self", "line"]) fun _ _ _ _ _ _ us hl => match us, hl with | [_, _], _ => rfl
  obtain ⟨dr2, Fr2⟩ := T.rf2
  have br2 := Fr2.binds (ps := ["self", "words"]) fun _ _ _ _ _ _ us hl => match us, hl with | [_, _], _ => rfl
  obtain ⟨dr3, Fr3⟩ := T.rf3
  have br3 := Fr3.binds (ps := ["self"]) fun _ _ _ _ _ _ us hl => match us, hl with | [_], _ => rfl
  obtain ⟨dr4, Fr4⟩ := T.rf4
  have br4 := Fr4.binds (ps := ["self"]) fun _ _ _ _ _ _ us hl => match us, hl with | [_], _ => rfl
  obtain ⟨dr5, Fr5⟩ := T.rf5
  have br5 := Fr5.binds (ps := ["self"]) fun _ _ _ _ _ _ us hl => match us, hl with | [_], _ => rfl
  obtain ⟨dr6, Fr6⟩ := T.rf6
  have br6 := Fr6.binds (ps := ["self"]) fun _ _ _ _ _ _ us hl => match us, hl with | [_], _ => rfl
  obtain ⟨ds0, Fs0⟩ := T.sf0
  have bs0 := Fs0.binds (ps := ["self"]) fun _ _ _ _ _ _ us hl => match us, hl with | [_], _ => rfl
  obtain ⟨ds1, Fs1⟩ := T.sf1
  have bs1 := Fs1.binds (ps := ["self", "line"]) fun _ _ _ _ _ _ us hl => match us, hl with | [_, _], _ => rfl
  obtain ⟨ds2, Fs2⟩ := T.sf2
  have bs2 := Fs2.binds (ps := ["self"]) fun _ _ _ _ _ _ us hl => match us, hl with | [_], _ => rfl
  obtain ⟨e19, E19⟩ := T.h19
  have r19 : Binds K e19 ["value", "depth", "shows"] [] := by
    obtain ⟨ds, hv, hb⟩ := E19.binds1 (ps := ["value", "depth", "shows"]) 3 1 (by simp) rfl fun T kV doc pm an cdv ct us its h1 h2 => match us, its, h1, h2 with
      | [_, _, _], [_], _, _ => ⟨_, rfl, rfl⟩
    cases hv
    exact hb
  have r19d : ∃ ds, Vals [V.bl false] ds ∧ Binds K e19 ["value", "depth", "shows"] ds := E19.binds1 (ps := ["value", "depth", "shows"]) 2 0 (by simp) rfl fun T kV doc pm an cdv ct us its h1 h2 => match us, its, h1, h2 with
    | [_, _], [_], _, _ => ⟨_, rfl, rfl⟩
  obtain ⟨d0, F0⟩ := T.m0
  obtain ⟨dS, FS⟩ := T.mS
  have b0 : Binds K d0 ["self", "why"] [] := by
    obtain ⟨ds, hv, hb⟩ := F0.binds1 (ps := ["self", "why"]) 2 1 (by simp) rfl fun T kV doc pm an cdv ct us its h1 h2 => match us, its, h1, h2 with
      | [_, _], [_], _, _ => ⟨_, rfl, rfl⟩
    cases hv
    exact hb
  have bS : Binds K dS ["self", "code", "keeps"] [] := by
    obtain ⟨ds, hv, hb⟩ := FS.binds1 (ps := ["self", "code", "keeps"]) 3 1 (by simp) rfl fun T kV doc pm an cdv ct us its h1 h2 => match us, its, h1, h2 with
      | [_, _, _], [_], _, _ => ⟨_, rfl, rfl⟩
    cases hv
    exact hb
  have bS1 : ∃ ds, Vals [V.ref aS] ds ∧ Binds K dS ["self", "code", "keeps"] ds := FS.binds1 (ps := ["self", "code", "keeps"]) 2 0 (by simp) rfl fun T kV doc pm an cdv ct us its h1 h2 => match us, its, h1, h2 with
    | [_, _], [_], _, _ => ⟨_, rfl, rfl⟩
  have gi : ∀ {x : Str} {i : Int}, (∃ t, PySem.W.nsIn K mainGlobals x = some (some (.int i t))) → ∃ t, mg x = some (.int i t) := fun ⟨t, e⟩ => ⟨t, gl e⟩
  have TD : TxtD mg := ⟨no _ (by decide), no _ (by decide), no _ (by decide)⟩
  have TN : TxtN K mg := ⟨no _ (by decide), no _ (by decide), no _ (by decide), no _ (by decide), gi T.iMAX_LETTERS, by
    obtain ⟨t, e⟩ := T.lets
    exact ⟨t, gl e⟩, ⟨aW, gl T.words, fun H => tupB_ok T.wordsT H⟩⟩
  have TF : TxtF K w mg := by
    obtain ⟨es, n, kd⟩ := He.dicW_ok T.formsD
    exact ⟨no _ (by decide), no _ (by decide), gi T.iMAX_REGISTERS, ⟨dF, es, n, gl T.forms, kd, fun z hz => keysB_ok T.formsK hz, fun z rs hz => formsB_ok T.formsV hz⟩⟩
  have TS : TxtS mg := ⟨no _ (by decide), no _ (by decide), no _ (by decide), no _ (by decide), no _ (by decide)⟩
  have TB : TxtB mg := ⟨gi T.iMAX_STATEMENTS, gi T.iMAX_CELLS, gi T.iMAX_LETTERS_SENT, gi T.iMAX_SETS, gi T.iMAX_TESTS⟩
  have CF : CodeF K mg (g 19) (g 20) (g 21) (g 14) e19 e20 e21 e14 := ⟨E19, E20, E21, E14, gl T.n19, gl T.n20, gl T.n21, gl T.n14, r19, r19d, r20, r21, r14, TN⟩
  have DF : DiceF K mg (g 62) (g 63) e62 e63 := ⟨E62, E63, gl T.n62, gl T.n63, r62, r63, TD⟩
  have DC : DCodeF K mg (g 62) (g 63) (g 66) (g 65) e62 e63 e66 e65 := ⟨DF, E66, E65, gl T.n66, gl T.n65, r66, r65, no _ (by decide), no _ (by decide)⟩
  have FF : FlatF K mg (g 22) (g 23) (g 25) e22 e23 e25 := ⟨E22, E23, E25, gl T.n22, gl T.n23, gl T.n25, r22, r23, r25⟩
  have MF : MostF K mg (g 26) (g 27) (g 28) e26 e27 e28 := ⟨E26, E27, E28, gl T.n26, gl T.n27, gl T.n28, r26, r27, r28⟩
  obtain ⟨ST, MS⟩ := strB_ok (mg := mg) T.strOk
  have sc := T.strCk
  unfold strC at sc
  simp only [Bool.and_eq_true, decide_eq_true_eq] at sc
  obtain ⟨s1', s2', s3', s4', s5'⟩ := sc
  have SC : StrC K mg C fS aS dS := ⟨ST, MS, gl T.stretch, bS1, T.emp, s1', s2', s3', s4', s5'⟩
  obtain ⟨rc, rm, ra⟩ := clsB_ok T.rB
  obtain ⟨xc, xm, xa⟩ := clsB_ok T.sB
  have RC : RdC K CR := ⟨rc, ra _ (by decide), ra _ (by decide), ra _ (by decide)⟩
  have SR : SrC K CS := ⟨xc, xa _ (by decide), xa _ (by decide)⟩
  have mt : ∀ {D : Addr} {m : Str} {f : Addr}, PySem.W.findIn K (.ref D) m = some (some (.ref f)) → methB K f = true → Meth K D m f := fun e h => ⟨e, (methB_ok h).1, (methB_ok h).2⟩
  refine ⟨e76, fun s u => ?_, fun base KB GB hs => ?_⟩
  · obtain ⟨oc, od, kV, doc, pm, an, cv, ct, osl, rfl, lk, hcd⟩ := E76.ex
    exact .of_eq rfl
  · have G14 : FnOk l.prog w K mg base CX0 1 (g 14) e14 ["value"] spName := ok_isname E14 TN
    have GIC : FnOk l.prog w K mg base CX0 14 (g 37) e37 ["value"] spIsCode := ok_iscode E37 CF TF (gi T.iMAX_DEPTH)
    have GI0 : FnOk l.prog w K mg base CX0 1 f0 d0 ["self", "why"] (spI0 K "ValueError") := ok_iM F0 ⟨no _ (by decide), T.bV⟩
    have GB' : FnOk l.prog w K mg base CX0 10 (g 40) e40 ["code"] spBnd := ok_bounded E40 TF TS TB FF MF (gl T.n24) E24 r24
    have GK : FnOk l.prog w K mg base CX0 3 (g 41) e41 ["value"] spKept := ok_kept E41 TN TF (gl T.n14) E14 r14 (gl T.n15) E15 r15 (gi T.iMAX_KEPT)
    have GK0 : FnOk l.prog w K mg base CX0 3 (g 41) e41 ["value"] (spKept0 K) := ok_kept0 E41 TN TF (gl T.n14) E14 r14 (gl T.n15) E15 r15 (gi T.iMAX_KEPT)
    have GST : FnOk l.prog w K mg base CX0 2 (g 15) e15 ["value"] spSet := ok_isset E15 TN TF (gl T.n14) E14 r14
    have GS : FnOk l.prog w K mg base (L2.CX l.prog w) 15 fS dS ["self", "code", "keeps"] (spSI C c1) := ok_sinit FS ST T.k1 (gl T.kc1) GI0 b0 (gl T.n37) E37.kp r37 GIC (gl T.n40) E40.kp r40 GB' (gl T.n41) E41.kp r41 GK
    have GS0 : FnOk l.prog w K mg base (L2.CX l.prog w) 15 fS dS ["self", "code", "keeps"] (spSI0 K C c1) := ok_sinit0 FS ST T.k1 (gl T.kc1) GI0 b0 (gl T.n37) E37.kp r37 GIC (gl T.n40) E40.kp r40 GB' (gl T.n41) E41.kp r41 GK0
    have PC : PropM l.prog w K mg base C "code" 1 (getSp C "_code") := ⟨pC, fC, dC, T.pcP, by
      obtain ⟨oc, od, kV, doc, pm, an, cv, ct, osl, rfl, lk, hcd⟩ := FC.ex
      exact fn_getter (N := ["self"]) lk hcd ⟨rfl, rfl, rfl, by decide +kernel, rfl, by decide +kernel, by decide +kernel⟩ rfl rfl ST.cl ST.nc, bC⟩
    have PK : PropM l.prog w K mg base C "keeps" 1 (getSp C "_keeps") := ⟨pK, fK, dK, T.pkP, by
      obtain ⟨oc, od, kV, doc, pm, an, cv, ct, osl, rfl, lk, hcd⟩ := FK.ex
      exact fn_getter (N := ["self"]) lk hcd ⟨rfl, rfl, rfl, by decide +kernel, rfl, by decide +kernel, by decide +kernel⟩ rfl rfl ST.cl ST.nk, bK⟩
    have GEq : FnOk l.prog w K mg base CX0 1 fE dEq ["self", "other"] (spEqM K C) := ok_eqM FEq SC (no _ (by decide))
    have SF : StF l.prog w K mg base C c1 := {
      S := ⟨fS, aS, dS, SC, bS, GS, GS0⟩
      code := PC
      keeps := PK
      eq := ⟨fE, dEq, T.eqE, T.eqI, GEq, bEq⟩
      ne := T.ne
      obj := s4'
      notF := T.notF }
    have G45 : FnOk l.prog w K mg base CX0 14 (g 45) e45 ["value"] spThr := ok_thr E45 CF TF TS FF MF (gi T.iMAX_DEPTH) (gi T.iMAX_CODE) (gi T.iMAX_ON_PATH)
    have G59 : FnOk l.prog w K mg base CX0 15 (g 59) e59 ["code"] spChk := ok_chk E59 (gl T.n45) E45.kp r45 G45
    have G58 : FnOk l.prog w K mg base CX0 4 (g 58) e58 ["code"] (spLinesAt 4) := ok_lines E58 (gl T.n58) r58 4
    have G50 : FnOk l.prog w K mg base CX0 16 (g 50) e50 ["code"] spWrC := ok_wrc E50 (gl T.n59) E59.kp r59 G59 (gl T.n58) E58.kp r58 G58
    have G47 : FnOk l.prog w K mg base CX0 1 (g 47) e47 ["value"] (spChS C) := ok_chs E47 SC (no _ (by decide))
    have G51 : FnOk l.prog w K mg base CX0 5 (g 51) e51 ["stretch"] (spWrS K C) := ok_wrs (fS := fS) (aS := aS) (dS := dS) E51 ST (gl T.n47) E47.kp r47 G47 (gl T.n58) E58.kp r58 G58 PC PK
    have G57 : FnOk l.prog w K mg base CX0 2 (g 57) e57 ["words"] spStOf := ok_stof E57 TN TF (gi T.iMAX_SET_WORDS) (gl T.n14) E14.kp r14 G14
    have GR0 : FnOk l.prog w K mg base CX0 1 r0 dr0 ["self", "shows"] (spRIn CR) := ok_rin Fr0 RC
    have GR2 : FnOk l.prog w K mg base CX0 2 r2 dr2 ["self", "words"] (spTIf CR) := ok_takeIf Fr2 RC (no _ (by decide)) (gl T.n14) E14.kp r14 G14
    have GR3 : FnOk l.prog w K mg base CX0 1 r3 dr3 ["self"] (spTEl CR) := ok_takeElse Fr3 RC (no _ (by decide)) (no _ (by decide))
    have GR4 : FnOk l.prog w K mg base CX0 1 r4 dr4 ["self"] (spTEn CR) := ok_takeEnd Fr4 RC (no _ (by decide)) (no _ (by decide))
    have GR1 : FnOk l.prog w K mg base CX0 3 r1 dr1 ["self", "line"] (spTake CR) := ok_take Fr1 RC (mt T.re3 T.rb3) br3 GR3 (mt T.re4 T.rb4) br4 GR4 (mt T.re2 T.rb2) br2 GR2 (gl T.n57) E57.kp r57 G57
    have GR5 : FnOk l.prog w K mg base CX0 1 r5 dr5 ["self"] (spIsC CR) := ok_isc Fr5 RC
    have GR6 : FnOk l.prog w K mg base CX0 1 r6 dr6 ["self"] (spAllC CR) := ok_allc Fr6 RC (no _ (by decide))
    have GD : FnOk l.prog w K mg base CX0 4 (g 56) e56 ["reader", "text"] (spReadG (RG CR true) (Step true) (fun s : RSt => s.1 = [])) := ok_read (k := 2) E56 (rdg_code RC (mt T.re1 T.rb1) (mt T.re5 T.rb5)) (no _ (by decide)) (no _ (by decide)) (no _ (by decide)) br1 (take_g GR1) br5 ((isc_g GR5).mono (by decide))
    have G52 : FnOk l.prog w K mg base CX0 16 (g 52) e52 ["text"] spRdC := ok_rdc E52 RC rm (gl T.rg) br0 GR0 (gl T.n56) E56.kp r56 GD (mt T.re6 T.rb6) br6 GR6 (gl T.n59) E59.kp r59 G59
    have GX0 : FnOk l.prog w K mg base CX0 3 s0 ds0 ["self"] (spSIn CR CS) := ok_sin Fs0 SR rm (gl T.rg) br0 GR0
    have GX1 : FnOk l.prog w K mg base CX0 4 s1 ds1 ["self", "line"] (spTakeG (RdS CR CS) StpS) := ok_stk Fs1 SR RC (mt T.re1 T.rb1) br1 GR1 (no _ (by decide)) (gl T.n15) E15.kp r15 GST
    have GX2 : FnOk l.prog w K mg base CX0 2 s2 ds2 ["self"] (spIsG (RdS CR CS) (fun s : SSt => s.1 ≠ none ∧ s.2.1 = [])) := ok_sis Fs2 SR RC (mt T.re5 T.rb5) br5 GR5
    have GDS : FnOk l.prog w K mg base CX0 6 (g 56) e56 ["reader", "text"] (spReadG (RdS CR CS) StpS (fun s : SSt => s.1 ≠ none ∧ s.2.1 = [])) := ok_read (k := 4) E56 (rdg_str SR (mt T.se1 T.sb1) (mt T.se2 T.sb2)) (no _ (by decide)) (no _ (by decide)) (no _ (by decide)) bs1 (GX1.mono (by decide)) bs2 (GX2.mono (by decide))
    have G53 : FnOk l.prog w K mg base CX0 17 (g 53) e53 ["text"] (spRdS C) := ok_rds E53 SR RC xm (gl T.sg) bs0 GX0 (gl T.n56) E56.kp r56 GDS (mt T.re6 T.rb6) br6 GR6 MS (gl T.stretch) bS GS
    have G62 : FnOk l.prog w K mg base CX0 1 (g 62) e62 ["_law_dice_here", "_law_total"] spRoll := ok_roll E62 TD
    have G65 : FnOk l.prog w K mg base CX0 3 (g 65) e65 ["_law_dice_here", "_law_room", "_law_deep"] (spState 0) := ok_state E65 DF (gl T.n66) E66.kp r66 (ok_dcode DC 0)
    have G68 : FnOk l.prog w K mg base CX0 8 (g 68) e68 ["_law_dice_here", "_law_code_here"] spChgAny := any_chg (ok_chg E68 DF (gl T.n65) E65.kp r65 G65 (gl T.n68) r68)
    have G70 : FnOk l.prog w K mg base CX0 7 (g 70) e70 ["_law_code_here"] spIfsAny := any_ifs (ok_ifs E70 (no _ (by decide)) (gl T.n70) r70)
    have G69 : FnOk l.prog w K mg base CX0 9 (g 69) e69 ["_law_dice_here", "_law_code_here", "_law_tests"] spNear := ok_near E69 (no _ (by decide)) (gl T.n62) E62.kp r62 G62 (gl T.n68) E68.kp r68 G68 (gl T.n70) E70.kp r70 G70
    have G67 : FnOk l.prog w K mg base CX0 9 (g 67) e67 ["_law_dice_here", "_law_most", "_law_letters", "_law_tests"] spStretch := ok_stretch E67 DC E64 (gl T.n64) r64 (no _ (by decide)) (no _ (by decide))
    have G71 : FnOk l.prog w K mg base CX0 9 (g 71) e71 ["_law_dice_here", "_law_most", "_law_letters", "_law_tests"] spThread := ok_thread E71 DC (no _ (by decide))
    have G72 : FnOk l.prog w K mg base CX0 4 (g 72) e72 ["_law_code_here"] (spLinesAt 4) := ok_writ E72 (no _ (by decide)) (gl T.n72) r72 4
    have G73 : FnOk l.prog w K mg base CX0 17 (g 73) e73 ["_law_code_here"] spCR := ok_cr E73 (gl T.n72) E72.kp r72 G72 (gl T.n50) E50.kp r50 G50 (gl T.n52) E52.kp r52 G52
    have G74 : FnOk l.prog w K mg base CX0 18 (g 74) e74 ["_law_code_here", "_law_keeps"] spSR := ok_sr E74 SF (no _ (by decide)) (gl T.n72) E72.kp r72 G72 (gl T.n51) E51.kp r51 G51 (gl T.n53) E53.kp r53 G53
    have LL : Law60 l.prog w K mg base C c1 := {
      ST := SF
      roll := ⟨g 62, e62, gl T.n62, E62.kp, r62, G62⟩
      thread := ⟨g 71, e71, gl T.n71, E71.kp, r71, G71⟩
      near := ⟨g 69, e69, gl T.n69, E69.kp, r69, G69⟩
      stretch := ⟨g 67, e67, gl T.n67, E67.kp, r67, G67⟩
      cr := ⟨g 73, e73, gl T.n73, E73.kp, r73, G73⟩
      sr := ⟨g 74, e74, gl T.n74, E74.kp, r74, G74⟩
      wc := ⟨g 50, e50, gl T.n50, E50.kp, r50, G50⟩
      rc := ⟨g 52, e52, gl T.n52, E52.kp, r52, G52⟩
      ws := ⟨g 51, e51, gl T.n51, E51.kp, r51, G51⟩
      rs := ⟨g 53, e53, gl T.n53, E53.kp, r53, G53⟩ }
    exact ok_law60 E76 {
      L := LL
      dice := ⟨g 61, e61, gl T.n61, E61.kp, r61, ok_dice E61 TD⟩
      right := ⟨g 75, e75, gl T.n75, E75.kp, r75, ok_rt60 E75 LL⟩
      max := no _ (by decide)
      min := no _ (by decide)
      len := no _ (by decide)
      rng := no _ (by decide) }
end OM

namespace OM
open PySem PySem.Spec PyProof.Rows L2
theorem fn_mk3 {K : PySem.W.Frag} {x qual : Str} {st : Stmt} {f : Addr} {oc : Value} {od an : Option Addr} {osl : Array (Option Value)} {kV doc pm cdv ct : Value}
    (l : K.lookup f = some ⟨oc, od, .func (PySem.W.fnOf x qual (defArgs st) (defBody st) (defScope st) .none kV doc pm an cdv ct), osl⟩) (c : PySem.W.codeIn K cdv qual = true) (k : PySem.W.keepIn K (.ref f) = true) : HasFn K x qual st f := ⟨_, fun_mk l c k⟩
theorem m_mk3 {K : PySem.W.Frag} {f T : Addr} {oc tc : Value} {od an td : Option Addr} {osl tsl : Array (Option Value)} {kV doc pm cdv ct : Value} {tk : Tok} {n : Nat}
    (l : K.lookup f = some ⟨oc, od, .func (PySem.W.fnOf "__init__" "MoveError.__init__" (defArgs sMI) (defBody sMI) (defScope sMI) (.ref T) kV doc pm an cdv ct), osl⟩) (c : PySem.W.codeIn K cdv "MoveError.__init__" = true)
    (k : PySem.W.keepIn K (.ref f) = true) (lt : K.lookup T = some ⟨tc, td, .seq #[.str "" tk] n, tsl⟩) : HasM K f :=
  ⟨_, ⟨⟨_, _, _, _, _, _, _, _, _, _, rfl, l, c, .inr ⟨fun z => (nomatch z), T, _, [.str "" tk], n, rfl, lt, rfl, .cons ⟨tk, rfl⟩ .nil⟩, .inl rfl⟩, k⟩⟩
theorem n_mk3 {K : PySem.W.Frag} {f T : Addr} {oc tc : Value} {od an td : Option Addr} {osl tsl : Array (Option Value)} {kV doc pm cdv ct : Value} {n : Nat}
    (l : K.lookup f = some ⟨oc, od, .func (PySem.W.fnOf "is_nested_code" "is_nested_code" (defArgs sNested) (defBody sNested) (defScope sNested) (.ref T) kV doc pm an cdv ct), osl⟩) (c : PySem.W.codeIn K cdv "is_nested_code" = true)
    (k : PySem.W.keepIn K (.ref f) = true) (lt : K.lookup T = some ⟨tc, td, .seq #[.bool false] n, tsl⟩) : HasN K f :=
  ⟨_, ⟨⟨_, _, _, _, _, _, _, _, _, _, rfl, l, c, .inr ⟨fun z => (nomatch z), T, _, [.bool false], n, rfl, lt, rfl, .cons rfl .nil⟩, .inl rfl⟩, k⟩⟩
theorem s_mk5 {K : PySem.W.Frag} {f T a : Addr} {oc tc : Value} {od an td : Option Addr} {osl tsl : Array (Option Value)} {kV doc pm cdv ct : Value} {n : Nat}
    (l : K.lookup f = some ⟨oc, od, .func (PySem.W.fnOf "__init__" "Stretch.__init__" (defArgs sSI) (defBody sSI) (defScope sSI) (.ref T) kV doc pm an cdv ct), osl⟩) (c : PySem.W.codeIn K cdv "Stretch.__init__" = true)
    (k : PySem.W.keepIn K (.ref f) = true) (lt : K.lookup T = some ⟨tc, td, .seq #[.ref a] n, tsl⟩) : HasS K f a :=
  ⟨_, ⟨⟨_, _, _, _, _, _, _, _, _, _, rfl, l, c, .inr ⟨fun z => (nomatch z), T, _, [.ref a], n, rfl, lt, rfl, .cons rfl .nil⟩, .inl rfl⟩, k⟩⟩
section
variable {K : PySem.W.Frag} {C fI : Addr} {B nI iI : String} {tail : List Value} {nq q : Str} {N : Addr} {bs bm : List Value} {sn : List Str} {sub : List Value} {ab : Bool} {col : Option Bool} {dd : Option Addr} {k0 k1 k2 k3 k5 : Option Value} {x y : Str}
theorem kc_mk3 (Y : BaseX B nI iI tail) (lk : K.lookup C = some (excClassObj nq q C N bs bm true sn sub ab col dd k0 k1 k2 k3 k5 nI)) (rt : refsT tail bm = true) (sa : PySem.W.findIn K (.ref C) "__setattr__" = some (some (.builtin "object.__setattr__")))
    (ex : PySem.W.subIn K (.ref C) (.type "BaseException") = some true) (ty : PySem.W.typeIn K (.ref C) = some (.type "type")) (kp : PySem.W.keepIn K (.ref C) = true) (ic : PySem.W.findIn K (.ref C) "__init__" = some (some (.ref fI)))
    (ti : PySem.W.typeIn K (.ref fI) = some (.type "function")) (hb : tail.contains (.type B) = true) : KCls K C fI B [] :=
  ⟨⟨tail, ⟨⟨⟨_, _, _, _, _, _, _, _, _, _, _, _, _, _, _, _, _, _, Y, lk, rt⟩, sa, ex, ty, kp⟩, ic, ti⟩, hb⟩, fun _ h => (nomatch h)⟩
end
theorem walk60 {l : PySem.W.OpenLaw} {q : Program} {loose : List Str} {XP : (Str → Option Value) → Heap → Prop} {YP : World → Heap → Prop} {d : DefRec} {K : Params → PySem.W.Frag} (hn : l.most = some 63) (hdf : d.params.defaults = []) (hi : importsNone q = true) (hd : d.name = "law")
    (hY : ∀ (w : World) (h : Heap), YP w h → (K w.params).In h) (T : ∀ w : World, ∃ g c1 f0 fS aS C pC fC pK fK fE dF aW CR r0 r1 r2 r3 r4 r5 r6 CS s0 s1 s2, Top60 (K w.params) w g c1 f0 fS aS C pC fC pK fK fE dF aW CR r0 r1 r2 r3 r4 r5 r6 CS s0 s1 s2) : PySem.W.WalkO q loose XP YP l.row.toRowW d [] (fun f vs => PySem.call f vs) :=
  walkG (n := 63) (k := 20) (x := "_law_script") (sp := spLaw60) hn (by decide) hdf hi ⟨rfl, by decide, by decide⟩ hY (fun w mg fa h KX G hmg => by
    obtain ⟨g, c1, f0, fS, aS, C, pC, fC, pK, fK, fE, dF, aW, CR, r0, r1, r2, r3, r4, r5, r6, CS, s0, s1, s2, t⟩ := T w
    rw [hd] at hmg
    exact all_mk60 KX G hmg t) fun K H a ns hl hS => ⟨a, ns, rfl, hl, hS, fun _ => rfl⟩
theorem top_mk60 {K : PySem.W.Frag} {w : World} {g14 g15 g19 g20 g21 g22 g23 g24 g25 g26 g27 g28 g37 g40 g41 g45 g47 g50 g51 g52 g53 g56 g57 g58 g59 g61 g62 g63 g64 g65 g66 g67 g68 g69 g70 g71 g72 g73 g74 g75 g76 c1 f0 fS aS C pC fC pK fK fE dF aW CR r0 r1 r2 r3 r4 r5 r6 CS s0 s1 s2 : Addr} {t_iMAX_LETTERS t_iMAX_REGISTERS t_iMAX_DEPTH t_iMAX_KEPT t_iMAX_STATEMENTS t_iMAX_CELLS t_iMAX_LETTERS_SENT t_iMAX_SETS t_iMAX_TESTS t_iMAX_CODE t_iMAX_ON_PATH t_iMAX_SET_WORDS t_lets : Tok}
    (a_kc1 : PySem.W.nsIn K mainGlobals "InvalidStretch" = some (some (.ref c1)))
    (a_iMAX_LETTERS : PySem.W.nsIn K mainGlobals "MAX_LETTERS" = some (some (.int 8 t_iMAX_LETTERS)))
    (a_iMAX_REGISTERS : PySem.W.nsIn K mainGlobals "MAX_REGISTERS" = some (some (.int 2 t_iMAX_REGISTERS)))
    (a_iMAX_DEPTH : PySem.W.nsIn K mainGlobals "MAX_DEPTH" = some (some (.int 3 t_iMAX_DEPTH)))
    (a_iMAX_KEPT : PySem.W.nsIn K mainGlobals "MAX_KEPT" = some (some (.int 4 t_iMAX_KEPT)))
    (a_iMAX_STATEMENTS : PySem.W.nsIn K mainGlobals "MAX_STATEMENTS" = some (some (.int 24 t_iMAX_STATEMENTS)))
    (a_iMAX_CELLS : PySem.W.nsIn K mainGlobals "MAX_CELLS" = some (some (.int 4 t_iMAX_CELLS)))
    (a_iMAX_LETTERS_SENT : PySem.W.nsIn K mainGlobals "MAX_LETTERS_SENT" = some (some (.int 6 t_iMAX_LETTERS_SENT)))
    (a_iMAX_SETS : PySem.W.nsIn K mainGlobals "MAX_SETS" = some (some (.int 6 t_iMAX_SETS)))
    (a_iMAX_TESTS : PySem.W.nsIn K mainGlobals "MAX_TESTS" = some (some (.int 3 t_iMAX_TESTS)))
    (a_iMAX_CODE : PySem.W.nsIn K mainGlobals "MAX_CODE" = some (some (.int 60 t_iMAX_CODE)))
    (a_iMAX_ON_PATH : PySem.W.nsIn K mainGlobals "MAX_ON_PATH" = some (some (.int 6 t_iMAX_ON_PATH)))
    (a_iMAX_SET_WORDS : PySem.W.nsIn K mainGlobals "MAX_SET_WORDS" = some (some (.int 5 t_iMAX_SET_WORDS)))
    (a_lets : PySem.W.nsIn K mainGlobals "LETTERS" = some (some (.str alphabet t_lets)))
    (a_words : PySem.W.nsIn K mainGlobals "WORDS" = some (some (.ref aW)))
    (a_wordsT : tupB K aW words6 = true)
    (a_forms : PySem.W.nsIn K mainGlobals "FORMS" = some (some (.ref dF)))
    (a_formsD : He.dicW K dF = some (He.keysIn w.params names8))
    (a_formsK : keysB K dF = true)
    (a_formsV : formsB K dF = true)
    (a_stretch : PySem.W.nsIn K mainGlobals "Stretch" = some (some (.ref C)))
    (a_inS : PySem.W.findIn K (.ref C) "__init__" = some (some (.ref fS)))
    (a_k1 : KCls K c1 f0 "ValueError" [])
    (a_m0 : HasM K f0)
    (a_mS : HasS K fS aS)
    (a_emp : Emp K aS)
    (a_strOk : strB K C fS = true)
    (a_strCk : strC K C = true)
    (a_pcE : PySem.W.findIn K (.ref C) "code" = some (some (.ref pC)))
    (a_pcP : PropOf K C "code" pC fC)
    (a_pcF : HasFn K "code" "Stretch.code" (inStK 38 1) fC)
    (a_pkE : PySem.W.findIn K (.ref C) "keeps" = some (some (.ref pK)))
    (a_pkP : PropOf K C "keeps" pK fK)
    (a_pkF : HasFn K "keeps" "Stretch.keeps" (inStK 38 2) fK)
    (a_eqE : PySem.W.findIn K (.ref C) "__eq__" = some (some (.ref fE)))
    (a_eqF : HasFn K "__eq__" "Stretch.__eq__" sEqM fE)
    (a_eqI : PySem.W.isFn K (.ref fE) = true)
    (a_ne : PySem.W.findIn K (.ref C) "__ne__" = some (some (.builtin "object.__ne__")))
    (a_notF : PySem.W.notFirst K C (.ref C) = true)
    (a_bV : PySem.W.findCls K (.type "ValueError") (.type "type") "__init__" = some (.val (.builtin "ValueError.__init__")))
    (a_rg : PySem.W.nsIn K mainGlobals "CodeReader" = some (some (.ref CR)))
    (a_ri : PySem.W.findIn K (.ref CR) "__init__" = some (some (.ref r0)))
    (a_rB : clsB K CR r0 ["shows", "opened", "rows"] = true)
    (a_rf0 : HasFn K "__init__" "CodeReader.__init__" sRIn r0)
    (a_re1 : PySem.W.findIn K (.ref CR) "take" = some (some (.ref r1)))
    (a_rb1 : methB K r1 = true)
    (a_rf1 : HasFn K "take" "CodeReader.take" sTake r1)
    (a_re2 : PySem.W.findIn K (.ref CR) "take_if" = some (some (.ref r2)))
    (a_rb2 : methB K r2 = true)
    (a_rf2 : HasFn K "take_if" "CodeReader.take_if" sTIf r2)
    (a_re3 : PySem.W.findIn K (.ref CR) "take_else" = some (some (.ref r3)))
    (a_rb3 : methB K r3 = true)
    (a_rf3 : HasFn K "take_else" "CodeReader.take_else" sTEl r3)
    (a_re4 : PySem.W.findIn K (.ref CR) "take_end" = some (some (.ref r4)))
    (a_rb4 : methB K r4 = true)
    (a_rf4 : HasFn K "take_end" "CodeReader.take_end" sTEn r4)
    (a_re5 : PySem.W.findIn K (.ref CR) "is_complete" = some (some (.ref r5)))
    (a_rb5 : methB K r5 = true)
    (a_rf5 : HasFn K "is_complete" "CodeReader.is_complete" sIsC r5)
    (a_re6 : PySem.W.findIn K (.ref CR) "all_code" = some (some (.ref r6)))
    (a_rb6 : methB K r6 = true)
    (a_rf6 : HasFn K "all_code" "CodeReader.all_code" sAllC r6)
    (a_sg : PySem.W.nsIn K mainGlobals "StretchReader" = some (some (.ref CS)))
    (a_si : PySem.W.findIn K (.ref CS) "__init__" = some (some (.ref s0)))
    (a_sB : clsB K CS s0 ["names_told", "body"] = true)
    (a_sf0 : HasFn K "__init__" "StretchReader.__init__" sSIn s0)
    (a_se1 : PySem.W.findIn K (.ref CS) "take" = some (some (.ref s1)))
    (a_sb1 : methB K s1 = true)
    (a_sf1 : HasFn K "take" "StretchReader.take" sSTk s1)
    (a_se2 : PySem.W.findIn K (.ref CS) "is_complete" = some (some (.ref s2)))
    (a_sb2 : methB K s2 = true)
    (a_sf2 : HasFn K "is_complete" "StretchReader.is_complete" sSIs s2)
    (a_nn : freeB K = true)
    (a_n19 : PySem.W.nsIn K mainGlobals "is_nested_code" = some (some (.ref g19)))
    (a_h19 : HasN K g19)
    (a_n14 : PySem.W.nsIn K mainGlobals "is_name" = some (some (.ref g14)))
    (a_h14 : HasFn K "is_name" "is_name" (top 14) g14)
    (a_n15 : PySem.W.nsIn K mainGlobals "is_set" = some (some (.ref g15)))
    (a_h15 : HasFn K "is_set" "is_set" (top 15) g15)
    (a_n20 : PySem.W.nsIn K mainGlobals "_is_statement" = some (some (.ref g20)))
    (a_h20 : HasFn K "_is_statement" "_is_statement" (top 20) g20)
    (a_n21 : PySem.W.nsIn K mainGlobals "_fits" = some (some (.ref g21)))
    (a_h21 : HasFn K "_fits" "_fits" (top 21) g21)
    (a_n22 : PySem.W.nsIn K mainGlobals "flattened" = some (some (.ref g22)))
    (a_h22 : HasFn K "flattened" "flattened" (top 22) g22)
    (a_n23 : PySem.W.nsIn K mainGlobals "codes_in" = some (some (.ref g23)))
    (a_h23 : HasFn K "codes_in" "codes_in" (top 23) g23)
    (a_n24 : PySem.W.nsIn K mainGlobals "names_in" = some (some (.ref g24)))
    (a_h24 : HasFn K "names_in" "names_in" (top 24) g24)
    (a_n25 : PySem.W.nsIn K mainGlobals "_names_of" = some (some (.ref g25)))
    (a_h25 : HasFn K "_names_of" "_names_of" (top 25) g25)
    (a_n26 : PySem.W.nsIn K mainGlobals "most_on_path" = some (some (.ref g26)))
    (a_h26 : HasFn K "most_on_path" "most_on_path" (top 26) g26)
    (a_n27 : PySem.W.nsIn K mainGlobals "_most_at" = some (some (.ref g27)))
    (a_h27 : HasFn K "_most_at" "_most_at" (top 27) g27)
    (a_n28 : PySem.W.nsIn K mainGlobals "_path_kind" = some (some (.ref g28)))
    (a_h28 : HasFn K "_path_kind" "_path_kind" (top 28) g28)
    (a_n37 : PySem.W.nsIn K mainGlobals "is_code" = some (some (.ref g37)))
    (a_h37 : HasFn K "is_code" "is_code" (top 37) g37)
    (a_n40 : PySem.W.nsIn K mainGlobals "is_bounded" = some (some (.ref g40)))
    (a_h40 : HasFn K "is_bounded" "is_bounded" (top 40) g40)
    (a_n41 : PySem.W.nsIn K mainGlobals "is_kept" = some (some (.ref g41)))
    (a_h41 : HasFn K "is_kept" "is_kept" (top 41) g41)
    (a_n45 : PySem.W.nsIn K mainGlobals "is_thread_code" = some (some (.ref g45)))
    (a_h45 : HasFn K "is_thread_code" "is_thread_code" (top 45) g45)
    (a_n47 : PySem.W.nsIn K mainGlobals "check_stretch" = some (some (.ref g47)))
    (a_h47 : HasFn K "check_stretch" "check_stretch" (top 47) g47)
    (a_n50 : PySem.W.nsIn K mainGlobals "write_code" = some (some (.ref g50)))
    (a_h50 : HasFn K "write_code" "write_code" (top 50) g50)
    (a_n51 : PySem.W.nsIn K mainGlobals "write_stretch" = some (some (.ref g51)))
    (a_h51 : HasFn K "write_stretch" "write_stretch" (top 51) g51)
    (a_n52 : PySem.W.nsIn K mainGlobals "read_code" = some (some (.ref g52)))
    (a_h52 : HasFn K "read_code" "read_code" (top 52) g52)
    (a_n53 : PySem.W.nsIn K mainGlobals "read_stretch" = some (some (.ref g53)))
    (a_h53 : HasFn K "read_stretch" "read_stretch" (top 53) g53)
    (a_n56 : PySem.W.nsIn K mainGlobals "_read" = some (some (.ref g56)))
    (a_h56 : HasFn K "_read" "_read" (top 56) g56)
    (a_n57 : PySem.W.nsIn K mainGlobals "_statement_of" = some (some (.ref g57)))
    (a_h57 : HasFn K "_statement_of" "_statement_of" (top 57) g57)
    (a_n58 : PySem.W.nsIn K mainGlobals "_lines_of" = some (some (.ref g58)))
    (a_h58 : HasFn K "_lines_of" "_lines_of" (top 58) g58)
    (a_n59 : PySem.W.nsIn K mainGlobals "_check_code" = some (some (.ref g59)))
    (a_h59 : HasFn K "_check_code" "_check_code" (top 59) g59)
    (a_n61 : PySem.W.nsIn K mainGlobals "_law_dice" = some (some (.ref g61)))
    (a_h61 : HasFn K "_law_dice" "_law_dice" (top 61) g61)
    (a_n62 : PySem.W.nsIn K mainGlobals "_law_roll" = some (some (.ref g62)))
    (a_h62 : HasFn K "_law_roll" "_law_roll" (top 62) g62)
    (a_n63 : PySem.W.nsIn K mainGlobals "_law_one_of" = some (some (.ref g63)))
    (a_h63 : HasFn K "_law_one_of" "_law_one_of" (top 63) g63)
    (a_n64 : PySem.W.nsIn K mainGlobals "_law_mixed" = some (some (.ref g64)))
    (a_h64 : HasFn K "_law_mixed" "_law_mixed" (top 64) g64)
    (a_n65 : PySem.W.nsIn K mainGlobals "_law_statement" = some (some (.ref g65)))
    (a_h65 : HasFn K "_law_statement" "_law_statement" (top 65) g65)
    (a_n66 : PySem.W.nsIn K mainGlobals "_law_code" = some (some (.ref g66)))
    (a_h66 : HasFn K "_law_code" "_law_code" (top 66) g66)
    (a_n67 : PySem.W.nsIn K mainGlobals "_law_stretch" = some (some (.ref g67)))
    (a_h67 : HasFn K "_law_stretch" "_law_stretch" (top 67) g67)
    (a_n68 : PySem.W.nsIn K mainGlobals "_law_changed" = some (some (.ref g68)))
    (a_h68 : HasFn K "_law_changed" "_law_changed" (top 68) g68)
    (a_n69 : PySem.W.nsIn K mainGlobals "_law_near" = some (some (.ref g69)))
    (a_h69 : HasFn K "_law_near" "_law_near" (top 69) g69)
    (a_n70 : PySem.W.nsIn K mainGlobals "_law_ifs" = some (some (.ref g70)))
    (a_h70 : HasFn K "_law_ifs" "_law_ifs" (top 70) g70)
    (a_n71 : PySem.W.nsIn K mainGlobals "_law_thread" = some (some (.ref g71)))
    (a_h71 : HasFn K "_law_thread" "_law_thread" (top 71) g71)
    (a_n72 : PySem.W.nsIn K mainGlobals "_law_written" = some (some (.ref g72)))
    (a_h72 : HasFn K "_law_written" "_law_written" (top 72) g72)
    (a_n73 : PySem.W.nsIn K mainGlobals "_law_code_right" = some (some (.ref g73)))
    (a_h73 : HasFn K "_law_code_right" "_law_code_right" (top 73) g73)
    (a_n74 : PySem.W.nsIn K mainGlobals "_law_stretch_right" = some (some (.ref g74)))
    (a_h74 : HasFn K "_law_stretch_right" "_law_stretch_right" (top 74) g74)
    (a_n75 : PySem.W.nsIn K mainGlobals "_law_right" = some (some (.ref g75)))
    (a_h75 : HasFn K "_law_right" "_law_right" (top 75) g75)
    (a_n76 : PySem.W.nsIn K mainGlobals "law" = some (some (.ref g76)))
    (a_h76 : HasFn K "law" "law" (top 76) g76) :
    Top60 K w (fun i => [0, 0, 0, 0, 0, 0, 0, 0, 0, 0, 0, 0, 0, 0, g14, g15, 0, 0, 0, g19, g20, g21, g22, g23, g24, g25, g26, g27, g28, 0, 0, 0, 0, 0, 0, 0, 0, g37, 0, 0, g40, g41, 0, 0, 0, g45, 0, g47, 0, 0, g50, g51, g52, g53, 0, 0, g56, g57, g58, g59, 0, g61, g62, g63, g64, g65, g66, g67, g68, g69, g70, g71, g72, g73, g74, g75, g76].getD i 0) c1 f0 fS aS C pC fC pK fK fE dF aW CR r0 r1 r2 r3 r4 r5 r6 CS s0 s1 s2 where
  kc1 := a_kc1
  iMAX_LETTERS := ⟨_, a_iMAX_LETTERS⟩
  iMAX_REGISTERS := ⟨_, a_iMAX_REGISTERS⟩
  iMAX_DEPTH := ⟨_, a_iMAX_DEPTH⟩
  iMAX_KEPT := ⟨_, a_iMAX_KEPT⟩
  iMAX_STATEMENTS := ⟨_, a_iMAX_STATEMENTS⟩
  iMAX_CELLS := ⟨_, a_iMAX_CELLS⟩
  iMAX_LETTERS_SENT := ⟨_, a_iMAX_LETTERS_SENT⟩
  iMAX_SETS := ⟨_, a_iMAX_SETS⟩
  iMAX_TESTS := ⟨_, a_iMAX_TESTS⟩
  iMAX_CODE := ⟨_, a_iMAX_CODE⟩
  iMAX_ON_PATH := ⟨_, a_iMAX_ON_PATH⟩
  iMAX_SET_WORDS := ⟨_, a_iMAX_SET_WORDS⟩
  lets := ⟨_, a_lets⟩
  words := a_words
  wordsT := a_wordsT
  forms := a_forms
  formsD := a_formsD
  formsK := a_formsK
  formsV := a_formsV
  stretch := a_stretch
  inS := a_inS
  k1 := a_k1
  m0 := a_m0
  mS := a_mS
  emp := a_emp
  strOk := a_strOk
  strCk := a_strCk
  pcE := a_pcE
  pcP := a_pcP
  pcF := a_pcF
  pkE := a_pkE
  pkP := a_pkP
  pkF := a_pkF
  eqE := a_eqE
  eqF := a_eqF
  eqI := a_eqI
  ne := a_ne
  notF := a_notF
  bV := a_bV
  rg := a_rg
  ri := a_ri
  rB := a_rB
  rf0 := a_rf0
  re1 := a_re1
  rb1 := a_rb1
  rf1 := a_rf1
  re2 := a_re2
  rb2 := a_rb2
  rf2 := a_rf2
  re3 := a_re3
  rb3 := a_rb3
  rf3 := a_rf3
  re4 := a_re4
  rb4 := a_rb4
  rf4 := a_rf4
  re5 := a_re5
  rb5 := a_rb5
  rf5 := a_rf5
  re6 := a_re6
  rb6 := a_rb6
  rf6 := a_rf6
  sg := a_sg
  si := a_si
  sB := a_sB
  sf0 := a_sf0
  se1 := a_se1
  sb1 := a_sb1
  sf1 := a_sf1
  se2 := a_se2
  sb2 := a_sb2
  sf2 := a_sf2
  nn := a_nn
  n19 := a_n19
  h19 := a_h19
  n14 := a_n14
  h14 := a_h14
  n15 := a_n15
  h15 := a_h15
  n20 := a_n20
  h20 := a_h20
  n21 := a_n21
  h21 := a_h21
  n22 := a_n22
  h22 := a_h22
  n23 := a_n23
  h23 := a_h23
  n24 := a_n24
  h24 := a_h24
  n25 := a_n25
  h25 := a_h25
  n26 := a_n26
  h26 := a_h26
  n27 := a_n27
  h27 := a_h27
  n28 := a_n28
  h28 := a_h28
  n37 := a_n37
  h37 := a_h37
  n40 := a_n40
  h40 := a_h40
  n41 := a_n41
  h41 := a_h41
  n45 := a_n45
  h45 := a_h45
  n47 := a_n47
  h47 := a_h47
  n50 := a_n50
  h50 := a_h50
  n51 := a_n51
  h51 := a_h51
  n52 := a_n52
  h52 := a_h52
  n53 := a_n53
  h53 := a_h53
  n56 := a_n56
  h56 := a_h56
  n57 := a_n57
  h57 := a_h57
  n58 := a_n58
  h58 := a_h58
  n59 := a_n59
  h59 := a_h59
  n61 := a_n61
  h61 := a_h61
  n62 := a_n62
  h62 := a_h62
  n63 := a_n63
  h63 := a_h63
  n64 := a_n64
  h64 := a_h64
  n65 := a_n65
  h65 := a_h65
  n66 := a_n66
  h66 := a_h66
  n67 := a_n67
  h67 := a_h67
  n68 := a_n68
  h68 := a_h68
  n69 := a_n69
  h69 := a_h69
  n70 := a_n70
  h70 := a_h70
  n71 := a_n71
  h71 := a_h71
  n72 := a_n72
  h72 := a_h72
  n73 := a_n73
  h73 := a_h73
  n74 := a_n74
  h74 := a_h74
  n75 := a_n75
  h75 := a_h75
  n76 := a_n76
  h76 := a_h76
end OM

open PySem PySem.W PyProof.Rows OM in
set_option maxRecDepth 100000 in
set_option maxHeartbeats 0 in
theorem PySem.Challenge.cw_orderlymoves_k60_texts_of_code_and_stret_holds : PySem.Challenge.rw_orderlymoves_k60_texts_of_code_and_stret.Holds := by
  w_on; o_law; k_head; (case hw => w_witness2)
  k_fill
  refine OM.walk60 (l := PySem.Challenge.rw_orderlymoves_k60_texts_of_code_and_stret) rfl rfl (by decide +kernel) rfl (fun w h Y => PySem.W.kIn_of Y) ?T
  case T =>
    intro w
    refine' ⟨_, _, _, _, _, _, _, _, _, _, _, _, _, _, _, _, _, _, _, _, _, _, _, _, _, OM.top_mk60 ?a_kc1 ?a_iMAX_LETTERS ?a_iMAX_REGISTERS ?a_iMAX_DEPTH ?a_iMAX_KEPT ?a_iMAX_STATEMENTS ?a_iMAX_CELLS ?a_iMAX_LETTERS_SENT ?a_iMAX_SETS ?a_iMAX_TESTS ?a_iMAX_CODE ?a_iMAX_ON_PATH ?a_iMAX_SET_WORDS ?a_lets ?a_words ?a_wordsT ?a_forms ?a_formsD ?a_formsK ?a_formsV ?a_stretch ?a_inS ?a_k1 ?a_m0 ?a_mS ?a_emp ?a_strOk ?a_strCk ?a_pcE ?a_pcP ?a_pcF ?a_pkE ?a_pkP ?a_pkF ?a_eqE ?a_eqF ?a_eqI ?a_ne ?a_notF ?a_bV ?a_rg ?a_ri ?a_rB ?a_rf0 ?a_re1 ?a_rb1 ?a_rf1 ?a_re2 ?a_rb2 ?a_rf2 ?a_re3 ?a_rb3 ?a_rf3 ?a_re4 ?a_rb4 ?a_rf4 ?a_re5 ?a_rb5 ?a_rf5 ?a_re6 ?a_rb6 ?a_rf6 ?a_sg ?a_si ?a_sB ?a_sf0 ?a_se1 ?a_sb1 ?a_sf1 ?a_se2 ?a_sb2 ?a_sf2 ?a_nn ?a_n19 ?a_h19 ?a_n14 ?a_h14 ?a_n15 ?a_h15 ?a_n20 ?a_h20 ?a_n21 ?a_h21 ?a_n22 ?a_h22 ?a_n23 ?a_h23 ?a_n24 ?a_h24 ?a_n25 ?a_h25 ?a_n26 ?a_h26 ?a_n27 ?a_h27 ?a_n28 ?a_h28 ?a_n37 ?a_h37 ?a_n40 ?a_h40 ?a_n41 ?a_h41 ?a_n45 ?a_h45 ?a_n47 ?a_h47 ?a_n50 ?a_h50 ?a_n51 ?a_h51 ?a_n52 ?a_h52 ?a_n53 ?a_h53 ?a_n56 ?a_h56 ?a_n57 ?a_h57 ?a_n58 ?a_h58 ?a_n59 ?a_h59 ?a_n61 ?a_h61 ?a_n62 ?a_h62 ?a_n63 ?a_h63 ?a_n64 ?a_h64 ?a_n65 ?a_h65 ?a_n66 ?a_h66 ?a_n67 ?a_h67 ?a_n68 ?a_h68 ?a_n69 ?a_h69 ?a_n70 ?a_h70 ?a_n71 ?a_h71 ?a_n72 ?a_h72 ?a_n73 ?a_h73 ?a_n74 ?a_h74 ?a_n75 ?a_h75 ?a_n76 ?a_h76⟩
    (case a_kc1 => (k_is))
    (case a_iMAX_LETTERS => (k_is))
    (case a_iMAX_REGISTERS => (k_is))
    (case a_iMAX_DEPTH => (k_is))
    (case a_iMAX_KEPT => (k_is))
    (case a_iMAX_STATEMENTS => (k_is))
    (case a_iMAX_CELLS => (k_is))
    (case a_iMAX_LETTERS_SENT => (k_is))
    (case a_iMAX_SETS => (k_is))
    (case a_iMAX_TESTS => (k_is))
    (case a_iMAX_CODE => (k_is))
    (case a_iMAX_ON_PATH => (k_is))
    (case a_iMAX_SET_WORDS => (k_is))
    (case a_lets => (k_is))
    (case a_words => (k_is))
    (case a_wordsT => (kernel_rfl))
    (case a_forms => (k_is))
    (case a_formsD => (kernel_rfl))
    (case a_formsK => (kernel_rfl))
    (case a_formsV => (kernel_rfl))
    (case a_stretch => (k_is))
    (case a_inS => (k_is))
    (case a_k1 => (apply OM.kc_mk3 OM.base_VE; k_is; kernel_rfl; k_is; k_is; k_is; k_is; k_is; k_is; decide +kernel))
    (case a_m0 => (apply OM.m_mk3; k_is; k_is; k_is; k_is))
    (case a_mS => (apply OM.s_mk5; k_is; k_is; k_is; k_is))
    (case a_emp => (apply OM.emp_mk; k_is))
    (case a_strOk => (kernel_rfl))
    (case a_strCk => (kernel_rfl))
    (case a_pcE => (k_is))
    (case a_pcP => (apply OM.prop_mk; k_is; k_is; rfl; kernel_rfl; kernel_rfl))
    (case a_pcF => (apply OM.fn_mk3; k_is; k_is; k_is))
    (case a_pkE => (k_is))
    (case a_pkP => (apply OM.prop_mk; k_is; k_is; rfl; kernel_rfl; kernel_rfl))
    (case a_pkF => (apply OM.fn_mk3; k_is; k_is; k_is))
    (case a_eqE => (k_is))
    (case a_eqF => (apply OM.fn_mk3; k_is; k_is; k_is))
    (case a_eqI => (kernel_rfl))
    (case a_ne => (k_is))
    (case a_notF => (kernel_rfl))
    (case a_bV => (k_is))
    (case a_rg => (k_is))
    (case a_ri => (k_is))
    (case a_rB => (kernel_rfl))
    (case a_rf0 => (apply OM.fn_mk3; k_is; k_is; k_is))
    (case a_re1 => (k_is))
    (case a_rb1 => (kernel_rfl))
    (case a_rf1 => (apply OM.fn_mk3; k_is; k_is; k_is))
    (case a_re2 => (k_is))
    (case a_rb2 => (kernel_rfl))
    (case a_rf2 => (apply OM.fn_mk3; k_is; k_is; k_is))
    (case a_re3 => (k_is))
    (case a_rb3 => (kernel_rfl))
    (case a_rf3 => (apply OM.fn_mk3; k_is; k_is; k_is))
    (case a_re4 => (k_is))
    (case a_rb4 => (kernel_rfl))
    (case a_rf4 => (apply OM.fn_mk3; k_is; k_is; k_is))
    (case a_re5 => (k_is))
    (case a_rb5 => (kernel_rfl))
    (case a_rf5 => (apply OM.fn_mk3; k_is; k_is; k_is))
    (case a_re6 => (k_is))
    (case a_rb6 => (kernel_rfl))
    (case a_rf6 => (apply OM.fn_mk3; k_is; k_is; k_is))
    (case a_sg => (k_is))
    (case a_si => (k_is))
    (case a_sB => (kernel_rfl))
    (case a_sf0 => (apply OM.fn_mk3; k_is; k_is; k_is))
    (case a_se1 => (k_is))
    (case a_sb1 => (kernel_rfl))
    (case a_sf1 => (apply OM.fn_mk3; k_is; k_is; k_is))
    (case a_se2 => (k_is))
    (case a_sb2 => (kernel_rfl))
    (case a_sf2 => (apply OM.fn_mk3; k_is; k_is; k_is))
    (case a_nn => (kernel_rfl))
    (case a_n19 => (k_is))
    (case a_h19 => (apply OM.n_mk3; k_is; k_is; k_is; k_is))
    (case a_n14 => (k_is))
    (case a_h14 => (apply OM.fn_mk3; k_is; k_is; k_is))
    (case a_n15 => (k_is))
    (case a_h15 => (apply OM.fn_mk3; k_is; k_is; k_is))
    (case a_n20 => (k_is))
    (case a_h20 => (apply OM.fn_mk3; k_is; k_is; k_is))
    (case a_n21 => (k_is))
    (case a_h21 => (apply OM.fn_mk3; k_is; k_is; k_is))
    (case a_n22 => (k_is))
    (case a_h22 => (apply OM.fn_mk3; k_is; k_is; k_is))
    (case a_n23 => (k_is))
    (case a_h23 => (apply OM.fn_mk3; k_is; k_is; k_is))
    (case a_n24 => (k_is))
    (case a_h24 => (apply OM.fn_mk3; k_is; k_is; k_is))
    (case a_n25 => (k_is))
    (case a_h25 => (apply OM.fn_mk3; k_is; k_is; k_is))
    (case a_n26 => (k_is))
    (case a_h26 => (apply OM.fn_mk3; k_is; k_is; k_is))
    (case a_n27 => (k_is))
    (case a_h27 => (apply OM.fn_mk3; k_is; k_is; k_is))
    (case a_n28 => (k_is))
    (case a_h28 => (apply OM.fn_mk3; k_is; k_is; k_is))
    (case a_n37 => (k_is))
    (case a_h37 => (apply OM.fn_mk3; k_is; k_is; k_is))
    (case a_n40 => (k_is))
    (case a_h40 => (apply OM.fn_mk3; k_is; k_is; k_is))
    (case a_n41 => (k_is))
    (case a_h41 => (apply OM.fn_mk3; k_is; k_is; k_is))
    (case a_n45 => (k_is))
    (case a_h45 => (apply OM.fn_mk3; k_is; k_is; k_is))
    (case a_n47 => (k_is))
    (case a_h47 => (apply OM.fn_mk3; k_is; k_is; k_is))
    (case a_n50 => (k_is))
    (case a_h50 => (apply OM.fn_mk3; k_is; k_is; k_is))
    (case a_n51 => (k_is))
    (case a_h51 => (apply OM.fn_mk3; k_is; k_is; k_is))
    (case a_n52 => (k_is))
    (case a_h52 => (apply OM.fn_mk3; k_is; k_is; k_is))
    (case a_n53 => (k_is))
    (case a_h53 => (apply OM.fn_mk3; k_is; k_is; k_is))
    (case a_n56 => (k_is))
    (case a_h56 => (apply OM.fn_mk3; k_is; k_is; k_is))
    (case a_n57 => (k_is))
    (case a_h57 => (apply OM.fn_mk3; k_is; k_is; k_is))
    (case a_n58 => (k_is))
    (case a_h58 => (apply OM.fn_mk3; k_is; k_is; k_is))
    (case a_n59 => (k_is))
    (case a_h59 => (apply OM.fn_mk3; k_is; k_is; k_is))
    (case a_n61 => (k_is))
    (case a_h61 => (apply OM.fn_mk3; k_is; k_is; k_is))
    (case a_n62 => (k_is))
    (case a_h62 => (apply OM.fn_mk3; k_is; k_is; k_is))
    (case a_n63 => (k_is))
    (case a_h63 => (apply OM.fn_mk3; k_is; k_is; k_is))
    (case a_n64 => (k_is))
    (case a_h64 => (apply OM.fn_mk3; k_is; k_is; k_is))
    (case a_n65 => (k_is))
    (case a_h65 => (apply OM.fn_mk3; k_is; k_is; k_is))
    (case a_n66 => (k_is))
    (case a_h66 => (apply OM.fn_mk3; k_is; k_is; k_is))
    (case a_n67 => (k_is))
    (case a_h67 => (apply OM.fn_mk3; k_is; k_is; k_is))
    (case a_n68 => (k_is))
    (case a_h68 => (apply OM.fn_mk3; k_is; k_is; k_is))
    (case a_n69 => (k_is))
    (case a_h69 => (apply OM.fn_mk3; k_is; k_is; k_is))
    (case a_n70 => (k_is))
    (case a_h70 => (apply OM.fn_mk3; k_is; k_is; k_is))
    (case a_n71 => (k_is))
    (case a_h71 => (apply OM.fn_mk3; k_is; k_is; k_is))
    (case a_n72 => (k_is))
    (case a_h72 => (apply OM.fn_mk3; k_is; k_is; k_is))
    (case a_n73 => (k_is))
    (case a_h73 => (apply OM.fn_mk3; k_is; k_is; k_is))
    (case a_n74 => (k_is))
    (case a_h74 => (apply OM.fn_mk3; k_is; k_is; k_is))
    (case a_n75 => (k_is))
    (case a_h75 => (apply OM.fn_mk3; k_is; k_is; k_is))
    (case a_n76 => (k_is))
    (case a_h76 => (apply OM.fn_mk3; k_is; k_is; k_is))
